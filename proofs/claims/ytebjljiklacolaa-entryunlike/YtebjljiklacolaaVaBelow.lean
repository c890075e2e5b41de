/- Contracts of value.Below, and of what laws look at (Few). -/
import Derived.Test.YtebjljiklacolaaVaApi2
namespace Go.Proofs.Ytebjljiklacolaa
open Go.RowKit
set_option linter.unusedVariables false
set_option linter.unusedSimpArgs false
attribute [local irreducible] setN

theorem fit_zero : Fit zeroV := ⟨by decide, by decide, by decide⟩
theorem zip_len (l m : List Int) (h : l.length ≤ 1000000) : (List.zipWith maxI l m).length ≤ 1000000 := by rw [List.length_zipWith]; omega
theorem fit_join {A B : Va} (h1 : Fit A) (h2 : Fit B) : Fit (joinF A B) := by
  unfold joinF
  split
  · unfold joinV
    split
    · unfold joinReg
      split
      · exact ⟨h1.text, Nat.zero_le _, Nat.zero_le _⟩
      · exact ⟨h2.text, Nat.zero_le _, Nat.zero_le _⟩
    · split
      · exact ⟨Nat.zero_le _, zip_len _ _ h1.plus, zip_len _ _ h1.minus⟩
      · exact ⟨Nat.zero_le _, Nat.zero_le _, Nat.zero_le _⟩
  · exact fit_zero
theorem fit_least (k : Int) : Fit (leastF k) := by
  have := leastF_rows k
  refine ⟨?_, by omega, by omega⟩
  unfold leastF
  split
  · exact Nat.zero_le _
  · split
    · exact Nat.zero_le _
    · split <;> exact Nat.zero_le _
theorem vsame_fit (A B : Va) (v u : Value) (w : World) (hv : isVa A v w) (hu : isVa B u w) (h1 : Fit A) (h2 : Fit B) :
    Calls Try.prog 16 #[v, u] w fun e w' => e = .returned (.bool (decide (A = B))) ∧ Below w.heap.size w w' :=
  vsame_any A B v u w hv hu (by have := h1.plus; omega) (by have := h1.minus; omega) (by have := h2.plus; omega) (by have := h2.minus; omega)
def fewV (A : Va) : Bool := decide ((A.text.length : Int) ≤ 100) && decide ((A.plus.length : Int) ≤ 40) && decide ((A.minus.length : Int) ≤ 40)
theorem few_fit {A : Va} (h : fewV A = true) : Fit A := by
  unfold fewV at h
  simp only [Bool.and_eq_true, decide_eq_true_eq] at h
  exact ⟨by omega, by omega, by omega⟩
set_option maxRecDepth 20000 in
set_option maxHeartbeats 1000000 in
theorem vfew_any (A : Va) (v : Value) (w : World) (hv : isVa A v w) :
    Calls Try.prog 17 #[v] w fun e w' => e = .returned (.bool (fewV A)) ∧ Below w.heap.size w w' := by
  obtain ⟨vp, vm, rfl, hp, hm⟩ := hv
  obtain ⟨hB, _⟩ := vbox w A vp vm hp hm w.heap.size rfl
  obtain ⟨a, cap, rfl⟩ := hp.len
  obtain ⟨a2, cap2, rfl⟩ := hm.len
  clear hp hm
  rw [List.length_map, List.length_map] at *
  have HS := Kept.mk (show fewV A = (decide ((A.text.length : Int) ≤ 100) && decide ((A.plus.length : Int) ≤ 40) && decide ((A.minus.length : Int) ≤ 40)) from rfl)
  have hsz : (⟨A.text.toArray⟩ : ByteArray).size = A.text.length := size_mk _
  cases d1 : decide ((A.text.length : Int) ≤ 100) with
  | false =>
    go_enter Try.func17, Try.ntmps17
    go_wp2
    go_ret
    exact ⟨by rw [HS.out, d1]; rfl, hB.out⟩
  | true =>
    cases d2 : decide ((A.plus.length : Int) ≤ 40) with
    | false =>
      go_enter Try.func17, Try.ntmps17
      go_wp2
      go_ret
      exact ⟨by rw [HS.out, d1, d2]; rfl, hB.out⟩
    | true =>
      go_enter Try.func17, Try.ntmps17
      go_wp2
      go_ret
      exact ⟨by rw [HS.out, d1, d2]; rfl, hB.out⟩
end Go.Proofs.Ytebjljiklacolaa
