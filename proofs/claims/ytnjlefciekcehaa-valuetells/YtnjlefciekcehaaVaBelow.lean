/- Contracts of value.Below, and of what laws look at (Few). -/
import Derived.Test.YtnjlefciekcehaaVaApi2
namespace Go.Proofs.Ytnjlefciekcehaa
open Go.RowKit
set_option linter.unusedVariables false
set_option linter.unusedSimpArgs false
attribute [local irreducible] setN

theorem fit_zero : Fit zeroV := ⟨by decide, by decide, by decide⟩
theorem zip_len (l m : List Int) (h : l.length ≤ 1000000) : (List.zipWith maxI l m).length ≤ 1000000 := by rw [List.length_zipWith]; omega
theorem fit_join {A B : Va} (h1 : Fit A) (h2 : Fit B) : Fit (joinF A B) := by
  unfold joinF
  split
  · unfold joinV
    split
    · unfold joinReg
      split
      · exact ⟨h1.text, Nat.zero_le _, Nat.zero_le _⟩
      · exact ⟨h2.text, Nat.zero_le _, Nat.zero_le _⟩
    · split
      · exact ⟨Nat.zero_le _, zip_len _ _ h1.plus, zip_len _ _ h1.minus⟩
      · exact ⟨Nat.zero_le _, Nat.zero_le _, Nat.zero_le _⟩
  · exact fit_zero
theorem fit_least (k : Int) : Fit (leastF k) := by
  have := leastF_rows k
  refine ⟨?_, by omega, by omega⟩
  unfold leastF
  split
  · exact Nat.zero_le _
  · split
    · exact Nat.zero_le _
    · split <;> exact Nat.zero_le _
theorem vsame_fit (A B : Va) (v u : Value) (w : World) (hv : isVa A v w) (hu : isVa B u w) (h1 : Fit A) (h2 : Fit B) :
    Calls Try.prog 22 #[v, u] w fun e w' => e = .returned (.bool (decide (A = B))) ∧ Below w.heap.size w w' :=
  vsame_any A B v u w hv hu (by have := h1.plus; omega) (by have := h1.minus; omega) (by have := h2.plus; omega) (by have := h2.minus; omega)
def fewV (A : Va) : Bool := decide ((A.text.length : Int) ≤ 100) && decide ((A.plus.length : Int) ≤ 40) && decide ((A.minus.length : Int) ≤ 40)
theorem few_fit {A : Va} (h : fewV A = true) : Fit A := by
  unfold fewV at h
  simp only [Bool.and_eq_true, decide_eq_true_eq] at h
  exact ⟨by omega, by omega, by omega⟩
set_option maxRecDepth 20000 in
set_option maxHeartbeats 1000000 in
theorem vfew_any (A : Va) (v : Value) (w : World) (hv : isVa A v w) :
    Calls Try.prog 11 #[v] w fun e w' => e = .returned (.bool (fewV A)) ∧ Below w.heap.size w w' := by
  obtain ⟨vp, vm, rfl, hp, hm⟩ := hv
  obtain ⟨hB, _⟩ := vbox w A vp vm hp hm w.heap.size rfl
  obtain ⟨a, cap, rfl⟩ := hp.len
  obtain ⟨a2, cap2, rfl⟩ := hm.len
  clear hp hm
  rw [List.length_map, List.length_map] at *
  have HS := Kept.mk (show fewV A = (decide ((A.text.length : Int) ≤ 100) && decide ((A.plus.length : Int) ≤ 40) && decide ((A.minus.length : Int) ≤ 40)) from rfl)
  have hsz : (⟨A.text.toArray⟩ : ByteArray).size = A.text.length := size_mk _
  cases d1 : decide ((A.text.length : Int) ≤ 100) with
  | false =>
    go_enter Try.func11, Try.ntmps11
    go_wp2
    go_ret
    exact ⟨by rw [HS.out, d1]; rfl, hB.out⟩
  | true =>
    cases d2 : decide ((A.plus.length : Int) ≤ 40) with
    | false =>
      go_enter Try.func11, Try.ntmps11
      go_wp2
      go_ret
      exact ⟨by rw [HS.out, d1, d2]; rfl, hB.out⟩
    | true =>
      go_enter Try.func11, Try.ntmps11
      go_wp2
      go_ret
      exact ⟨by rw [HS.out, d1, d2]; rfl, hB.out⟩
set_option maxRecDepth 20000 in
set_option maxHeartbeats 1000000 in
theorem vbelow_no (A B : Va) (v u : Value) (w : World) (hv : isVa A v w) (hu : isVa B u w) (hA : Fit A) (hC : Fit B) (he : (joinE A B == 0) = false) :
    Calls Try.prog 21 #[v, u] w fun e w' => e = .returned (.bool (belowB A B)) ∧ Below w.heap.size w w' := by
  have hv0 := hv
  have hu0 := hu
  obtain ⟨pa, ma, rfl, hpa, hma⟩ := hv
  obtain ⟨pb, mb, rfl, hpb, hmb⟩ := hu
  obtain ⟨hB, Va⟩ := vbox w A pa ma hpa hma (w.heap.size) (by simp)
  obtain ⟨hBn, Vb⟩ := vbox (w.alloc (.cells #[.int .i64 A.kind, .int .i64 A.time, .int .i64 A.node, .bool A.dead, .string ⟨A.text.toArray⟩, pa, ma, .int .u64 (A.flags.toNat : Int)] 25)) B pb mb (stable_cells _ _ _ _ hpb hB.out) (stable_cells _ _ _ _ hmb hB.out) (w.heap.size + 1) (by simp)
  replace Va := Kept.mk (Va.out.keep hBn.out)
  replace hB := Kept.mk (hB.out.trans (hBn.out.mono hB.out.size))
  clear hBn
  clear hpa hma hpb hmb
  have HS := Kept.mk (show belowB A B = ((joinE A B == 0) && decide (joinF A B = B)) by unfold belowB; cases h : (joinE A B == 0) <;> simp at h <;> simp [h])
  rw [he] at HS
  have HA := Kept.mk (va_grow hv0 hB.out)
  have HU := Kept.mk (va_grow hu0 hB.out)
  clear hv0 hu0
  go_enter Try.func21, Try.ntmps21
  go_wp2_with fail
  generalize (w.alloc (.cells #[.int .i64 A.kind, .int .i64 A.time, .int .i64 A.node, .bool A.dead, .string ⟨A.text.toArray⟩, pa, ma, .int .u64 (A.flags.toNat : Int)] 25)).alloc (.cells #[.int .i64 B.kind, .int .i64 B.time, .int .i64 B.node, .bool B.dead, .string ⟨B.text.toArray⟩, pb, mb, .int .u64 (B.flags.toNat : Int)] 25) = W0 at *
  ((with_reducible refine (vjoin_any A B _ _ _ HA.out HU.out hA hC).mono ?_); rintro e U ⟨v', rfl, ⟨p', m', rfl, hp', hm', _, _⟩, hb1⟩)
  obtain ⟨K1, K2, K3, K4, K5⟩ := vnew U (joinF A B) p' m' hp' hm' U.heap.size rfl
  clear hp' hm'
  replace hB := Kept.mk (hB.out.trans ((hb1).mono hB.out.size))
  replace Va := Kept.mk (Va.out.keep (hb1))
  replace Vb := Kept.mk (Vb.out.keep (hb1))
  clear hb1
  go_wp2_with (have hz0 := K1; refine wpList_storeN 25 rfl (.tmp 5) (.tmp 11) rfl U.heap.size [.int .i64 (joinF A B).kind, .int .i64 (joinF A B).time, .int .i64 (joinF A B).node, .bool (joinF A B).dead, .string ⟨(joinF A B).text.toArray⟩, p', m', .int .u64 ((joinF A B).flags.toNat : Int)] size_va rfl rfl K1.out rfl K2.out K5.out ?_; replace hB := Kept.mk (hB.out.trans ((K3.out).mono hB.out.size)); replace Va := Kept.mk (Va.out.keep (K3.out)); replace Vb := Kept.mk (Vb.out.keep (K3.out)); have Vj := Kept.mk K4.out.var; clear hz0 K1 K2 K3 K4 K5; generalize setN (U.alloc (.cells #[.int .i64 0, .int .i64 0, .int .i64 0, .bool false, .string ⟨#[]⟩, .slice none 0 0, .slice none 0 0, .int .u64 0] 25)) U.heap.size 0 [.int .i64 (joinF A B).kind, .int .i64 (joinF A B).time, .int .i64 (joinF A B).node, .bool (joinF A B).dead, .string ⟨(joinF A B).text.toArray⟩, p', m', .int .u64 ((joinF A B).flags.toNat : Int)] = W1 at *; generalize U.heap.size = gj at *)
  go_ret
  exact ⟨by rw [HS.out]; rfl, hB.out⟩
set_option maxRecDepth 20000 in
set_option maxHeartbeats 1000000 in
theorem vbelow_yes (A B : Va) (v u : Value) (w : World) (hv : isVa A v w) (hu : isVa B u w) (hA : Fit A) (hC : Fit B) (he : (joinE A B == 0) = true) :
    Calls Try.prog 21 #[v, u] w fun e w' => e = .returned (.bool (belowB A B)) ∧ Below w.heap.size w w' := by
  have hv0 := hv
  have hu0 := hu
  obtain ⟨pa, ma, rfl, hpa, hma⟩ := hv
  obtain ⟨pb, mb, rfl, hpb, hmb⟩ := hu
  obtain ⟨hB, Va⟩ := vbox w A pa ma hpa hma (w.heap.size) (by simp)
  obtain ⟨hBn, Vb⟩ := vbox (w.alloc (.cells #[.int .i64 A.kind, .int .i64 A.time, .int .i64 A.node, .bool A.dead, .string ⟨A.text.toArray⟩, pa, ma, .int .u64 (A.flags.toNat : Int)] 25)) B pb mb (stable_cells _ _ _ _ hpb hB.out) (stable_cells _ _ _ _ hmb hB.out) (w.heap.size + 1) (by simp)
  replace Va := Kept.mk (Va.out.keep hBn.out)
  replace hB := Kept.mk (hB.out.trans (hBn.out.mono hB.out.size))
  clear hBn
  clear hpa hma hpb hmb
  have HS := Kept.mk (show belowB A B = ((joinE A B == 0) && decide (joinF A B = B)) by unfold belowB; cases h : (joinE A B == 0) <;> simp at h <;> simp [h])
  rw [he] at HS
  have HA := Kept.mk (va_grow hv0 hB.out)
  have HU := Kept.mk (va_grow hu0 hB.out)
  clear hv0 hu0
  go_enter Try.func21, Try.ntmps21
  go_wp2_with fail
  generalize (w.alloc (.cells #[.int .i64 A.kind, .int .i64 A.time, .int .i64 A.node, .bool A.dead, .string ⟨A.text.toArray⟩, pa, ma, .int .u64 (A.flags.toNat : Int)] 25)).alloc (.cells #[.int .i64 B.kind, .int .i64 B.time, .int .i64 B.node, .bool B.dead, .string ⟨B.text.toArray⟩, pb, mb, .int .u64 (B.flags.toNat : Int)] 25) = W0 at *
  ((with_reducible refine (vjoin_any A B _ _ _ HA.out HU.out hA hC).mono ?_); rintro e U ⟨v', rfl, ⟨p', m', rfl, hp', hm', _, _⟩, hb1⟩)
  obtain ⟨K1, K2, K3, K4, K5⟩ := vnew U (joinF A B) p' m' hp' hm' U.heap.size rfl
  clear hp' hm'
  replace hB := Kept.mk (hB.out.trans ((hb1).mono hB.out.size))
  replace Va := Kept.mk (Va.out.keep (hb1))
  replace Vb := Kept.mk (Vb.out.keep (hb1))
  clear hb1
  go_wp2_with (have hz0 := K1; refine wpList_storeN 25 rfl (.tmp 5) (.tmp 11) rfl U.heap.size [.int .i64 (joinF A B).kind, .int .i64 (joinF A B).time, .int .i64 (joinF A B).node, .bool (joinF A B).dead, .string ⟨(joinF A B).text.toArray⟩, p', m', .int .u64 ((joinF A B).flags.toNat : Int)] size_va rfl rfl K1.out rfl K2.out K5.out ?_; replace hB := Kept.mk (hB.out.trans ((K3.out).mono hB.out.size)); replace Va := Kept.mk (Va.out.keep (K3.out)); replace Vb := Kept.mk (Vb.out.keep (K3.out)); have Vj := Kept.mk K4.out.var; clear hz0 K1 K2 K3 K4 K5; generalize setN (U.alloc (.cells #[.int .i64 0, .int .i64 0, .int .i64 0, .bool false, .string ⟨#[]⟩, .slice none 0 0, .slice none 0 0, .int .u64 0] 25)) U.heap.size 0 [.int .i64 (joinF A B).kind, .int .i64 (joinF A B).time, .int .i64 (joinF A B).node, .bool (joinF A B).dead, .string ⟨(joinF A B).text.toArray⟩, p', m', .int .u64 ((joinF A B).flags.toNat : Int)] = W1 at *; generalize U.heap.size = gj at *; obtain ⟨qj, rj, xj, -, -, kj0, kj1, kj2, kj3, kj4, kj5, kj6, kj7⟩ := Vj.out.open_; have Xj := Kept.mk xj; clear xj; obtain ⟨qb, rb, xb, -, -, kb0, kb1, kb2, kb3, kb4, kb5, kb6, kb7⟩ := Vb.out.open_; have Xb := Kept.mk xb; clear xb)
  ((with_reducible refine (vsame_fit (joinF A B) B _ _ _ Xj.out Xb.out (fit_join hA hC) hC).mono ?_); rintro e W2 ⟨rfl, hb1⟩)
  clear Xj kj0 kj1 kj2 kj3 kj4 kj5 kj6 kj7
  clear Xb kb0 kb1 kb2 kb3 kb4 kb5 kb6 kb7
  replace hB := Kept.mk (hB.out.trans ((hb1).mono hB.out.size))
  replace Va := Kept.mk (Va.out.keep (hb1))
  replace Vb := Kept.mk (Vb.out.keep (hb1))
  replace Vj := Kept.mk (Vj.out.keep (hb1))
  clear hb1
  obtain ⟨z, hz⟩ : ∃ z, z = decide (joinF A B = B) := ⟨_, rfl⟩
  rw [← hz] at HS ⊢
  clear hz
  go_wp2
  go_ret
  exact ⟨by rw [HS.out]; rfl, hB.out⟩
theorem vbelow_any (A B : Va) (v u : Value) (w : World) (hv : isVa A v w) (hu : isVa B u w) (hA : Fit A) (hC : Fit B) :
    Calls Try.prog 21 #[v, u] w fun e w' => e = .returned (.bool (belowB A B)) ∧ Below w.heap.size w w' := by
  cases h : (joinE A B == 0) with
  | false => exact vbelow_no A B v u w hv hu hA hC h
  | true => exact vbelow_yes A B v u w hv hu hA hC h
end Go.Proofs.Ytnjlefciekcehaa
