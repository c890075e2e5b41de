/- Contracts of package value: Check, Least, Sum. -/
import Derived.Test.YtebjljiklacolaaVaKindOf
namespace Go.Proofs.Ytebjljiklacolaa
open Go.RowKit
set_option linter.unusedVariables false
set_option linter.unusedSimpArgs false
attribute [local irreducible] setN

theorem kv_any (A : Va) (v : Value) (w : World) (hv : isVa A v w) (hF : Fit A) :
    Calls Try.prog 25 #[v] w fun e w' => e = .returned (.tuple #[ifaceK (kindN A), .bool (okV A)]) ∧ Below w.heap.size w w' := by
  unfold okV
  by_cases h1 : A.kind = 1
  · have hk : kindN A = if (inReg A && decide (A = onlyReg A)) = true then 1 else 0 := by unfold kindN; rw [if_pos h1]
    cases hI : inReg A with
    | false => rw [hk, hI]; exact kv_reg0_any A v w hv hF h1 hI
    | true =>
      have := kv_reg1_any A v w hv hF h1 hI _ rfl
      rw [hk, hI, Bool.true_and]
      cases hz : decide (A = onlyReg A) with
      | false => rw [hz] at this; exact this
      | true => rw [hz] at this; exact this
  · by_cases h2 : A.kind = 2
    · have hk : kindN A = if (inCount A && decide (A = onlyCount A)) = true then 2 else 0 := by unfold kindN; rw [if_neg h1, if_pos h2]
      cases hI : inCount A with
      | false => rw [hk, hI]; exact kv_count0_any A v w hv hF h2 hI
      | true =>
        have := kv_count1_any A v w hv hF h2 hI _ rfl
        rw [hk, hI, Bool.true_and]
        cases hz : decide (A = onlyCount A) with
        | false => rw [hz] at this; exact this
        | true => rw [hz] at this; exact this
    · by_cases h3 : A.kind = 3
      · have hk : kindN A = if decide (A = onlyFlags A) = true then 3 else 0 := by unfold kindN; rw [if_neg h1, if_neg h2, if_pos h3]
        have := kv_flags1_any A v w hv hF h3 _ rfl
        rw [hk]
        cases hz : decide (A = onlyFlags A) with
        | false => rw [hz] at this; exact this
        | true => rw [hz] at this; exact this
      · have hk : kindN A = 0 := by unfold kindN; rw [if_neg h1, if_neg h2, if_neg h3]
        rw [hk]
        exact kv_none_any A v w hv hF (by unfold kOf; rw [if_neg h1, if_neg h2, if_neg h3])
def checkV (A : Va) : Int := if okV A = true then 0 else 2
set_option maxRecDepth 20000 in
set_option maxHeartbeats 1000000 in
theorem vcheck_any (A : Va) (v : Value) (w : World) (hv : isVa A v w) (hF : Fit A) :
    Calls Try.prog 24 #[v] w fun e w' => e = .returned (.int .i64 (checkV A)) ∧ Below w.heap.size w w' := by
  obtain ⟨vp, vm, rfl, hp, hm⟩ := hv
  obtain ⟨hB, hV⟩ := vbox w A vp vm hp hm w.heap.size rfl
  have hX := Kept.mk (show isVa A (.agg #[.int .i64 A.kind, .int .i64 A.time, .int .i64 A.node, .bool A.dead, .string ⟨A.text.toArray⟩, vp, vm, .int .u64 (A.flags.toNat : Int)]) (w.alloc (.cells #[.int .i64 A.kind, .int .i64 A.time, .int .i64 A.node, .bool A.dead, .string ⟨A.text.toArray⟩, vp, vm, .int .u64 (A.flags.toNat : Int)] 25)) from ⟨vp, vm, rfl, stable_cells _ _ _ _ hp hB.out, stable_cells _ _ _ _ hm hB.out⟩)
  clear hp hm
  have HC := Kept.mk (show checkV A = if okV A = true then 0 else 2 from rfl)
  go_enter Try.func24, Try.ntmps24
  go_wp2_with fail
  refine (kv_any A _ _ hX.out hF).mono ?_
  rintro e w1 ⟨rfl, hb1⟩
  replace hB := Kept.mk (hB.out.trans (hb1.mono hB.out.size))
  clear hb1 hX hV
  generalize kindN A = kn
  cases hz : okV A with
  | false =>
    rw [hz] at HC
    go_wp2
    go_ret
    exact ⟨by rw [HC.out]; rfl, hB.out⟩
  | true =>
    rw [hz] at HC
    go_wp2
    go_ret
    exact ⟨by rw [HC.out]; rfl, hB.out⟩
theorem leastF_rows (k : Int) : (leastF k).plus.length ≤ 8 ∧ (leastF k).minus.length ≤ 8 := by
  unfold leastF
  split
  · exact ⟨by simp, by simp⟩
  · split
    · exact ⟨by simp, by simp⟩
    · split <;> exact ⟨by simp [zeroV], by simp [zeroV]⟩
end Go.Proofs.Ytebjljiklacolaa
