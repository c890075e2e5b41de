/- Contract of value.Same. -/
import Derived.Test.YtebjljiklacolaaVaVar
namespace Go.Proofs.Ytebjljiklacolaa
open Go.RowKit
set_option linter.unusedVariables false
set_option linter.unusedSimpArgs false

theorem same_split (A B : Va) : decide (A = B) = ((A.kind == B.kind) && (A.time == B.time) && (A.node == B.node) && (A.dead == B.dead) && (A.text == B.text) && decide (A.plus = B.plus) && decide (A.minus = B.minus) && ((A.flags.toNat : Int) == (B.flags.toNat : Int))) := by
  obtain ⟨a0, a1, a2, a3, a4, a5, a6, a7⟩ := A
  obtain ⟨b0, b1, b2, b3, b4, b5, b6, b7⟩ := B
  rw [Bool.eq_iff_iff]
  simp only [decide_eq_true_eq, Bool.and_eq_true, beq_iff_eq, Va.mk.injEq]
  have h7 : a7 = b7 ↔ (a7.toNat : Int) = (b7.toNat : Int) := by rw [← UInt64.toNat_inj]; omega
  rw [h7]
  constructor
  · rintro ⟨h0, h1, h2, h3, h4, h5, h6, h7⟩; exact ⟨⟨⟨⟨⟨⟨⟨h0, h1⟩, h2⟩, h3⟩, h4⟩, h5⟩, h6⟩, h7⟩
  · rintro ⟨⟨⟨⟨⟨⟨⟨h0, h1⟩, h2⟩, h3⟩, h4⟩, h5⟩, h6⟩, h7⟩; exact ⟨h0, h1, h2, h3, h4, h5, h6, h7⟩
set_option maxRecDepth 20000 in
set_option maxHeartbeats 2000000 in
theorem vsame_any (A B : Va) (v u : Value) (w : World) (hv : isVa A v w) (hu : isVa B u w) (h1 : A.plus.length ≤ 1000000000) (h2 : A.minus.length ≤ 1000000000) (h3 : B.plus.length ≤ 1000000000) (h4 : B.minus.length ≤ 1000000000) :
    Calls Try.prog 16 #[v, u] w fun e w' => e = .returned (.bool (decide (A = B))) ∧ Below w.heap.size w w' := by
  obtain ⟨vp, vm, rfl, hp, hm⟩ := hv
  obtain ⟨up, um, rfl, gp, gm⟩ := hu
  obtain ⟨hB0, hV0⟩ := vbox w A vp vm hp hm w.heap.size rfl
  obtain ⟨hB1, hU⟩ := vbox _ B up um (stable_cells _ _ _ _ gp hB0.out) (stable_cells _ _ _ _ gm hB0.out) (w.heap.size + 1) (by simp)
  have hV := Kept.mk (hV0.out.keep hB1.out)
  have hB := Kept.mk (hB0.out.trans (hB1.out.mono hB0.out.size))
  have HP := Kept.mk hp
  have HM := Kept.mk hm
  have GP := Kept.mk gp
  have GM := Kept.mk gm
  have HS := Kept.mk (same_split A B)
  clear hp hm gp gm hV0 hB0 hB1
  cases d0 : (A.kind == B.kind) with
  | false =>
    go_enter Try.func16, Try.ntmps16
    go_wp2
    go_ret
    exact ⟨by rw [HS.out, d0]; rfl, hB.out⟩
  | true =>
    cases d1 : (A.time == B.time) with
    | false =>
      go_enter Try.func16, Try.ntmps16
      go_wp2
      go_ret
      exact ⟨by rw [HS.out, d0, d1]; rfl, hB.out⟩
    | true =>
      cases d2 : (A.node == B.node) with
      | false =>
        go_enter Try.func16, Try.ntmps16
        go_wp2
        go_ret
        exact ⟨by rw [HS.out, d0, d1, d2]; rfl, hB.out⟩
      | true =>
        cases d3 : (A.dead == B.dead) with
        | false =>
          go_enter Try.func16, Try.ntmps16
          go_wp2
          go_ret
          exact ⟨by rw [HS.out, d0, d1, d2, d3]; rfl, hB.out⟩
        | true =>
          cases d4 : (A.text == B.text) with
          | false =>
            go_enter Try.func16, Try.ntmps16
            go_wp2
            go_ret
            exact ⟨by rw [HS.out, d0, d1, d2, d3, d4]; rfl, hB.out⟩
          | true =>
            go_enter Try.func16, Try.ntmps16
            go_wp2_with fail
            refine (equal_i A.plus B.plus _ _ _ (stable_cells _ _ _ _ HP.out hB.out) (stable_cells _ _ _ _ GP.out hB.out) (by omega) (by omega)).mono ?_
            rintro e w5 ⟨rfl, hb⟩
            replace hV := Kept.mk (hV.out.keep hb)
            replace hU := Kept.mk (hU.out.keep hb)
            replace hB := Kept.mk (hB.out.trans (hb.mono hB.out.size))
            clear hb
            obtain ⟨qA5, rA5, _, _, hmA, kA0, kA1, kA2, kA3, kA4, kA5, kA6, kA7⟩ := hV.out.open_
            obtain ⟨qB5, rB5, _, _, hmB, kB0, kB1, kB2, kB3, kB4, kB5, kB6, kB7⟩ := hU.out.open_
            cases d5 : decide (A.plus = B.plus) with
            | false =>
              go_wp2
              go_ret
              exact ⟨by rw [HS.out, d0, d1, d2, d3, d4, d5]; rfl, hB.out⟩
            | true =>
              have HP2 := Kept.mk (show True from trivial)
              go_wp2_with fail
              refine (equal_i A.minus B.minus _ _ _ hmA.out hmB.out (by omega) (by omega)).mono ?_
              rintro e w6 ⟨rfl, hb⟩
              replace hV := Kept.mk (hV.out.keep hb)
              replace hU := Kept.mk (hU.out.keep hb)
              replace hB := Kept.mk (hB.out.trans (hb.mono hB.out.size))
              clear hb
              clear hmA hmB kA0 kA1 kA2 kA3 kA4 kA5 kA6 kA7 kB0 kB1 kB2 kB3 kB4 kB5 kB6 kB7
              obtain ⟨qA6, rA6, _, _, hmA, kA0, kA1, kA2, kA3, kA4, kA5, kA6, kA7⟩ := hV.out.open_
              obtain ⟨qB6, rB6, _, _, hmB, kB0, kB1, kB2, kB3, kB4, kB5, kB6, kB7⟩ := hU.out.open_
              cases d6 : decide (A.minus = B.minus) with
              | false =>
                go_wp2
                go_ret
                exact ⟨by rw [HS.out, d0, d1, d2, d3, d4, d5, d6]; rfl, hB.out⟩
              | true =>
                cases d7 : ((A.flags.toNat : Int) == (B.flags.toNat : Int)) with
                | false =>
                  go_wp2
                  go_ret
                  exact ⟨by rw [HS.out, d0, d1, d2, d3, d4, d5, d6, d7]; rfl, hB.out⟩
                | true =>
                  go_wp2
                  go_ret
                  exact ⟨by rw [HS.out, d0, d1, d2, d3, d4, d5, d6, d7]; rfl, hB.out⟩
end Go.Proofs.Ytebjljiklacolaa
