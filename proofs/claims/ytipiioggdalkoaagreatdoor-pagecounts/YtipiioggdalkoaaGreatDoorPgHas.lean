/- Contract of page.hasPage. -/
import Derived.Test.YtipiioggdalkoaaGreatDoorPgNext
import Derived.Test.YtipiioggdalkoaaGreatDoorPgCopy
namespace Go.Proofs.YtipiioggdalkoaaGreatDoor
open Go.RowKit
set_option linter.unusedVariables false
set_option linter.unusedSimpArgs false

set_option maxRecDepth 20000 in
set_option maxHeartbeats 1000000 in
theorem phas_any (F : Fl) (n : Int) (v : Value) (w : World) (hv : isFl F v w) (h1 : F.pages.length ≤ 1000000) (h2 : F.wear.length ≤ 1000000) :
    Calls Tryz.prog 42 #[v, .int .i64 n] w fun e w' => e = .returned (.bool (hasB F n)) ∧ Below w.heap.size w w' := by
  have HF := Lib.hid hv
  obtain ⟨vp, vw, rfl, hp, hw⟩ := hv
  obtain ⟨a, cap, hva⟩ := hp.len
  rw [List.length_map] at hva
  clear hp hw
  subst hva
  have HM := Lib.hid (show hasB F n = (mayB F && decide (0 ≤ n) && decide (n < F.pages.length)) from rfl)
  unfold strC at HF ⊢
  go_enter Tryz.func42, Tryz.ntmps42
  go_wp2_with fail
  have hb0 : Below w.heap.size w (w.alloc (.cells #[.slice a F.pages.length cap, vw, .int .i64 F.fuse, .string ⟨F.torn.toArray⟩, .bool F.dead] 31)) := (Below.refl _ _).alloc (Nat.le_refl _) _
  refine (check_any F _ _ (stable_fl _ _ _ _ HF.out hb0) (by omega) (by omega)).mono ?_
  rintro e w2 ⟨rfl, hb1⟩
  obtain ⟨hg, k0, k1, k2, k3, k4⟩ := (cells5_new w 31 (.slice a F.pages.length cap) vw (.int .i64 F.fuse) (.string ⟨F.torn.toArray⟩) (.bool F.dead)).keep hb1 (by simp)
  have hB := hb0.trans (hb1.mono hb0.size)
  clear hb1
  cases c1 : mayB F with
  | false =>
    have HE := Lib.hid (show checkE F = 1 by unfold checkE; rw [c1]; rfl)
    rw [HE.out]
    go_wp2
    go_ret
    exact ⟨by rw [HM.out, c1]; rfl, hB⟩
  | true =>
    have HE := Lib.hid (show checkE F = 0 by unfold checkE; rw [c1]; rfl)
    rw [HE.out]
    by_cases c2 : 0 ≤ n
    · have c2' : decide (0 ≤ n) = true := by simpa using c2
      go_wp2
      go_ret
      exact ⟨by rw [HM.out, c1, c2']; rfl, hB⟩
    · have c2' : decide (0 ≤ n) = false := by simpa using c2
      go_wp2
      go_ret
      exact ⟨by rw [HM.out, c1, c2']; rfl, hB⟩
end Go.Proofs.YtipiioggdalkoaaGreatDoor
