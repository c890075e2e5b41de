/- works() of layer 2: the document's example, and a seal. -/
import Derived.Test.YtfofapickblpaaaDoorCrcWalk
namespace Go.Proofs.YtfofapickblpaaaDoor
open Go.RowKit
set_option linter.unusedVariables false

theorem w_seal (w : World) : Calls Tryd.prog 17 #[.string ⟨#[114, 105, 110, 103]⟩] w fun e w' => e = .returned (.string ⟨#[114, 105, 110, 103, 118, 245, 220, 143]⟩) ∧ Below w.heap.size w w' := by
  have h := seal_any [114, 105, 110, 103] w (by decide)
  rwa [show sealL [114, 105, 110, 103] = [114, 105, 110, 103, 118, 245, 220, 143] by decide +kernel] at h
theorem w_open (w : World) : Calls Tryd.prog 14 #[.string ⟨#[114, 105, 110, 103, 118, 245, 220, 143]⟩] w fun e w' => e = .returned (.tuple #[.string ⟨#[114, 105, 110, 103]⟩, .int .i64 0]) ∧ Below w.heap.size w w' := by
  have h := open_any [114, 105, 110, 103, 118, 245, 220, 143] w (by decide)
  rwa [show openS [114, 105, 110, 103, 118, 245, 220, 143] = [114, 105, 110, 103] by decide +kernel, show openE [114, 105, 110, 103, 118, 245, 220, 143] = 0 by decide +kernel] at h
theorem w_no (w : World) : Calls Tryd.prog 14 #[.string ⟨#[114, 105, 110, 103, 118, 245, 220, 143, 120]⟩] w fun e w' => e = .returned (.tuple #[.string ⟨#[]⟩, .int .i64 2]) ∧ Below w.heap.size w w' := by
  have h := open_any [114, 105, 110, 103, 118, 245, 220, 143, 120] w (by decide)
  rwa [show openS [114, 105, 110, 103, 118, 245, 220, 143, 120] = [] by decide +kernel, show openE [114, 105, 110, 103, 118, 245, 220, 143, 120] = 2 by decide +kernel] at h
theorem w_sum5 (w : World) : Calls Tryd.prog 16 #[.string ⟨#[49, 50, 51, 52, 53]⟩] w fun e w' => e = .returned (.int .i64 3421846044) ∧ w = w' := by
  have h := sum_any [49, 50, 51, 52, 53] w (by decide)
  rwa [show sumN [49, 50, 51, 52, 53] = 3421846044 by decide +kernel] at h
theorem w_sum9 (w : World) : Calls Tryd.prog 16 #[.string ⟨#[49, 50, 51, 52, 53, 54, 55, 56, 57]⟩] w fun e w' => e = .returned (.int .i64 3421780262) ∧ w = w' := by
  have h := sum_any [49, 50, 51, 52, 53, 54, 55, 56, 57] w (by decide)
  rwa [show sumN [49, 50, 51, 52, 53, 54, 55, 56, 57] = 3421780262 by decide +kernel] at h
theorem w_sum0 (w : World) : Calls Tryd.prog 16 #[.string ⟨#[]⟩] w fun e w' => e = .returned (.int .i64 0) ∧ w = w' := by
  have h := sum_any [] w (by decide)
  rwa [show sumN [] = 0 by decide +kernel] at h
theorem w_add (w : World) : Calls Tryd.prog 11 #[.int .i64 3421846044, .string ⟨#[54, 55, 56, 57]⟩] w fun e w' => e = .returned (.tuple #[.int .i64 3421780262, .int .i64 0]) ∧ w = w' := by
  have h := add_yes 3421846044 [54, 55, 56, 57] w (by decide) (by decide)
  rwa [show addN 3421846044 [54, 55, 56, 57] = 3421780262 by decide +kernel] at h
theorem w_add0 (w : World) : Calls Tryd.prog 11 #[.int .i64 (-1), .string ⟨#[]⟩] w fun e w' => e = .returned (.tuple #[.int .i64 0, .int .i64 1]) ∧ w = w' :=
  add_no (-1) _ w (by decide)

set_option maxRecDepth 100000 in
set_option maxHeartbeats 2000000 in
theorem works_any (w : World) : Calls Tryd.prog 9 #[] w fun e w' => e = .returned (.bool true) ∧ Below w.heap.size w w' := by
  have hcat : ∀ W, _ := fun W => run_string_add_lists (P := Tryd.prog) W [114, 105, 110, 103, 118, 245, 220, 143] [120] (by decide) (by decide)
  go_enter Tryd.func9, Tryd.ntmps9
  go_wp2_with fail
  refine (w_seal _).mono ?_; rintro e w1 ⟨rfl, hB⟩
  go_wp2_with fail
  refine (w_open _).mono ?_; rintro e w2 ⟨rfl, hb2⟩; replace hB := hB.trans (hb2.mono hB.size); clear hb2
  go_wp2_with fail
  refine (w_no _).mono ?_; rintro e w2 ⟨rfl, hb2⟩; replace hB := hB.trans (hb2.mono hB.size); clear hb2
  go_wp2_with fail
  refine (w_sum5 _).mono ?_; rintro e w2 ⟨rfl, rfl⟩
  go_wp2_with fail
  refine (w_add _).mono ?_; rintro e w2 ⟨rfl, rfl⟩
  go_wp2_with fail
  refine (w_add0 _).mono ?_; rintro e w2 ⟨rfl, rfl⟩
  go_wp2_with fail
  refine (w_sum9 _).mono ?_; rintro e w2 ⟨rfl, rfl⟩
  go_wp2_with fail
  refine (w_sum0 _).mono ?_; rintro e w2 ⟨rfl, rfl⟩
  go_wp2
  go_ret
  exact ⟨rfl, hB⟩
end Go.Proofs.YtfofapickblpaaaDoor
