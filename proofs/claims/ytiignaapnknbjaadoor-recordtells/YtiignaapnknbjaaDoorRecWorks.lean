/- works() of layer 4: the document's example, and a record. -/
import Derived.Test.YtiignaapnknbjaaDoorRecWalk
namespace Go.Proofs.YtiignaapnknbjaaDoor
open Go.RowKit
set_option linter.unusedVariables false

theorem w_make (w : World) : Calls Tryd.prog 15 #[.string ⟨#[107]⟩] w fun e w' => e = .returned (.string ⟨#[107, 93, 87, 98, 8, 148, 162, 168, 157, 247]⟩) ∧ Below w.heap.size w w' := by
  have h := make_any [107] w (by decide)
  rwa [show recL [107] = [107, 93, 87, 98, 8, 148, 162, 168, 157, 247] by decide +kernel] at h
theorem w_read (w : World) : Calls Tryd.prog 11 #[.string ⟨#[107, 93, 87, 98, 8, 148, 162, 168, 157, 247]⟩] w fun e w' => e = .returned (.tuple #[.string ⟨#[107]⟩, .int .i64 0]) ∧ Below w.heap.size w w' := by
  have h := read_any [107, 93, 87, 98, 8, 148, 162, 168, 157, 247] w (by decide)
  rwa [show readS [107, 93, 87, 98, 8, 148, 162, 168, 157, 247] = [107] by decide +kernel, show readE [107, 93, 87, 98, 8, 148, 162, 168, 157, 247] = 0 by decide +kernel] at h
theorem w_no (w : World) : Calls Tryd.prog 11 #[.string ⟨#[107, 93, 87, 98, 8, 148, 162, 168, 157, 247, 120]⟩] w fun e w' => e = .returned (.tuple #[.string ⟨#[]⟩, .int .i64 2]) ∧ Below w.heap.size w w' := by
  have h := read_any [107, 93, 87, 98, 8, 148, 162, 168, 157, 247, 120] w (by decide)
  rwa [show readS [107, 93, 87, 98, 8, 148, 162, 168, 157, 247, 120] = [] by decide +kernel, show readE [107, 93, 87, 98, 8, 148, 162, 168, 157, 247, 120] = 2 by decide +kernel] at h
theorem w_none (w : World) : Calls Tryd.prog 11 #[.string ⟨#[255, 255, 255, 255, 255, 255, 255, 255, 255, 255]⟩] w fun e w' => e = .returned (.tuple #[.string ⟨#[]⟩, .int .i64 2]) ∧ Below w.heap.size w w' := by
  have h := read_any [255, 255, 255, 255, 255, 255, 255, 255, 255, 255] w (by decide)
  rwa [show readS [255, 255, 255, 255, 255, 255, 255, 255, 255, 255] = [] by decide +kernel, show readE [255, 255, 255, 255, 255, 255, 255, 255, 255, 255] = 2 by decide +kernel] at h
theorem w_ones10 (w : World) : Calls Tryd.prog 21 #[.int .i64 10] w fun e w' => e = .returned (.string ⟨#[255, 255, 255, 255, 255, 255, 255, 255, 255, 255]⟩) ∧ Below w.heap.size w w' := by
  have h := ones_any 10 w
  rwa [show onesL 10 = [255, 255, 255, 255, 255, 255, 255, 255, 255, 255] by decide +kernel] at h
theorem w_ones3 (w : World) : Calls Tryd.prog 21 #[.int .i64 3] w fun e w' => e = .returned (.string ⟨#[255, 255, 255]⟩) ∧ Below w.heap.size w w' := by
  have h := ones_any 3 w
  rwa [show onesL 3 = [255, 255, 255] by decide +kernel] at h
theorem w_size (w : World) : Calls Tryd.prog 16 #[.int .i64 (1)] w fun e w' => e = .returned (.int .i64 10) ∧ w = w' := by
  have h := size_any (1) w
  rwa [show sizeN (1) = 10 by decide +kernel] at h
theorem w_size0 (w : World) : Calls Tryd.prog 16 #[.int .i64 (-1)] w fun e w' => e = .returned (.int .i64 0) ∧ w = w' := by
  have h := size_any (-1) w
  rwa [show sizeN (-1) = 0 by decide +kernel] at h
theorem w_clear3 (w : World) : Calls Tryd.prog 17 #[.string ⟨#[255, 255, 255]⟩] w fun e w' => e = .returned (.bool true) ∧ Below w.heap.size w w' := by
  have h := clear_any ⟨#[255, 255, 255]⟩ w (by decide)
  rwa [show clearL (ByteArray.mk #[255, 255, 255]).data.toList = true by decide +kernel] at h
theorem w_clear0 (w : World) : Calls Tryd.prog 17 #[.string ⟨#[]⟩] w fun e w' => e = .returned (.bool true) ∧ Below w.heap.size w w' := by
  have h := clear_any ⟨#[]⟩ w (by decide)
  rwa [show clearL (ByteArray.mk #[]).data.toList = true by decide +kernel] at h
theorem w_clear (w : World) : Calls Tryd.prog 17 #[.string ⟨#[107, 93, 87, 98, 8, 148, 162, 168, 157, 247]⟩] w fun e w' => e = .returned (.bool false) ∧ Below w.heap.size w w' := by
  have h := clear_any ⟨#[107, 93, 87, 98, 8, 148, 162, 168, 157, 247]⟩ w (by decide)
  rwa [show clearL (ByteArray.mk #[107, 93, 87, 98, 8, 148, 162, 168, 157, 247]).data.toList = false by decide +kernel] at h

set_option maxRecDepth 100000 in
set_option maxHeartbeats 2000000 in
theorem works_any (w : World) : Calls Tryd.prog 9 #[] w fun e w' => e = .returned (.bool true) ∧ Below w.heap.size w w' := by
  have hcat : ∀ W, _ := fun W => run_string_add_lists (P := Tryd.prog) W [107, 93, 87, 98, 8, 148, 162, 168, 157, 247] [120] (by decide) (by decide)
  go_enter Tryd.func9, Tryd.ntmps9
  go_wp2_with fail
  refine (w_make _).mono ?_; rintro e w1 ⟨rfl, hB⟩
  go_wp2_with fail
  refine (w_read _).mono ?_; rintro e w2 ⟨rfl, hb2⟩; replace hB := hB.trans (hb2.mono hB.size); clear hb2
  go_wp2_with fail
  refine (w_no _).mono ?_; rintro e w2 ⟨rfl, hb2⟩; replace hB := hB.trans (hb2.mono hB.size); clear hb2
  go_wp2_with fail
  refine (w_ones10 _).mono ?_; rintro e w2 ⟨rfl, hb2⟩; replace hB := hB.trans (hb2.mono hB.size); clear hb2
  go_wp2_with fail
  refine (w_none _).mono ?_; rintro e w2 ⟨rfl, hb2⟩; replace hB := hB.trans (hb2.mono hB.size); clear hb2
  go_wp2_with fail
  refine (w_size _).mono ?_; rintro e w2 ⟨rfl, rfl⟩
  go_wp2_with fail
  refine (w_size0 _).mono ?_; rintro e w2 ⟨rfl, rfl⟩
  go_wp2_with fail
  refine (w_ones3 _).mono ?_; rintro e w2 ⟨rfl, hb2⟩; replace hB := hB.trans (hb2.mono hB.size); clear hb2
  go_wp2_with fail
  refine (w_clear3 _).mono ?_; rintro e w2 ⟨rfl, hb2⟩; replace hB := hB.trans (hb2.mono hB.size); clear hb2
  go_wp2_with fail
  refine (w_clear0 _).mono ?_; rintro e w2 ⟨rfl, hb2⟩; replace hB := hB.trans (hb2.mono hB.size); clear hb2
  go_wp2_with fail
  refine (w_clear _).mono ?_; rintro e w2 ⟨rfl, hb2⟩; replace hB := hB.trans (hb2.mono hB.size); clear hb2
  go_wp2
  go_ret
  exact ⟨rfl, hB⟩
end Go.Proofs.YtiignaapnknbjaaDoor
