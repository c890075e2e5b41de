/- works() of layer 5: the document's example, and two records. -/
import Derived.Test.YtipiioggdalkoaaGreatDoorPgAppend
import Derived.Test.YtipiioggdalkoaaGreatDoorRefLists
import Derived.Test.YtipiioggdalkoaaGreatDoorFlowCall
import Derived.Test.YtipiioggdalkoaaGreatDoorFlowMem
import Derived.Test.YtipiioggdalkoaaGreatDoorFlowMore
namespace Go.Proofs.YtipiioggdalkoaaGreatDoor
open Go.RowKit
set_option linter.unusedVariables false
set_option linter.unusedSimpArgs false
attribute [local irreducible] set5

def dv1 : Fl := ⟨[[255, 255, 255, 255, 255, 255, 255, 255, 255, 255, 255, 255, 255, 255, 255, 255, 255, 255, 255, 255, 255, 255, 255, 255, 255]], [0], (-1), [], false⟩
def dv2 : Fl := ⟨[[120, 131, 22, 220, 140, 135, 124, 233, 35, 115, 255, 255, 255, 255, 255, 255, 255, 255, 255, 255, 255, 255, 255, 255, 255]], [0], (-1), [], false⟩
def dv3 : Fl := ⟨[[120, 131, 22, 220, 140, 135, 124, 233, 35, 115, 121, 21, 38, 219, 251, 134, 234, 217, 36, 4, 255, 255, 255, 255, 255]], [0], (-1), [], false⟩

theorem c_new (w : World) : Calls Tryz.prog 31 #[.int .i64 1, .int .i64 25] w fun e w' => ∃ v', e = .returned (.tuple #[v', .int .i64 0]) ∧ isFlN w.heap.size dv1 v' w' ∧ Below w.heap.size w w' := by
  have h := new_any 1 25 w
  rwa [show newF 1 25 = dv1 by kernel_rfl, show newE 1 25 = 0 by kernel_rfl] at h
theorem c_app1 (v : Value) (w : World) (hv : isFl dv1 v w) : Calls Tryz.prog 22 #[v, .int .i64 0, .string ⟨#[120]⟩] w fun e w' => ∃ v', e = .returned (.tuple #[v', .int .i64 0]) ∧ isFlN w.heap.size dv2 v' w' ∧ Below w.heap.size w w' := by
  have h := append_any dv1 0 [120] v w hv (by decide) (by decide) (by decide) (.inl (by decide))
  rwa [show appF dv1 0 [120] = dv2 by kernel_rfl, show appE dv1 0 [120] = 0 by kernel_rfl] at h
theorem c_app2 (v : Value) (w : World) (hv : isFl dv2 v w) : Calls Tryz.prog 22 #[v, .int .i64 0, .string ⟨#[121]⟩] w fun e w' => ∃ v', e = .returned (.tuple #[v', .int .i64 0]) ∧ isFlN w.heap.size dv3 v' w' ∧ Below w.heap.size w w' := by
  have h := append_any dv2 0 [121] v w hv (by decide) (by decide) (by decide) (.inl (by decide))
  rwa [show appF dv2 0 [121] = dv3 by kernel_rfl, show appE dv2 0 [121] = 0 by kernel_rfl] at h
theorem c_app3 (v : Value) (w : World) (hv : isFl dv3 v w) : Calls Tryz.prog 22 #[v, .int .i64 0, .string ⟨#[122]⟩] w fun e w' => ∃ v', e = .returned (.tuple #[v', .int .i64 4]) ∧ isFlN w.heap.size dv3 v' w' ∧ Below w.heap.size w w' := by
  have h := append_any dv3 0 [122] v w hv (by decide) (by decide) (by decide) (.inl (by decide))
  rwa [show appF dv3 0 [122] = dv3 by kernel_rfl, show appE dv3 0 [122] = 4 by kernel_rfl] at h
theorem c_app4 (v : Value) (w : World) (hv : isFl dv3 v w) : Calls Tryz.prog 22 #[v, .int .i64 1, .string ⟨#[122]⟩] w fun e w' => ∃ v', e = .returned (.tuple #[v', .int .i64 1]) ∧ isFlN w.heap.size dv3 v' w' ∧ Below w.heap.size w w' := by
  have h := append_any dv3 1 [122] v w hv (by decide) (by decide) (by decide) (.inl (by decide))
  rwa [show appF dv3 1 [122] = dv3 by kernel_rfl, show appE dv3 1 [122] = 1 by kernel_rfl] at h
theorem f_room (w : World) : Calls Tryz.prog 17 #[.string ⟨[255, 255, 255, 255, 255, 255, 255, 255, 255, 255, 255, 255, 255, 255, 255, 255, 255, 255, 255, 255, 255, 255, 255, 255, 255].toArray⟩, .int .i64 1] w fun e w' => ∃ x, e = .returned x ∧ isVal (.int .i64 2) x w' ∧ Below w.heap.size w w' := by
  have h := room_any [255, 255, 255, 255, 255, 255, 255, 255, 255, 255, 255, 255, 255, 255, 255, 255, 255, 255, 255, 255, 255, 255, 255, 255, 255] 1 w (by decide)
  rw [show roomN [255, 255, 255, 255, 255, 255, 255, 255, 255, 255, 255, 255, 255, 255, 255, 255, 255, 255, 255, 255, 255, 255, 255, 255, 255] 1 = 2 by kernel_rfl] at h
  refine h.mono ?_
  rintro e w' ⟨rfl, rfl⟩
  exact ⟨_, rfl, rfl, Below.refl _ _⟩
theorem f_next0 (w : World) : Calls Tryz.prog 20 #[.string ⟨[255, 255, 255, 255, 255, 255, 255, 255, 255, 255, 255, 255, 255, 255, 255, 255, 255, 255, 255, 255, 255, 255, 255, 255, 255].toArray⟩, .int .i64 1] w fun e w' => ∃ x, e = .returned x ∧ isVal (.int .i64 0) x w' ∧ Below w.heap.size w w' := by
  have h := next_any [255, 255, 255, 255, 255, 255, 255, 255, 255, 255, 255, 255, 255, 255, 255, 255, 255, 255, 255, 255, 255, 255, 255, 255, 255] 1 w (by decide) (.inl (by decide))
  rw [show nextN [255, 255, 255, 255, 255, 255, 255, 255, 255, 255, 255, 255, 255, 255, 255, 255, 255, 255, 255, 255, 255, 255, 255, 255, 255] 1 = 0 by kernel_rfl] at h
  refine h.mono ?_
  rintro e w' ⟨rfl, hb⟩
  exact ⟨_, rfl, rfl, hb⟩
theorem f_bad0 (w : World) : Calls Tryz.prog 19 #[.string ⟨[255, 255, 255, 255, 255, 255, 255, 255, 255, 255, 255, 255, 255, 255, 255, 255, 255, 255, 255, 255, 255, 255, 255, 255, 255].toArray⟩, .int .i64 1] w fun e w' => ∃ x, e = .returned x ∧ isVal (.int .i64 0) x w' ∧ Below w.heap.size w w' := by
  have h := bad_any [255, 255, 255, 255, 255, 255, 255, 255, 255, 255, 255, 255, 255, 255, 255, 255, 255, 255, 255, 255, 255, 255, 255, 255, 255] 1 w (by decide) (.inl (by decide))
  rw [show badN [255, 255, 255, 255, 255, 255, 255, 255, 255, 255, 255, 255, 255, 255, 255, 255, 255, 255, 255, 255, 255, 255, 255, 255, 255] 1 = 0 by kernel_rfl] at h
  refine h.mono ?_
  rintro e w' ⟨rfl, hb⟩
  exact ⟨_, rfl, rfl, hb⟩
theorem f_next2 (w : World) : Calls Tryz.prog 20 #[.string ⟨[120, 131, 22, 220, 140, 135, 124, 233, 35, 115, 121, 21, 38, 219, 251, 134, 234, 217, 36, 4, 255, 255, 255, 255, 255].toArray⟩, .int .i64 1] w fun e w' => ∃ x, e = .returned x ∧ isVal (.int .i64 2) x w' ∧ Below w.heap.size w w' := by
  have h := next_any [120, 131, 22, 220, 140, 135, 124, 233, 35, 115, 121, 21, 38, 219, 251, 134, 234, 217, 36, 4, 255, 255, 255, 255, 255] 1 w (by decide) (.inl (by decide))
  rw [show nextN [120, 131, 22, 220, 140, 135, 124, 233, 35, 115, 121, 21, 38, 219, 251, 134, 234, 217, 36, 4, 255, 255, 255, 255, 255] 1 = 2 by kernel_rfl] at h
  refine h.mono ?_
  rintro e w' ⟨rfl, hb⟩
  exact ⟨_, rfl, rfl, hb⟩
theorem f_slot1 (w : World) : Calls Tryz.prog 18 #[.string ⟨[120, 131, 22, 220, 140, 135, 124, 233, 35, 115, 121, 21, 38, 219, 251, 134, 234, 217, 36, 4, 255, 255, 255, 255, 255].toArray⟩, .int .i64 1, .int .i64 1] w fun e w' => ∃ x, e = .returned x ∧ isVal (.string ⟨[121, 21, 38, 219, 251, 134, 234, 217, 36, 4].toArray⟩) x w' ∧ Below w.heap.size w w' := by
  have h := slot_any [120, 131, 22, 220, 140, 135, 124, 233, 35, 115, 121, 21, 38, 219, 251, 134, 234, 217, 36, 4, 255, 255, 255, 255, 255] 1 1 w (by decide)
  rw [show slotI [120, 131, 22, 220, 140, 135, 124, 233, 35, 115, 121, 21, 38, 219, 251, 134, 234, 217, 36, 4, 255, 255, 255, 255, 255] 1 1 = [121, 21, 38, 219, 251, 134, 234, 217, 36, 4] by kernel_rfl] at h
  refine h.mono ?_
  rintro e w' ⟨rfl, rfl⟩
  exact ⟨_, rfl, rfl, Below.refl _ _⟩
theorem f_slot2 (w : World) : Calls Tryz.prog 18 #[.string ⟨[255, 255, 255, 255, 255, 255, 255, 255, 255, 255, 255, 255, 255, 255, 255, 255, 255, 255, 255, 255, 255, 255, 255, 255, 255].toArray⟩, .int .i64 1, .int .i64 2] w fun e w' => ∃ x, e = .returned x ∧ isVal (.string ⟨[].toArray⟩) x w' ∧ Below w.heap.size w w' := by
  have h := slot_any [255, 255, 255, 255, 255, 255, 255, 255, 255, 255, 255, 255, 255, 255, 255, 255, 255, 255, 255, 255, 255, 255, 255, 255, 255] 1 2 w (by decide)
  rw [show slotI [255, 255, 255, 255, 255, 255, 255, 255, 255, 255, 255, 255, 255, 255, 255, 255, 255, 255, 255, 255, 255, 255, 255, 255, 255] 1 2 = [] by kernel_rfl] at h
  refine h.mono ?_
  rintro e w' ⟨rfl, rfl⟩
  exact ⟨_, rfl, rfl, Below.refl _ _⟩
theorem f_make (w : World) : Calls Tryz.prog 32 #[.string ⟨[121].toArray⟩] w fun e w' => ∃ x, e = .returned x ∧ isVal (.string ⟨[121, 21, 38, 219, 251, 134, 234, 217, 36, 4].toArray⟩) x w' ∧ Below w.heap.size w w' := by
  have h := make_any [121] w (by decide)
  rw [show recL [121] = [121, 21, 38, 219, 251, 134, 234, 217, 36, 4] by kernel_rfl] at h
  refine h.mono ?_
  rintro e w' ⟨rfl, hb⟩
  exact ⟨_, rfl, rfl, hb⟩
def wO : List UInt8 := [255, 255, 255, 255, 255, 255, 255, 255, 255, 255, 255, 255, 255, 255, 255, 255, 255, 255, 255, 255, 255, 255, 255, 255, 255]
def wCat5 : List UInt8 := wO.take 5 ++ [97, 98, 99, 100, 101]
def wCat : List UInt8 := wCat5 ++ wO.drop 10
set_option maxRecDepth 20000 in
theorem f_bad1 (w : World) : Calls Tryz.prog 19 #[.string ⟨wCat.toArray⟩, .int .i64 1] w fun e w' => ∃ x, e = .returned x ∧ isVal (.int .i64 1) x w' ∧ Below w.heap.size w w' := by
  have h := bad_any wCat 1 w (by decide) (.inl (by decide))
  rw [show badN wCat 1 = 1 by kernel_rfl] at h
  refine h.mono ?_
  rintro e w' ⟨rfl, hb⟩
  exact ⟨_, rfl, rfl, hb⟩
theorem c_recs (w : World) : Calls Tryz.prog 13 #[.string ⟨[120, 131, 22, 220, 140, 135, 124, 233, 35, 115, 121, 21, 38, 219, 251, 134, 234, 217, 36, 4, 255, 255, 255, 255, 255].toArray⟩, .int .i64 1] w fun e W' => ∃ v, e = .returned v ∧ isCells [strC [120], strC [121]] v W' ∧ Below w.heap.size w W' := by
  have h := records_any [120, 131, 22, 220, 140, 135, 124, 233, 35, 115, 121, 21, 38, 219, 251, 134, 234, 217, 36, 4, 255, 255, 255, 255, 255] 1 w (by decide) (.inl (by decide))
  rwa [show (recordsL [120, 131, 22, 220, 140, 135, 124, 233, 35, 115, 121, 21, 38, 219, 251, 134, 234, 217, 36, 4, 255, 255, 255, 255, 255] 1).map strC = [strC [120], strC [121]] by kernel_rfl] at h

theorem f_texts (v12 u v : Value) (w : World) (hu : isVal v12 u w) (h1 : isCells [strC [120], strC [121]] v12 w) (h2 : isCells [strC [120], strC [121]] v w) : Calls Tryz.prog 12 #[u, v] w fun e w' => ∃ x, e = .returned x ∧ isVal (.bool true) x w' ∧ Below w.heap.size w w' := by
  have hu' : u = v12 := hu
  subst hu'
  refine (refTexts_any [[120], [121]] [[120], [121]] u v w h1 h2 (by decide) (by decide)).mono ?_
  rintro e w' ⟨rfl, hb⟩
  exact ⟨_, rfl, by simp [isVal], hb⟩
noncomputable def worksOps : Array Oper := regionOf Tryz.f9 12
set_option maxRecDepth 100000 in
set_option maxHeartbeats 4000000 in
theorem works_region (Q : Exit → Act → World → Prop) (a0 : Act) (w0 : World) (hsz : a0.tmps.size = 124) (gc bc oc cc dc qc sc : Nat) (v12 : Value) (h12 : isCells [strC [120], strC [121]] v12 w0) (e2 : a0.tmps.getD 2 undef = .int .i64 0) (e3 : a0.tmps.getD 3 undef = .string ⟨[255, 255, 255, 255, 255, 255, 255, 255, 255, 255, 255, 255, 255, 255, 255, 255, 255, 255, 255, 255, 255, 255, 255, 255, 255].toArray⟩) (e5 : a0.tmps.getD 5 undef = .int .i64 0) (e7 : a0.tmps.getD 7 undef = .int .i64 0) (e9 : a0.tmps.getD 9 undef = .int .i64 4) (e11 : a0.tmps.getD 11 undef = .int .i64 1) (e12 : a0.tmps.getD 12 undef = v12) (e6 : a0.tmps.getD 6 undef = .pointer (some ⟨gc, 0, none⟩))
    (Cc : Cells5 w0 gc (.slice (some ⟨bc, oc, none⟩) 1 cc) (.slice (some ⟨dc, qc, none⟩) 1 sc) (.int .i64 dv3.fuse) (strC dv3.torn) (.bool dv3.dead)) (lbc : bc < w0.heap.size) (Pc : ∀ (j : Nat) (p : List UInt8), dv3.pages[j]? = some p → w0.cell? ⟨bc, oc + j, none⟩ = some (.string ⟨p.toArray⟩))
    (hQ : ∀ (a : Act) (w : World), a.defers = a0.defers → a.tmps.getD 0 undef = .bool true → Below w0.heap.size w0 w → Q .normal a w) :
    (Code.region 12 worksOps true).wp Tryz.prog Q a0 w0 := by
  obtain ⟨istr, histr, hzstr, hsstr, _⟩ := info_parts Tryz.infoStr
  refine wp_region_flow mixed (by rw [hsz]; kernel_rfl) ?_
  rw [show worksOps.size = 71 by kernel_rfl]
  refine ⟨isVal (.int .i64 0), step_move (.tmp 2) (by kernel_rfl) (wanted_none (by kernel_rfl)) (stable_val _) (knows_old 2 (.int .i64 0) (by kernel_rfl) e2), ?_⟩
  refine ⟨isVal (.bool true), step_bin .eql 33 33 (.tmp 54) (.const (.int .i64 0)) (.int .i64 0) (.int .i64 0) (.bool true) (by kernel_rfl) (wanted_none (by kernel_rfl)) (knows_new (V := isVal (.int .i64 0)) 54 0 (by kernel_rfl) (by kernel_rfl) (by kernel_rfl)) (knows_const _) (fun _ => rfl) (eql_int _ _ _ _ _ (by decide)), ?_⟩
  refine ⟨isVal (.bool true), step_move (.tmp 55) (by kernel_rfl) (wanted_none (by kernel_rfl)) (stable_val _) (knows_new (V := isVal (.bool true)) 55 1 (by kernel_rfl) (by kernel_rfl) (by kernel_rfl)), ?_⟩
  refine ⟨isVal (.string ⟨[255, 255, 255, 255, 255, 255, 255, 255, 255, 255, 255, 255, 255, 255, 255, 255, 255, 255, 255, 255, 255, 255, 255, 255, 255].toArray⟩), step_move (.tmp 3) (by kernel_rfl) (wanted_some 2 56 true (by kernel_rfl) (by kernel_rfl) (by kernel_rfl) (by kernel_rfl)) (stable_val _) (knows_old 3 (.string ⟨[255, 255, 255, 255, 255, 255, 255, 255, 255, 255, 255, 255, 255, 255, 255, 255, 255, 255, 255, 255, 255, 255, 255, 255, 255].toArray⟩) (by kernel_rfl) e3), ?_⟩
  refine ⟨isVal (.int .i64 2), step_call 17 #[.tmp 57, .const (.int .i64 1)] #[9, 3] #[.string ⟨[255, 255, 255, 255, 255, 255, 255, 255, 255, 255, 255, 255, 255, 255, 255, 255, 255, 255, 255, 255, 255, 255, 255, 255, 255].toArray⟩, .int .i64 1] (by kernel_rfl) (wanted_some 2 56 true (by kernel_rfl) (by kernel_rfl) (by kernel_rfl) (by kernel_rfl)) (stable_val _) (args2 (.tmp 57) (.const (.int .i64 1)) (.string ⟨[255, 255, 255, 255, 255, 255, 255, 255, 255, 255, 255, 255, 255, 255, 255, 255, 255, 255, 255, 255, 255, 255, 255, 255, 255].toArray⟩) (.int .i64 1) (knows_new (V := isVal (.string ⟨[255, 255, 255, 255, 255, 255, 255, 255, 255, 255, 255, 255, 255, 255, 255, 255, 255, 255, 255, 255, 255, 255, 255, 255, 255].toArray⟩)) 57 3 (by kernel_rfl) (by kernel_rfl) (by kernel_rfl)) (knows_const _)) (enters_of Tryz.func17 (by kernel_rfl) rfl) (by intro w hb; exact f_room w), ?_⟩
  refine ⟨isVal (.bool true), step_bin .eql 3 3 (.tmp 58) (.const (.int .i64 2)) (.int .i64 2) (.int .i64 2) (.bool true) (by kernel_rfl) (wanted_some 2 56 true (by kernel_rfl) (by kernel_rfl) (by kernel_rfl) (by kernel_rfl)) (knows_new (V := isVal (.int .i64 2)) 58 4 (by kernel_rfl) (by kernel_rfl) (by kernel_rfl)) (knows_const _) (fun _ => rfl) (eql_int _ _ _ _ _ (by decide)), ?_⟩
  refine ⟨isVal (.bool true), step_pick (.tmp 56) (.tmp 59) (.const (.bool false)) true (by kernel_rfl) (wanted_none (by kernel_rfl)) (stable_val _) (knows_new (V := isVal (.bool true)) 56 2 (by kernel_rfl) (by kernel_rfl) (by kernel_rfl)) (knows_new (V := isVal (.bool true)) 59 5 (by kernel_rfl) (by kernel_rfl) (by kernel_rfl)), ?_⟩
  refine ⟨isVal (.bool true), step_move (.tmp 60) (by kernel_rfl) (wanted_none (by kernel_rfl)) (stable_val _) (knows_new (V := isVal (.bool true)) 60 6 (by kernel_rfl) (by kernel_rfl) (by kernel_rfl)), ?_⟩
  refine ⟨isVal (.string ⟨[255, 255, 255, 255, 255, 255, 255, 255, 255, 255, 255, 255, 255, 255, 255, 255, 255, 255, 255, 255, 255, 255, 255, 255, 255].toArray⟩), step_move (.tmp 3) (by kernel_rfl) (wanted_some 7 61 true (by kernel_rfl) (by kernel_rfl) (by kernel_rfl) (by kernel_rfl)) (stable_val _) (knows_old 3 (.string ⟨[255, 255, 255, 255, 255, 255, 255, 255, 255, 255, 255, 255, 255, 255, 255, 255, 255, 255, 255, 255, 255, 255, 255, 255, 255].toArray⟩) (by kernel_rfl) e3), ?_⟩
  refine ⟨isVal (.int .i64 0), step_call 20 #[.tmp 62, .const (.int .i64 1)] #[9, 3] #[.string ⟨[255, 255, 255, 255, 255, 255, 255, 255, 255, 255, 255, 255, 255, 255, 255, 255, 255, 255, 255, 255, 255, 255, 255, 255, 255].toArray⟩, .int .i64 1] (by kernel_rfl) (wanted_some 7 61 true (by kernel_rfl) (by kernel_rfl) (by kernel_rfl) (by kernel_rfl)) (stable_val _) (args2 (.tmp 62) (.const (.int .i64 1)) (.string ⟨[255, 255, 255, 255, 255, 255, 255, 255, 255, 255, 255, 255, 255, 255, 255, 255, 255, 255, 255, 255, 255, 255, 255, 255, 255].toArray⟩) (.int .i64 1) (knows_new (V := isVal (.string ⟨[255, 255, 255, 255, 255, 255, 255, 255, 255, 255, 255, 255, 255, 255, 255, 255, 255, 255, 255, 255, 255, 255, 255, 255, 255].toArray⟩)) 62 8 (by kernel_rfl) (by kernel_rfl) (by kernel_rfl)) (knows_const _)) (enters_of Tryz.func20 (by kernel_rfl) rfl) (by intro w hb; exact f_next0 w), ?_⟩
  refine ⟨isVal (.bool true), step_bin .eql 3 3 (.tmp 63) (.const (.int .i64 0)) (.int .i64 0) (.int .i64 0) (.bool true) (by kernel_rfl) (wanted_some 7 61 true (by kernel_rfl) (by kernel_rfl) (by kernel_rfl) (by kernel_rfl)) (knows_new (V := isVal (.int .i64 0)) 63 9 (by kernel_rfl) (by kernel_rfl) (by kernel_rfl)) (knows_const _) (fun _ => rfl) (eql_int _ _ _ _ _ (by decide)), ?_⟩
  refine ⟨isVal (.bool true), step_pick (.tmp 61) (.tmp 64) (.const (.bool false)) true (by kernel_rfl) (wanted_none (by kernel_rfl)) (stable_val _) (knows_new (V := isVal (.bool true)) 61 7 (by kernel_rfl) (by kernel_rfl) (by kernel_rfl)) (knows_new (V := isVal (.bool true)) 64 10 (by kernel_rfl) (by kernel_rfl) (by kernel_rfl)), ?_⟩
  refine ⟨isVal (.bool true), step_move (.tmp 65) (by kernel_rfl) (wanted_none (by kernel_rfl)) (stable_val _) (knows_new (V := isVal (.bool true)) 65 11 (by kernel_rfl) (by kernel_rfl) (by kernel_rfl)), ?_⟩
  refine ⟨isVal (.string ⟨[255, 255, 255, 255, 255, 255, 255, 255, 255, 255, 255, 255, 255, 255, 255, 255, 255, 255, 255, 255, 255, 255, 255, 255, 255].toArray⟩), step_move (.tmp 3) (by kernel_rfl) (wanted_some 12 66 true (by kernel_rfl) (by kernel_rfl) (by kernel_rfl) (by kernel_rfl)) (stable_val _) (knows_old 3 (.string ⟨[255, 255, 255, 255, 255, 255, 255, 255, 255, 255, 255, 255, 255, 255, 255, 255, 255, 255, 255, 255, 255, 255, 255, 255, 255].toArray⟩) (by kernel_rfl) e3), ?_⟩
  refine ⟨isVal (.int .i64 0), step_call 19 #[.tmp 67, .const (.int .i64 1)] #[9, 3] #[.string ⟨[255, 255, 255, 255, 255, 255, 255, 255, 255, 255, 255, 255, 255, 255, 255, 255, 255, 255, 255, 255, 255, 255, 255, 255, 255].toArray⟩, .int .i64 1] (by kernel_rfl) (wanted_some 12 66 true (by kernel_rfl) (by kernel_rfl) (by kernel_rfl) (by kernel_rfl)) (stable_val _) (args2 (.tmp 67) (.const (.int .i64 1)) (.string ⟨[255, 255, 255, 255, 255, 255, 255, 255, 255, 255, 255, 255, 255, 255, 255, 255, 255, 255, 255, 255, 255, 255, 255, 255, 255].toArray⟩) (.int .i64 1) (knows_new (V := isVal (.string ⟨[255, 255, 255, 255, 255, 255, 255, 255, 255, 255, 255, 255, 255, 255, 255, 255, 255, 255, 255, 255, 255, 255, 255, 255, 255].toArray⟩)) 67 13 (by kernel_rfl) (by kernel_rfl) (by kernel_rfl)) (knows_const _)) (enters_of Tryz.func19 (by kernel_rfl) rfl) (by intro w hb; exact f_bad0 w), ?_⟩
  refine ⟨isVal (.bool true), step_bin .eql 3 3 (.tmp 68) (.const (.int .i64 0)) (.int .i64 0) (.int .i64 0) (.bool true) (by kernel_rfl) (wanted_some 12 66 true (by kernel_rfl) (by kernel_rfl) (by kernel_rfl) (by kernel_rfl)) (knows_new (V := isVal (.int .i64 0)) 68 14 (by kernel_rfl) (by kernel_rfl) (by kernel_rfl)) (knows_const _) (fun _ => rfl) (eql_int _ _ _ _ _ (by decide)), ?_⟩
  refine ⟨isVal (.bool true), step_pick (.tmp 66) (.tmp 69) (.const (.bool false)) true (by kernel_rfl) (wanted_none (by kernel_rfl)) (stable_val _) (knows_new (V := isVal (.bool true)) 66 12 (by kernel_rfl) (by kernel_rfl) (by kernel_rfl)) (knows_new (V := isVal (.bool true)) 69 15 (by kernel_rfl) (by kernel_rfl) (by kernel_rfl)), ?_⟩
  refine ⟨isVal (.bool true), step_move (.tmp 70) (by kernel_rfl) (wanted_none (by kernel_rfl)) (stable_val _) (knows_new (V := isVal (.bool true)) 70 16 (by kernel_rfl) (by kernel_rfl) (by kernel_rfl)), ?_⟩
  refine ⟨isVal (.int .i64 0), step_move (.tmp 5) (by kernel_rfl) (wanted_some 17 71 true (by kernel_rfl) (by kernel_rfl) (by kernel_rfl) (by kernel_rfl)) (stable_val _) (knows_old 5 (.int .i64 0) (by kernel_rfl) e5), ?_⟩
  refine ⟨isVal (.bool true), step_bin .eql 33 33 (.tmp 72) (.const (.int .i64 0)) (.int .i64 0) (.int .i64 0) (.bool true) (by kernel_rfl) (wanted_some 17 71 true (by kernel_rfl) (by kernel_rfl) (by kernel_rfl) (by kernel_rfl)) (knows_new (V := isVal (.int .i64 0)) 72 18 (by kernel_rfl) (by kernel_rfl) (by kernel_rfl)) (knows_const _) (fun _ => rfl) (eql_int _ _ _ _ _ (by decide)), ?_⟩
  refine ⟨isVal (.bool true), step_pick (.tmp 71) (.tmp 73) (.const (.bool false)) true (by kernel_rfl) (wanted_none (by kernel_rfl)) (stable_val _) (knows_new (V := isVal (.bool true)) 71 17 (by kernel_rfl) (by kernel_rfl) (by kernel_rfl)) (knows_new (V := isVal (.bool true)) 73 19 (by kernel_rfl) (by kernel_rfl) (by kernel_rfl)), ?_⟩
  refine ⟨isVal (.bool true), step_move (.tmp 74) (by kernel_rfl) (wanted_none (by kernel_rfl)) (stable_val _) (knows_new (V := isVal (.bool true)) 74 20 (by kernel_rfl) (by kernel_rfl) (by kernel_rfl)), ?_⟩
  refine ⟨isVal (.int .i64 0), step_move (.tmp 7) (by kernel_rfl) (wanted_some 21 75 true (by kernel_rfl) (by kernel_rfl) (by kernel_rfl) (by kernel_rfl)) (stable_val _) (knows_old 7 (.int .i64 0) (by kernel_rfl) e7), ?_⟩
  refine ⟨isVal (.bool true), step_bin .eql 33 33 (.tmp 76) (.const (.int .i64 0)) (.int .i64 0) (.int .i64 0) (.bool true) (by kernel_rfl) (wanted_some 21 75 true (by kernel_rfl) (by kernel_rfl) (by kernel_rfl) (by kernel_rfl)) (knows_new (V := isVal (.int .i64 0)) 76 22 (by kernel_rfl) (by kernel_rfl) (by kernel_rfl)) (knows_const _) (fun _ => rfl) (eql_int _ _ _ _ _ (by decide)), ?_⟩
  refine ⟨isVal (.bool true), step_pick (.tmp 75) (.tmp 77) (.const (.bool false)) true (by kernel_rfl) (wanted_none (by kernel_rfl)) (stable_val _) (knows_new (V := isVal (.bool true)) 75 21 (by kernel_rfl) (by kernel_rfl) (by kernel_rfl)) (knows_new (V := isVal (.bool true)) 77 23 (by kernel_rfl) (by kernel_rfl) (by kernel_rfl)), ?_⟩
  refine ⟨isVal (.bool true), step_move (.tmp 78) (by kernel_rfl) (wanted_none (by kernel_rfl)) (stable_val _) (knows_new (V := isVal (.bool true)) 78 24 (by kernel_rfl) (by kernel_rfl) (by kernel_rfl)), ?_⟩
  refine ⟨isVal (.int .i64 4), step_move (.tmp 9) (by kernel_rfl) (wanted_some 25 79 true (by kernel_rfl) (by kernel_rfl) (by kernel_rfl) (by kernel_rfl)) (stable_val _) (knows_old 9 (.int .i64 4) (by kernel_rfl) e9), ?_⟩
  refine ⟨isVal (.bool true), step_bin .eql 33 33 (.tmp 80) (.const (.int .i64 4)) (.int .i64 4) (.int .i64 4) (.bool true) (by kernel_rfl) (wanted_some 25 79 true (by kernel_rfl) (by kernel_rfl) (by kernel_rfl) (by kernel_rfl)) (knows_new (V := isVal (.int .i64 4)) 80 26 (by kernel_rfl) (by kernel_rfl) (by kernel_rfl)) (knows_const _) (fun _ => rfl) (eql_int _ _ _ _ _ (by decide)), ?_⟩
  refine ⟨isVal (.bool true), step_pick (.tmp 79) (.tmp 81) (.const (.bool false)) true (by kernel_rfl) (wanted_none (by kernel_rfl)) (stable_val _) (knows_new (V := isVal (.bool true)) 79 25 (by kernel_rfl) (by kernel_rfl) (by kernel_rfl)) (knows_new (V := isVal (.bool true)) 81 27 (by kernel_rfl) (by kernel_rfl) (by kernel_rfl)), ?_⟩
  refine ⟨isVal (.bool true), step_move (.tmp 82) (by kernel_rfl) (wanted_none (by kernel_rfl)) (stable_val _) (knows_new (V := isVal (.bool true)) 82 28 (by kernel_rfl) (by kernel_rfl) (by kernel_rfl)), ?_⟩
  refine ⟨isVal (.int .i64 1), step_move (.tmp 11) (by kernel_rfl) (wanted_some 29 83 true (by kernel_rfl) (by kernel_rfl) (by kernel_rfl) (by kernel_rfl)) (stable_val _) (knows_old 11 (.int .i64 1) (by kernel_rfl) e11), ?_⟩
  refine ⟨isVal (.bool true), step_bin .eql 33 33 (.tmp 84) (.const (.int .i64 1)) (.int .i64 1) (.int .i64 1) (.bool true) (by kernel_rfl) (wanted_some 29 83 true (by kernel_rfl) (by kernel_rfl) (by kernel_rfl) (by kernel_rfl)) (knows_new (V := isVal (.int .i64 1)) 84 30 (by kernel_rfl) (by kernel_rfl) (by kernel_rfl)) (knows_const _) (fun _ => rfl) (eql_int _ _ _ _ _ (by decide)), ?_⟩
  refine ⟨isVal (.bool true), step_pick (.tmp 83) (.tmp 85) (.const (.bool false)) true (by kernel_rfl) (wanted_none (by kernel_rfl)) (stable_val _) (knows_new (V := isVal (.bool true)) 83 29 (by kernel_rfl) (by kernel_rfl) (by kernel_rfl)) (knows_new (V := isVal (.bool true)) 85 31 (by kernel_rfl) (by kernel_rfl) (by kernel_rfl)), ?_⟩
  refine ⟨isVal (.bool true), step_move (.tmp 86) (by kernel_rfl) (wanted_none (by kernel_rfl)) (stable_val _) (knows_new (V := isVal (.bool true)) 86 32 (by kernel_rfl) (by kernel_rfl) (by kernel_rfl)), ?_⟩
  refine ⟨isVal v12, step_move (.tmp 12) (by kernel_rfl) (wanted_some 33 87 true (by kernel_rfl) (by kernel_rfl) (by kernel_rfl) (by kernel_rfl)) (stable_val _) (knows_old 12 v12 (by kernel_rfl) e12), ?_⟩
  refine ⟨isCells [strC [120], strC [121]], step_strs2 26 9 [120] [121] istr (by kernel_rfl) (wanted_some 33 87 true (by kernel_rfl) (by kernel_rfl) (by kernel_rfl) (by kernel_rfl)) Tryz.underlying26 histr hzstr hsstr, ?_⟩
  refine ⟨isVal (.bool true), step_callP 12 #[.tmp 88, .tmp 89] #[26, 26] (by kernel_rfl) (wanted_some 33 87 true (by kernel_rfl) (by kernel_rfl) (by kernel_rfl) (by kernel_rfl)) (stable_val _) (enters_of Tryz.func12 (by kernel_rfl) rfl) (fun vs w => ∃ u v, vs = #[u, v] ∧ isVal v12 u w ∧ isCells [strC [120], strC [121]] v w) (pre2 (knows_new (V := isVal v12) 88 34 (by kernel_rfl) (by kernel_rfl) (by kernel_rfl)) (knows_new (V := (isCells [strC [120], strC [121]])) 89 35 (by kernel_rfl) (by kernel_rfl) (by kernel_rfl))) (by rintro vs w hb ⟨u, v, rfl, hu, hv⟩; exact f_texts v12 u v w hu (stable_cells _ _ _ _ h12 hb) hv), ?_⟩
  refine ⟨isVal (.bool true), step_pick (.tmp 87) (.tmp 90) (.const (.bool false)) true (by kernel_rfl) (wanted_none (by kernel_rfl)) (stable_val _) (knows_new (V := isVal (.bool true)) 87 33 (by kernel_rfl) (by kernel_rfl) (by kernel_rfl)) (knows_new (V := isVal (.bool true)) 90 36 (by kernel_rfl) (by kernel_rfl) (by kernel_rfl)), ?_⟩
  refine ⟨isVal (.bool true), step_move (.tmp 91) (by kernel_rfl) (wanted_none (by kernel_rfl)) (stable_val _) (knows_new (V := isVal (.bool true)) 91 37 (by kernel_rfl) (by kernel_rfl) (by kernel_rfl)), ?_⟩
  refine ⟨isVal (.pointer (some ⟨gc, 0, none⟩)), step_field 31 (.tmp 6) 0 ⟨gc, 0, none⟩ ⟨gc, 0, none⟩ (by kernel_rfl) (wanted_some 38 92 true (by kernel_rfl) (by kernel_rfl) (by kernel_rfl) (by kernel_rfl)) (knows_old 6 (.pointer (some ⟨gc, 0, none⟩)) (by kernel_rfl) e6) (field_fl gc 0 (by omega)), ?_⟩
  refine ⟨isVal (.slice (some ⟨bc, oc, none⟩) 1 cc), step_read 26 (.tmp 93) ⟨gc, 0, none⟩ (.slice (some ⟨bc, oc, none⟩) 1 cc) (by kernel_rfl) (wanted_some 38 92 true (by kernel_rfl) (by kernel_rfl) (by kernel_rfl) (by kernel_rfl)) (knows_new (V := isVal (.pointer (some ⟨gc, 0, none⟩))) 93 39 (by kernel_rfl) (by kernel_rfl) (by kernel_rfl)) Cc.2.1 Cc.1 agg_strs, ?_⟩
  refine ⟨isVal (.pointer (some ⟨bc, oc + 0, none⟩)), step_place 26 9 (.tmp 94) (.const (.int .i64 0)) bc oc 1 cc 0 (by kernel_rfl) (wanted_some 38 92 true (by kernel_rfl) (by kernel_rfl) (by kernel_rfl) (by kernel_rfl)) (knows_new (V := isVal (.slice (some ⟨bc, oc, none⟩) 1 cc)) 94 40 (by kernel_rfl) (by kernel_rfl) (by kernel_rfl)) (knows_const _) Tryz.underlying26 (by kernel_rfl) (by decide), ?_⟩
  refine ⟨isVal (.string ⟨[120, 131, 22, 220, 140, 135, 124, 233, 35, 115, 121, 21, 38, 219, 251, 134, 234, 217, 36, 4, 255, 255, 255, 255, 255].toArray⟩), step_read 9 (.tmp 95) ⟨bc, oc + 0, none⟩ (.string ⟨[120, 131, 22, 220, 140, 135, 124, 233, 35, 115, 121, 21, 38, 219, 251, 134, 234, 217, 36, 4, 255, 255, 255, 255, 255].toArray⟩) (by kernel_rfl) (wanted_some 38 92 true (by kernel_rfl) (by kernel_rfl) (by kernel_rfl) (by kernel_rfl)) (knows_new (V := isVal (.pointer (some ⟨bc, oc + 0, none⟩))) 95 41 (by kernel_rfl) (by kernel_rfl) (by kernel_rfl)) (Pc 0 _ rfl) lbc agg_str, ?_⟩
  refine ⟨isVal (.int .i64 2), step_call 20 #[.tmp 96, .const (.int .i64 1)] #[9, 3] #[.string ⟨[120, 131, 22, 220, 140, 135, 124, 233, 35, 115, 121, 21, 38, 219, 251, 134, 234, 217, 36, 4, 255, 255, 255, 255, 255].toArray⟩, .int .i64 1] (by kernel_rfl) (wanted_some 38 92 true (by kernel_rfl) (by kernel_rfl) (by kernel_rfl) (by kernel_rfl)) (stable_val _) (args2 (.tmp 96) (.const (.int .i64 1)) (.string ⟨[120, 131, 22, 220, 140, 135, 124, 233, 35, 115, 121, 21, 38, 219, 251, 134, 234, 217, 36, 4, 255, 255, 255, 255, 255].toArray⟩) (.int .i64 1) (knows_new (V := isVal (.string ⟨[120, 131, 22, 220, 140, 135, 124, 233, 35, 115, 121, 21, 38, 219, 251, 134, 234, 217, 36, 4, 255, 255, 255, 255, 255].toArray⟩)) 96 42 (by kernel_rfl) (by kernel_rfl) (by kernel_rfl)) (knows_const _)) (enters_of Tryz.func20 (by kernel_rfl) rfl) (by intro w hb; exact f_next2 w), ?_⟩
  refine ⟨isVal (.bool true), step_bin .eql 3 3 (.tmp 97) (.const (.int .i64 2)) (.int .i64 2) (.int .i64 2) (.bool true) (by kernel_rfl) (wanted_some 38 92 true (by kernel_rfl) (by kernel_rfl) (by kernel_rfl) (by kernel_rfl)) (knows_new (V := isVal (.int .i64 2)) 97 43 (by kernel_rfl) (by kernel_rfl) (by kernel_rfl)) (knows_const _) (fun _ => rfl) (eql_int _ _ _ _ _ (by decide)), ?_⟩
  refine ⟨isVal (.bool true), step_pick (.tmp 92) (.tmp 98) (.const (.bool false)) true (by kernel_rfl) (wanted_none (by kernel_rfl)) (stable_val _) (knows_new (V := isVal (.bool true)) 92 38 (by kernel_rfl) (by kernel_rfl) (by kernel_rfl)) (knows_new (V := isVal (.bool true)) 98 44 (by kernel_rfl) (by kernel_rfl) (by kernel_rfl)), ?_⟩
  refine ⟨isVal (.bool true), step_move (.tmp 99) (by kernel_rfl) (wanted_none (by kernel_rfl)) (stable_val _) (knows_new (V := isVal (.bool true)) 99 45 (by kernel_rfl) (by kernel_rfl) (by kernel_rfl)), ?_⟩
  refine ⟨isVal (.pointer (some ⟨gc, 0, none⟩)), step_field 31 (.tmp 6) 0 ⟨gc, 0, none⟩ ⟨gc, 0, none⟩ (by kernel_rfl) (wanted_some 46 100 true (by kernel_rfl) (by kernel_rfl) (by kernel_rfl) (by kernel_rfl)) (knows_old 6 (.pointer (some ⟨gc, 0, none⟩)) (by kernel_rfl) e6) (field_fl gc 0 (by omega)), ?_⟩
  refine ⟨isVal (.slice (some ⟨bc, oc, none⟩) 1 cc), step_read 26 (.tmp 101) ⟨gc, 0, none⟩ (.slice (some ⟨bc, oc, none⟩) 1 cc) (by kernel_rfl) (wanted_some 46 100 true (by kernel_rfl) (by kernel_rfl) (by kernel_rfl) (by kernel_rfl)) (knows_new (V := isVal (.pointer (some ⟨gc, 0, none⟩))) 101 47 (by kernel_rfl) (by kernel_rfl) (by kernel_rfl)) Cc.2.1 Cc.1 agg_strs, ?_⟩
  refine ⟨isVal (.pointer (some ⟨bc, oc + 0, none⟩)), step_place 26 9 (.tmp 102) (.const (.int .i64 0)) bc oc 1 cc 0 (by kernel_rfl) (wanted_some 46 100 true (by kernel_rfl) (by kernel_rfl) (by kernel_rfl) (by kernel_rfl)) (knows_new (V := isVal (.slice (some ⟨bc, oc, none⟩) 1 cc)) 102 48 (by kernel_rfl) (by kernel_rfl) (by kernel_rfl)) (knows_const _) Tryz.underlying26 (by kernel_rfl) (by decide), ?_⟩
  refine ⟨isVal (.string ⟨[120, 131, 22, 220, 140, 135, 124, 233, 35, 115, 121, 21, 38, 219, 251, 134, 234, 217, 36, 4, 255, 255, 255, 255, 255].toArray⟩), step_read 9 (.tmp 103) ⟨bc, oc + 0, none⟩ (.string ⟨[120, 131, 22, 220, 140, 135, 124, 233, 35, 115, 121, 21, 38, 219, 251, 134, 234, 217, 36, 4, 255, 255, 255, 255, 255].toArray⟩) (by kernel_rfl) (wanted_some 46 100 true (by kernel_rfl) (by kernel_rfl) (by kernel_rfl) (by kernel_rfl)) (knows_new (V := isVal (.pointer (some ⟨bc, oc + 0, none⟩))) 103 49 (by kernel_rfl) (by kernel_rfl) (by kernel_rfl)) (Pc 0 _ rfl) lbc agg_str, ?_⟩
  refine ⟨isVal (.string ⟨[121, 21, 38, 219, 251, 134, 234, 217, 36, 4].toArray⟩), step_call 18 #[.tmp 104, .const (.int .i64 1), .const (.int .i64 1)] #[9, 3, 3] #[.string ⟨[120, 131, 22, 220, 140, 135, 124, 233, 35, 115, 121, 21, 38, 219, 251, 134, 234, 217, 36, 4, 255, 255, 255, 255, 255].toArray⟩, .int .i64 1, .int .i64 1] (by kernel_rfl) (wanted_some 46 100 true (by kernel_rfl) (by kernel_rfl) (by kernel_rfl) (by kernel_rfl)) (stable_val _) (args3 (.tmp 104) (.const (.int .i64 1)) (.const (.int .i64 1)) (.string ⟨[120, 131, 22, 220, 140, 135, 124, 233, 35, 115, 121, 21, 38, 219, 251, 134, 234, 217, 36, 4, 255, 255, 255, 255, 255].toArray⟩) (.int .i64 1) (.int .i64 1) (knows_new (V := isVal (.string ⟨[120, 131, 22, 220, 140, 135, 124, 233, 35, 115, 121, 21, 38, 219, 251, 134, 234, 217, 36, 4, 255, 255, 255, 255, 255].toArray⟩)) 104 50 (by kernel_rfl) (by kernel_rfl) (by kernel_rfl)) (knows_const _) (knows_const _)) (enters_of Tryz.func18 (by kernel_rfl) rfl) (by intro w hb; exact f_slot1 w), ?_⟩
  refine ⟨isVal (.string ⟨[121, 21, 38, 219, 251, 134, 234, 217, 36, 4].toArray⟩), step_call 32 #[.const (.string ⟨[121].toArray⟩)] #[9] #[.string ⟨[121].toArray⟩] (by kernel_rfl) (wanted_some 46 100 true (by kernel_rfl) (by kernel_rfl) (by kernel_rfl) (by kernel_rfl)) (stable_val _) (args1 (.const (.string ⟨[121].toArray⟩)) (.string ⟨[121].toArray⟩) (knows_const _)) (enters_of Tryz.func32 (by kernel_rfl) rfl) (by intro w hb; exact f_make w), ?_⟩
  refine ⟨isVal (.bool true), step_bin .eql 9 9 (.tmp 105) (.tmp 106) (.string ⟨[121, 21, 38, 219, 251, 134, 234, 217, 36, 4].toArray⟩) (.string ⟨[121, 21, 38, 219, 251, 134, 234, 217, 36, 4].toArray⟩) (.bool true) (by kernel_rfl) (wanted_some 46 100 true (by kernel_rfl) (by kernel_rfl) (by kernel_rfl) (by kernel_rfl)) (knows_new (V := isVal (.string ⟨[121, 21, 38, 219, 251, 134, 234, 217, 36, 4].toArray⟩)) 105 51 (by kernel_rfl) (by kernel_rfl) (by kernel_rfl)) (knows_new (V := isVal (.string ⟨[121, 21, 38, 219, 251, 134, 234, 217, 36, 4].toArray⟩)) 106 52 (by kernel_rfl) (by kernel_rfl) (by kernel_rfl)) (fun _ => rfl) (eql_str _ _ _ _ (by decide)), ?_⟩
  refine ⟨isVal (.bool true), step_pick (.tmp 100) (.tmp 107) (.const (.bool false)) true (by kernel_rfl) (wanted_none (by kernel_rfl)) (stable_val _) (knows_new (V := isVal (.bool true)) 100 46 (by kernel_rfl) (by kernel_rfl) (by kernel_rfl)) (knows_new (V := isVal (.bool true)) 107 53 (by kernel_rfl) (by kernel_rfl) (by kernel_rfl)), ?_⟩
  refine ⟨isVal (.bool true), step_move (.tmp 108) (by kernel_rfl) (wanted_none (by kernel_rfl)) (stable_val _) (knows_new (V := isVal (.bool true)) 108 54 (by kernel_rfl) (by kernel_rfl) (by kernel_rfl)), ?_⟩
  refine ⟨isVal (.string ⟨[255, 255, 255, 255, 255, 255, 255, 255, 255, 255, 255, 255, 255, 255, 255, 255, 255, 255, 255, 255, 255, 255, 255, 255, 255].toArray⟩), step_move (.tmp 3) (by kernel_rfl) (wanted_some 55 109 true (by kernel_rfl) (by kernel_rfl) (by kernel_rfl) (by kernel_rfl)) (stable_val _) (knows_old 3 (.string ⟨[255, 255, 255, 255, 255, 255, 255, 255, 255, 255, 255, 255, 255, 255, 255, 255, 255, 255, 255, 255, 255, 255, 255, 255, 255].toArray⟩) (by kernel_rfl) e3), ?_⟩
  refine ⟨isVal (.string ⟨[].toArray⟩), step_call 18 #[.tmp 110, .const (.int .i64 1), .const (.int .i64 2)] #[9, 3, 3] #[.string ⟨[255, 255, 255, 255, 255, 255, 255, 255, 255, 255, 255, 255, 255, 255, 255, 255, 255, 255, 255, 255, 255, 255, 255, 255, 255].toArray⟩, .int .i64 1, .int .i64 2] (by kernel_rfl) (wanted_some 55 109 true (by kernel_rfl) (by kernel_rfl) (by kernel_rfl) (by kernel_rfl)) (stable_val _) (args3 (.tmp 110) (.const (.int .i64 1)) (.const (.int .i64 2)) (.string ⟨[255, 255, 255, 255, 255, 255, 255, 255, 255, 255, 255, 255, 255, 255, 255, 255, 255, 255, 255, 255, 255, 255, 255, 255, 255].toArray⟩) (.int .i64 1) (.int .i64 2) (knows_new (V := isVal (.string ⟨[255, 255, 255, 255, 255, 255, 255, 255, 255, 255, 255, 255, 255, 255, 255, 255, 255, 255, 255, 255, 255, 255, 255, 255, 255].toArray⟩)) 110 56 (by kernel_rfl) (by kernel_rfl) (by kernel_rfl)) (knows_const _) (knows_const _)) (enters_of Tryz.func18 (by kernel_rfl) rfl) (by intro w hb; exact f_slot2 w), ?_⟩
  refine ⟨isVal (.bool true), step_bin .eql 9 9 (.tmp 111) (.const (.string ⟨[].toArray⟩)) (.string ⟨[].toArray⟩) (.string ⟨[].toArray⟩) (.bool true) (by kernel_rfl) (wanted_some 55 109 true (by kernel_rfl) (by kernel_rfl) (by kernel_rfl) (by kernel_rfl)) (knows_new (V := isVal (.string ⟨[].toArray⟩)) 111 57 (by kernel_rfl) (by kernel_rfl) (by kernel_rfl)) (knows_const _) (fun _ => rfl) (eql_str _ _ _ _ (by decide)), ?_⟩
  refine ⟨isVal (.bool true), step_pick (.tmp 109) (.tmp 112) (.const (.bool false)) true (by kernel_rfl) (wanted_none (by kernel_rfl)) (stable_val _) (knows_new (V := isVal (.bool true)) 109 55 (by kernel_rfl) (by kernel_rfl) (by kernel_rfl)) (knows_new (V := isVal (.bool true)) 112 58 (by kernel_rfl) (by kernel_rfl) (by kernel_rfl)), ?_⟩
  refine ⟨isVal (.bool true), step_move (.tmp 113) (by kernel_rfl) (wanted_none (by kernel_rfl)) (stable_val _) (knows_new (V := isVal (.bool true)) 113 59 (by kernel_rfl) (by kernel_rfl) (by kernel_rfl)), ?_⟩
  refine ⟨isVal (.string ⟨[255, 255, 255, 255, 255, 255, 255, 255, 255, 255, 255, 255, 255, 255, 255, 255, 255, 255, 255, 255, 255, 255, 255, 255, 255].toArray⟩), step_move (.tmp 3) (by kernel_rfl) (wanted_some 60 114 true (by kernel_rfl) (by kernel_rfl) (by kernel_rfl) (by kernel_rfl)) (stable_val _) (knows_old 3 (.string ⟨[255, 255, 255, 255, 255, 255, 255, 255, 255, 255, 255, 255, 255, 255, 255, 255, 255, 255, 255, 255, 255, 255, 255, 255, 255].toArray⟩) (by kernel_rfl) e3), ?_⟩
  refine ⟨isVal (.string ⟨([255, 255, 255, 255, 255, 255, 255, 255, 255, 255, 255, 255, 255, 255, 255, 255, 255, 255, 255, 255, 255, 255, 255, 255, 255].take 5).toArray⟩), step_head 9 (.tmp 115) (.const (.int .i64 5)) [255, 255, 255, 255, 255, 255, 255, 255, 255, 255, 255, 255, 255, 255, 255, 255, 255, 255, 255, 255, 255, 255, 255, 255, 255] 5 (by kernel_rfl) (wanted_some 60 114 true (by kernel_rfl) (by kernel_rfl) (by kernel_rfl) (by kernel_rfl)) (knows_new (V := isVal (.string ⟨[255, 255, 255, 255, 255, 255, 255, 255, 255, 255, 255, 255, 255, 255, 255, 255, 255, 255, 255, 255, 255, 255, 255, 255, 255].toArray⟩)) 115 61 (by kernel_rfl) (by kernel_rfl) (by kernel_rfl)) (knows_const _) (head_str [255, 255, 255, 255, 255, 255, 255, 255, 255, 255, 255, 255, 255, 255, 255, 255, 255, 255, 255, 255, 255, 255, 255, 255, 255] 5 (by decide)), ?_⟩
  refine ⟨isVal (.string ⟨wCat5.toArray⟩), step_bin .add 9 9 (.tmp 116) (.const (.string ⟨[97, 98, 99, 100, 101].toArray⟩)) (.string ⟨([255, 255, 255, 255, 255, 255, 255, 255, 255, 255, 255, 255, 255, 255, 255, 255, 255, 255, 255, 255, 255, 255, 255, 255, 255].take 5).toArray⟩) (.string ⟨[97, 98, 99, 100, 101].toArray⟩) (.string ⟨wCat5.toArray⟩) (by kernel_rfl) (wanted_some 60 114 true (by kernel_rfl) (by kernel_rfl) (by kernel_rfl) (by kernel_rfl)) (knows_new (V := isVal (.string ⟨([255, 255, 255, 255, 255, 255, 255, 255, 255, 255, 255, 255, 255, 255, 255, 255, 255, 255, 255, 255, 255, 255, 255, 255, 255].take 5).toArray⟩)) 116 62 (by kernel_rfl) (by kernel_rfl) (by kernel_rfl)) (knows_const _) (fun _ => rfl) (fun W => run_string_add_lists W (wO.take 5) [97, 98, 99, 100, 101] (by decide) (by decide)), ?_⟩
  refine ⟨isVal (.string ⟨[255, 255, 255, 255, 255, 255, 255, 255, 255, 255, 255, 255, 255, 255, 255, 255, 255, 255, 255, 255, 255, 255, 255, 255, 255].toArray⟩), step_move (.tmp 3) (by kernel_rfl) (wanted_some 60 114 true (by kernel_rfl) (by kernel_rfl) (by kernel_rfl) (by kernel_rfl)) (stable_val _) (knows_old 3 (.string ⟨[255, 255, 255, 255, 255, 255, 255, 255, 255, 255, 255, 255, 255, 255, 255, 255, 255, 255, 255, 255, 255, 255, 255, 255, 255].toArray⟩) (by kernel_rfl) e3), ?_⟩
  refine ⟨isVal (.string ⟨([255, 255, 255, 255, 255, 255, 255, 255, 255, 255, 255, 255, 255, 255, 255, 255, 255, 255, 255, 255, 255, 255, 255, 255, 255].drop 10).toArray⟩), step_rest 9 (.tmp 118) (.const (.int .i64 10)) [255, 255, 255, 255, 255, 255, 255, 255, 255, 255, 255, 255, 255, 255, 255, 255, 255, 255, 255, 255, 255, 255, 255, 255, 255] 10 (by kernel_rfl) (wanted_some 60 114 true (by kernel_rfl) (by kernel_rfl) (by kernel_rfl) (by kernel_rfl)) (knows_new (V := isVal (.string ⟨[255, 255, 255, 255, 255, 255, 255, 255, 255, 255, 255, 255, 255, 255, 255, 255, 255, 255, 255, 255, 255, 255, 255, 255, 255].toArray⟩)) 118 64 (by kernel_rfl) (by kernel_rfl) (by kernel_rfl)) (knows_const _) (rest_str [255, 255, 255, 255, 255, 255, 255, 255, 255, 255, 255, 255, 255, 255, 255, 255, 255, 255, 255, 255, 255, 255, 255, 255, 255] 10 (by decide)), ?_⟩
  refine ⟨isVal (.string ⟨wCat.toArray⟩), step_bin .add 9 9 (.tmp 117) (.tmp 119) (.string ⟨wCat5.toArray⟩) (.string ⟨([255, 255, 255, 255, 255, 255, 255, 255, 255, 255, 255, 255, 255, 255, 255, 255, 255, 255, 255, 255, 255, 255, 255, 255, 255].drop 10).toArray⟩) (.string ⟨wCat.toArray⟩) (by kernel_rfl) (wanted_some 60 114 true (by kernel_rfl) (by kernel_rfl) (by kernel_rfl) (by kernel_rfl)) (knows_new (V := isVal (.string ⟨wCat5.toArray⟩)) 117 63 (by kernel_rfl) (by kernel_rfl) (by kernel_rfl)) (knows_new (V := isVal (.string ⟨([255, 255, 255, 255, 255, 255, 255, 255, 255, 255, 255, 255, 255, 255, 255, 255, 255, 255, 255, 255, 255, 255, 255, 255, 255].drop 10).toArray⟩)) 119 65 (by kernel_rfl) (by kernel_rfl) (by kernel_rfl)) (fun _ => rfl) (fun W => run_string_add_lists W wCat5 (wO.drop 10) (by decide) (by decide)), ?_⟩
  refine ⟨isVal (.int .i64 1), step_call 19 #[.tmp 120, .const (.int .i64 1)] #[9, 3] #[.string ⟨wCat.toArray⟩, .int .i64 1] (by kernel_rfl) (wanted_some 60 114 true (by kernel_rfl) (by kernel_rfl) (by kernel_rfl) (by kernel_rfl)) (stable_val _) (args2 (.tmp 120) (.const (.int .i64 1)) (.string ⟨wCat.toArray⟩) (.int .i64 1) (knows_new (V := isVal (.string ⟨wCat.toArray⟩)) 120 66 (by kernel_rfl) (by kernel_rfl) (by kernel_rfl)) (knows_const _)) (enters_of Tryz.func19 (by kernel_rfl) rfl) (by intro w hb; exact f_bad1 w), ?_⟩
  refine ⟨isVal (.bool true), step_bin .eql 3 3 (.tmp 121) (.const (.int .i64 1)) (.int .i64 1) (.int .i64 1) (.bool true) (by kernel_rfl) (wanted_some 60 114 true (by kernel_rfl) (by kernel_rfl) (by kernel_rfl) (by kernel_rfl)) (knows_new (V := isVal (.int .i64 1)) 121 67 (by kernel_rfl) (by kernel_rfl) (by kernel_rfl)) (knows_const _) (fun _ => rfl) (eql_int _ _ _ _ _ (by decide)), ?_⟩
  refine ⟨isVal (.bool true), step_pick (.tmp 114) (.tmp 122) (.const (.bool false)) true (by kernel_rfl) (wanted_none (by kernel_rfl)) (stable_val _) (knows_new (V := isVal (.bool true)) 114 60 (by kernel_rfl) (by kernel_rfl) (by kernel_rfl)) (knows_new (V := isVal (.bool true)) 122 68 (by kernel_rfl) (by kernel_rfl) (by kernel_rfl)), ?_⟩
  refine ⟨isVal (.bool true), step_assign (.tmp 123) (by kernel_rfl) (wanted_none (by kernel_rfl)) (stable_val _) (knows_new (V := isVal (.bool true)) 123 69 (by kernel_rfl) (by kernel_rfl) (by kernel_rfl)), ?_⟩
  intro a w hkp hb hd
  exact hQ a w hkp.1 (fdone_of (hd 70 (by rw [show worksOps.size = 71 by kernel_rfl]; decide)) (t := 0) (V := isVal (.bool true)) (by kernel_rfl) (by kernel_rfl)) hb

set_option maxRecDepth 100000 in
set_option maxHeartbeats 4000000 in
theorem works_any (w : World) : Calls Tryz.prog 9 #[] w fun e w' => e = .returned (.bool true) ∧ Below w.heap.size w w' := by
  have hB : Kept (Below w.heap.size w w) := ⟨Below.refl _ _⟩
  go_enter Tryz.func9, Tryz.ntmps9
  go_wp2_with fail
  ((with_reducible refine (c_new _).mono ?_); rintro e U ⟨v', rfl, hf', hb1⟩)
  obtain ⟨vp', vw', rfl, hp', hq'⟩ := hf'.fl
  have o1 := hp'.one
  have o2 := hq'.one
  obtain ⟨K1, K2, K3, K4⟩ := var_new U dv1 vp' vw' hp' hq'
  clear hp' hq' hf'
  replace hB := Kept.mk (hB.out.trans ((hb1).mono hB.out.size))
  clear hb1
  go_wp2_with (refine wpList_store5 rfl (.tmp 1) (.tmp 15) rfl U.heap.size vp' vw' (.int .i64 dv1.fuse) (strC dv1.torn) (.bool dv1.dead) rfl rfl K1.out K2.out o1 o2 rfl rfl rfl ?_; replace hB := Kept.mk (hB.out.trans ((K3.out).mono hB.out.size)); have Va := K4; clear K1 K2 K3 K4 o1 o2; generalize set5 (U.alloc (.cells #[.slice none 0 0, .slice none 0 0, .int .i64 0, .string ⟨#[]⟩, .bool false] 31)) U.heap.size vp' vw' (.int .i64 dv1.fuse) (strC dv1.torn) (.bool dv1.dead) = W1 at *; generalize U.heap.size = ga at *; obtain ⟨ba, oa, ca, da, qa, sa, Ca, fla, lba, lda, Pa, Ra⟩ := Va.out.rows (n := 1) (m := 1) rfl rfl (by decide) (by decide); have kap := Pa 0 _ rfl; obtain ⟨_, ka0, ka1, ka2, ka3, ka4⟩ := Ca; rw [Nat.add_zero] at kap; clear Pa Ra lba lda)
  ((with_reducible refine (c_app1 _ _ fla).mono ?_); rintro e U ⟨v', rfl, hf', hb1⟩)
  obtain ⟨vp', vw', rfl, hp', hq'⟩ := hf'.fl
  have o1 := hp'.one
  have o2 := hq'.one
  obtain ⟨K1, K2, K3, K4⟩ := var_new U dv2 vp' vw' hp' hq'
  clear hp' hq' hf'
  replace hB := Kept.mk (hB.out.trans ((hb1).mono hB.out.size))
  replace Va := Kept.mk (Va.out.keep (hb1))
  clear hb1
  go_wp2_with (refine wpList_store5 rfl (.tmp 4) (.tmp 28) rfl U.heap.size vp' vw' (.int .i64 dv2.fuse) (strC dv2.torn) (.bool dv2.dead) rfl rfl K1.out K2.out o1 o2 rfl rfl rfl ?_; replace hB := Kept.mk (hB.out.trans ((K3.out).mono hB.out.size)); replace Va := Kept.mk (Va.out.keep (K3.out)); have Vb := K4; clear K1 K2 K3 K4 o1 o2; generalize set5 (U.alloc (.cells #[.slice none 0 0, .slice none 0 0, .int .i64 0, .string ⟨#[]⟩, .bool false] 31)) U.heap.size vp' vw' (.int .i64 dv2.fuse) (strC dv2.torn) (.bool dv2.dead) = W2 at *; generalize U.heap.size = gb at *; obtain ⟨vpb, vwb, flb, kb0, kb1, kb2, kb3, kb4⟩ := Vb.out.open_; clear kap ka0 ka1 ka2 ka3 ka4 fla)
  ((with_reducible refine (c_app2 _ _ flb).mono ?_); rintro e U ⟨v', rfl, hf', hb1⟩)
  obtain ⟨vp', vw', rfl, hp', hq'⟩ := hf'.fl
  have o1 := hp'.one
  have o2 := hq'.one
  obtain ⟨K1, K2, K3, K4⟩ := var_new U dv3 vp' vw' hp' hq'
  clear hp' hq' hf'
  clear kb0 kb1 kb2 kb3 kb4 flb
  replace hB := Kept.mk (hB.out.trans ((hb1).mono hB.out.size))
  replace Va := Kept.mk (Va.out.keep (hb1))
  replace Vb := Kept.mk (Vb.out.keep (hb1))
  clear hb1
  go_wp2_with (refine wpList_store5 rfl (.tmp 6) (.tmp 33) rfl U.heap.size vp' vw' (.int .i64 dv3.fuse) (strC dv3.torn) (.bool dv3.dead) rfl rfl K1.out K2.out o1 o2 rfl rfl rfl ?_; replace hB := Kept.mk (hB.out.trans ((K3.out).mono hB.out.size)); replace Va := Kept.mk (Va.out.keep (K3.out)); replace Vb := Kept.mk (Vb.out.keep (K3.out)); have Vc := K4; clear K1 K2 K3 K4 o1 o2; generalize set5 (U.alloc (.cells #[.slice none 0 0, .slice none 0 0, .int .i64 0, .string ⟨#[]⟩, .bool false] 31)) U.heap.size vp' vw' (.int .i64 dv3.fuse) (strC dv3.torn) (.bool dv3.dead) = W3 at *; generalize U.heap.size = gc at *; obtain ⟨vpc, vwc, flc, kc0, kc1, kc2, kc3, kc4⟩ := Vc.out.open_)
  ((with_reducible refine (c_app3 _ _ flc).mono ?_); rintro e U ⟨v', rfl, hf', hb1⟩)
  obtain ⟨vp', vw', rfl, hp', hq'⟩ := hf'.fl
  have o1 := hp'.one
  have o2 := hq'.one
  obtain ⟨K1, K2, K3, K4⟩ := var_new U dv3 vp' vw' hp' hq'
  clear hp' hq' hf'
  clear kc0 kc1 kc2 kc3 kc4 flc
  replace hB := Kept.mk (hB.out.trans ((hb1).mono hB.out.size))
  replace Va := Kept.mk (Va.out.keep (hb1))
  replace Vb := Kept.mk (Vb.out.keep (hb1))
  replace Vc := Kept.mk (Vc.out.keep (hb1))
  clear hb1
  go_wp2_with (refine wpList_store5 rfl (.tmp 8) (.tmp 38) rfl U.heap.size vp' vw' (.int .i64 dv3.fuse) (strC dv3.torn) (.bool dv3.dead) rfl rfl K1.out K2.out o1 o2 rfl rfl rfl ?_; replace hB := Kept.mk (hB.out.trans ((K3.out).mono hB.out.size)); replace Va := Kept.mk (Va.out.keep (K3.out)); replace Vb := Kept.mk (Vb.out.keep (K3.out)); replace Vc := Kept.mk (Vc.out.keep (K3.out)); have Vd := K4; clear K1 K2 K3 K4 o1 o2; generalize set5 (U.alloc (.cells #[.slice none 0 0, .slice none 0 0, .int .i64 0, .string ⟨#[]⟩, .bool false] 31)) U.heap.size vp' vw' (.int .i64 dv3.fuse) (strC dv3.torn) (.bool dv3.dead) = W4 at *; generalize U.heap.size = gd at *; obtain ⟨vpc, vwc, flc, kc0, kc1, kc2, kc3, kc4⟩ := Vc.out.open_)
  ((with_reducible refine (c_app4 _ _ flc).mono ?_); rintro e U ⟨v', rfl, hf', hb1⟩)
  obtain ⟨vp', vw', rfl, hp', hq'⟩ := hf'.fl
  have o1 := hp'.one
  have o2 := hq'.one
  obtain ⟨K1, K2, K3, K4⟩ := var_new U dv3 vp' vw' hp' hq'
  clear hp' hq' hf'
  clear kc0 kc1 kc2 kc3 kc4 flc
  replace hB := Kept.mk (hB.out.trans ((hb1).mono hB.out.size))
  replace Va := Kept.mk (Va.out.keep (hb1))
  replace Vb := Kept.mk (Vb.out.keep (hb1))
  replace Vc := Kept.mk (Vc.out.keep (hb1))
  replace Vd := Kept.mk (Vd.out.keep (hb1))
  clear hb1
  go_wp2_with (refine wpList_store5 rfl (.tmp 10) (.tmp 43) rfl U.heap.size vp' vw' (.int .i64 dv3.fuse) (strC dv3.torn) (.bool dv3.dead) rfl rfl K1.out K2.out o1 o2 rfl rfl rfl ?_; replace hB := Kept.mk (hB.out.trans ((K3.out).mono hB.out.size)); replace Va := Kept.mk (Va.out.keep (K3.out)); replace Vb := Kept.mk (Vb.out.keep (K3.out)); replace Vc := Kept.mk (Vc.out.keep (K3.out)); replace Vd := Kept.mk (Vd.out.keep (K3.out)); have Ve := K4; clear K1 K2 K3 K4 o1 o2; generalize set5 (U.alloc (.cells #[.slice none 0 0, .slice none 0 0, .int .i64 0, .string ⟨#[]⟩, .bool false] 31)) U.heap.size vp' vw' (.int .i64 dv3.fuse) (strC dv3.torn) (.bool dv3.dead) = W5 at *; generalize U.heap.size = ge at *; obtain ⟨bc, oc, cc, dc, qc, sc, Cc, flc, lbc, ldc, Pc, Rc⟩ := Vc.out.rows (n := 1) (m := 1) rfl rfl (by decide) (by decide); have kcp := Pc 0 _ rfl; obtain ⟨_, kc0, kc1, kc2, kc3, kc4⟩ := Cc; rw [Nat.add_zero] at kcp; clear Pc Rc lbc ldc)
  ((with_reducible refine (c_recs _).mono ?_); rintro e W9 ⟨v12, rfl, hr, hb1⟩)
  clear kcp kc0 kc1 kc2 kc3 kc4 flc
  replace hB := Kept.mk (hB.out.trans ((hb1).mono hB.out.size))
  replace Va := Kept.mk (Va.out.keep (hb1))
  replace Vb := Kept.mk (Vb.out.keep (hb1))
  replace Vc := Kept.mk (Vc.out.keep (hb1))
  replace Vd := Kept.mk (Vd.out.keep (hb1))
  replace Ve := Kept.mk (Ve.out.keep (hb1))
  have HR := Kept.mk hr
  clear hb1 hr
  go_wp2_with fail
  obtain ⟨bc, oc, cc, dc, qc, sc, Cc, Lc, lbc, ldc, Pc, Rc⟩ := Vc.out.rows (n := 1) (m := 1) rfl rfl (by decide) (by decide)
  refine works_region _ _ _ rfl _ _ _ _ _ _ _ v12 HR.out rfl rfl rfl rfl rfl rfl rfl rfl Cc lbc Pc ?_
  intro a w5 hd h0 hb5
  have hB2 := hB.out.trans (hb5.mono hB.out.size)
  go_wp2
  refine bodyPost_ret (results_tmp rfl a.tmps Tryz.prog w5) hd ⟨?_, hB2⟩
  rw [h0]
end Go.Proofs.YtipiioggdalkoaaGreatDoor
