/- Contract of page.copied. -/
import Derived.Test.YtipiioggdalkoaaGreatDoorFlVar
namespace Go.Proofs.YtipiioggdalkoaaGreatDoor
open Go.RowKit
set_option linter.unusedVariables false
set_option linter.unusedSimpArgs false
noncomputable def pcopyOps : Array Oper := regionOf Tryz.f43 1
set_option maxRecDepth 100000 in
set_option maxHeartbeats 1000000 in
theorem pcopied_region (Q : Exit → Act → World → Prop) (a0 : Act) (w0 : World) (hsz : a0.tmps.size = 12) (g : Nat) (pages : List (List UInt8)) (wear : List Int) (vp vw v2 v3 v4 : Value)
    (h1 : a0.tmps.getD 1 undef = .pointer (some ⟨g, 0, none⟩)) (hc : Cells5 w0 g vp vw v2 v3 v4) (hf : Free5 w0 g) (hp : isCells (pages.map strC) vp w0) (hw : isCells (wear.map intC) vw w0)
    (hl1 : pages.length * 16 ≤ 140737488355328) (hl2 : wear.length * 8 ≤ 140737488355328)
    (hQ : ∀ (a : Act) (w1 : World) (vp' vw' : Value), a.defers = a0.defers → a.tmps.size = a0.tmps.size → (∀ t, (pcopyOps.toList.all fun o => o.dst != some t) = true → a.tmps.getD t undef = a0.tmps.getD t undef) →
      Below w0.heap.size w0 w1 → isOwn w0.heap.size 9 (pages.map strC) vp' w1 → isOwn w0.heap.size 3 (wear.map intC) vw' w1 → Q .normal a ((w1.setCell ⟨g, 0, none⟩ vp').setCell ⟨g, 1, none⟩ vw')) :
    (Code.region 1 pcopyOps true).wp Tryz.prog Q a0 w0 := by
  refine wp_region_tail 7 mixed (by rw [hsz]; kernel_rfl) (by kernel_rfl) ?_
  rw [show pcopyOps.size - 7 = 3 by kernel_rfl]
  refine ⟨isVal (.pointer (some ⟨g, 0, none⟩)), step_field 31 (.tmp 1) 0 ⟨g, 0, none⟩ ⟨g, 0, none⟩ (by kernel_rfl) (wanted_none (by kernel_rfl)) (knows_old 1 (.pointer (some ⟨g, 0, none⟩)) (by kernel_rfl) h1) (field_fl g 0 (by omega)), ?_⟩
  refine ⟨isVal vp, step_read 26 (.tmp 3) ⟨g, 0, none⟩ vp (by kernel_rfl) (wanted_none (by kernel_rfl)) (knows_new (V := isVal (.pointer (some ⟨g, 0, none⟩))) 3 0 (by kernel_rfl) (by kernel_rfl) (by kernel_rfl)) hc.2.1 hc.1 agg_strs, ?_⟩
  refine ⟨(isOwn w0.heap.size 9 (pages.map strC)), step_call 66 #[.tmp 4] #[26] #[vp] (by kernel_rfl) (wanted_none (by kernel_rfl)) (stable_own _ _ _) (args1 (.tmp 4) vp (knows_new (V := isVal vp) 4 1 (by kernel_rfl) (by kernel_rfl) (by kernel_rfl))) (enters_of Tryz.func66 (by kernel_rfl) rfl) (by intro w hb; exact clone_s' w0.heap.size pages vp w (stable_cells _ _ _ _ hp hb) hl1 hb.size), ?_⟩
  refine ⟨isVal (.pointer (some ⟨g, 1, none⟩)), step_field 31 (.tmp 1) 1 ⟨g, 0, none⟩ ⟨g, 1, none⟩ (by kernel_rfl) (wanted_none (by kernel_rfl)) (knows_old 1 (.pointer (some ⟨g, 0, none⟩)) (by kernel_rfl) h1) (field_fl g 1 (by omega)), ?_⟩
  refine ⟨isVal vw, step_read 29 (.tmp 6) ⟨g, 1, none⟩ vw (by kernel_rfl) (wanted_none (by kernel_rfl)) (knows_new (V := isVal (.pointer (some ⟨g, 1, none⟩))) 6 3 (by kernel_rfl) (by kernel_rfl) (by kernel_rfl)) hc.2.2.1 hc.1 agg_ints, ?_⟩
  refine ⟨(isOwn w0.heap.size 3 (wear.map intC)), step_call 67 #[.tmp 7] #[29] #[vw] (by kernel_rfl) (wanted_none (by kernel_rfl)) (stable_own _ _ _) (args1 (.tmp 7) vw (knows_new (V := isVal vw) 7 4 (by kernel_rfl) (by kernel_rfl) (by kernel_rfl))) (enters_of Tryz.func67 (by kernel_rfl) rfl) (by intro w hb; exact clone_i' w0.heap.size wear vw w (stable_cells _ _ _ _ hw hb) hl2 hb.size), ?_⟩
  refine ⟨isVal (.pointer (some ⟨g, 0, none⟩)), step_field 31 (.tmp 1) 0 ⟨g, 0, none⟩ ⟨g, 0, none⟩ (by kernel_rfl) (wanted_none (by kernel_rfl)) (knows_old 1 (.pointer (some ⟨g, 0, none⟩)) (by kernel_rfl) h1) (field_fl g 0 (by omega)), ?_⟩
  intro a w hk hb hd
  have d5 := fdone_of (hd 2 (by decide)) (t := 5) (V := isOwn w0.heap.size 9 (pages.map strC)) (by kernel_rfl) (by kernel_rfl)
  have d8 := fdone_of (hd 5 (by decide)) (t := 8) (V := isOwn w0.heap.size 3 (wear.map intC)) (by kernel_rfl) (by kernel_rfl)
  have d9 := fdone_of (hd 6 (by decide)) (t := 9) (V := isVal (.pointer (some ⟨g, 0, none⟩))) (by kernel_rfl) (by kernel_rfl)
  have e1 : a.tmps.getD 1 undef = .pointer (some ⟨g, 0, none⟩) := (hk.2.2 1 (by kernel_rfl)).trans h1
  have hcw := hc.keep hb hc.1
  have hfw := hf.keep hb hc.1
  have hgw : g < w0.heap.size := hc.1
  have hs10 : 10 < a.tmps.size := by rw [hk.2.1, hsz]; decide
  refine tail_store 26 (.tmp 9) (.tmp 5) ⟨g, 0, none⟩ (a.tmps.getD 5 undef) _ (by kernel_rfl) (by kernel_rfl) d9 rfl (by kernel_rfl) d5.one.1 d5.one.2 hcw.2.1 (hfw 0) ?_
  refine tail_field 31 (.tmp 1) 1 ⟨g, 0, none⟩ ⟨g, 1, none⟩ 10 (by kernel_rfl) (by kernel_rfl) e1 (field_fl g 1 (by omega)) ?_
  refine tail_store 29 (.tmp 10) (.tmp 8) ⟨g, 1, none⟩ (a.tmps.getD 8 undef) _ (by kernel_rfl) (by kernel_rfl) (getD_put_self hs10) (getD_put (by decide)) (by kernel_rfl) d8.one.1 d8.one.2 (hcw.set0 _).2.2.1 (hfw.set _ _ 1) ?_
  refine hQ _ w _ _ ((defers_put (a := a)).trans hk.1) ((size_put (a := a)).trans hk.2.1) (fun t ht => ?_) hb d5 d8
  have hall : (pcopyOps.toList.all fun o => o.dst != some 10) = false := by kernel_rfl
  rw [getD_put (fun e => by rw [e, hall] at ht; cases ht)]
  exact hk.2.2 t ht

set_option maxRecDepth 100000 in
set_option maxHeartbeats 1000000 in
theorem pcopied_any (F : Fl) (v : Value) (w : World) (hv : isFl F v w) (h1 : F.pages.length * 16 ≤ 140737488355328) (h2 : F.wear.length * 8 ≤ 140737488355328) :
    Calls Tryz.prog 43 #[v] w fun e w' => ∃ vp vw, e = .returned (.agg #[vp, vw, .int .i64 F.fuse, strC F.torn, .bool F.dead]) ∧ isOwn w.heap.size 9 (F.pages.map strC) vp w' ∧ isOwn w.heap.size 3 (F.wear.map intC) vw w' ∧ Below w.heap.size w w' := by
  obtain ⟨vp, vw, rfl, hp, hw⟩ := hv
  have HP := Lib.hid hp
  have HW := Lib.hid hw
  clear hp hw
  go_enter Tryz.func43, Tryz.ntmps43
  go_wp2_with fail
  have hb0 : Below w.heap.size w ((w.alloc (.cells #[vp, vw, .int .i64 F.fuse, strC F.torn, .bool F.dead] 31)).alloc (.cells #[.slice none 0 0, .slice none 0 0, .int .i64 0, .string ⟨#[]⟩, .bool false] 31)) := ((Below.refl _ _).alloc (Nat.le_refl _) _).alloc (by simp <;> omega) _
  have hc1 := cells5_new w 31 vp vw (.int .i64 F.fuse) (strC F.torn) (.bool F.dead)
  have hf1 := free5_new w #[vp, vw, .int .i64 F.fuse, strC F.torn, .bool F.dead] 31
  have hc2 := cells5_at (w.alloc (.cells #[vp, vw, .int .i64 F.fuse, strC F.torn, .bool F.dead] 31)) 31 (.slice none 0 0) (.slice none 0 0) (.int .i64 0) (.string ⟨#[]⟩) (.bool false) (w.heap.size + 1) (by simp)
  have hf2 := free5_at (w.alloc (.cells #[vp, vw, .int .i64 F.fuse, strC F.torn, .bool F.dead] 31)) #[.slice none 0 0, .slice none 0 0, .int .i64 0, .string ⟨#[]⟩, .bool false] 31 (w.heap.size + 1) (by simp)
  have hbn := (Below.refl (w.alloc (.cells #[vp, vw, .int .i64 F.fuse, strC F.torn, .bool F.dead] 31)).heap.size (w.alloc (.cells #[vp, vw, .int .i64 F.fuse, strC F.torn, .bool F.dead] 31))).alloc (Nat.le_refl _) (.cells #[.slice none 0 0, .slice none 0 0, .int .i64 0, .string ⟨#[]⟩, .bool false] 31)
  refine pcopied_region _ _ _ rfl w.heap.size F.pages F.wear vp vw (.int .i64 F.fuse) (strC F.torn) (.bool F.dead) rfl (hc1.keep hbn (by simp <;> omega)) (hf1.keep hbn (by simp <;> omega)) (stable_cells _ _ _ _ HP.out hb0) (stable_cells _ _ _ _ HW.out hb0) h1 h2 ?_
  intro act w1 vp' vw' hdf hsz hkeep hb1 ho1 ho2
  have hk1 : act.tmps.getD 1 undef = .pointer (some ⟨w.heap.size, 0, none⟩) := hkeep 1 (by kernel_rfl)
  have hk2 : act.tmps.getD 2 undef = .pointer (some ⟨w.heap.size + 1, 0, none⟩) := hkeep 2 (by kernel_rfl)
  obtain ⟨tm, df⟩ := act
  obtain rfl : df = [] := hdf
  clear hkeep
  obtain ⟨f, rfl, hk1, hk2⟩ : ∃ f : Nat → Value, tm = ((List.range 12).map f).toArray ∧ f 1 = .pointer (some ⟨w.heap.size, 0, none⟩) ∧ f 2 = .pointer (some ⟨w.heap.size + 1, 0, none⟩) := ⟨fun i => tm.getD i undef, arr_eta tm hsz, hk1, hk2⟩
  rw [show ((List.range 12).map f).toArray = #[f 0, f 1, f 2, f 3, f 4, f 5, f 6, f 7, f 8, f 9, f 10, f 11] from rfl]
  rw [hk1, hk2]
  clear hsz hk1 hk2
  have q1 := (((hc1.keep hbn (by simp <;> omega)).keep hb1 (by simp <;> omega)).set0 vp').set1 vw'
  have q2 := (((hc2.keep hb1 (by simp <;> omega)).apart (b := w.heap.size) (o := 0) vp' (by simp <;> omega)).apart (b := w.heap.size) (o := 1) vw' (by simp <;> omega))
  have q3 := ((hf2.keep hb1 (by simp <;> omega)).set ⟨w.heap.size, 0, none⟩ vp').set ⟨w.heap.size, 1, none⟩ vw'
  have hB : Below w.heap.size w ((w1.setCell ⟨w.heap.size, 0, none⟩ vp').setCell ⟨w.heap.size, 1, none⟩ vw') := ((hb0.trans (hb1.mono hb0.size)).setCell (p := ⟨w.heap.size, 0, none⟩) (Nat.le_refl _) vp').setCell (p := ⟨w.heap.size, 1, none⟩) (Nat.le_refl _) vw'
  replace ho1 := (ho1.set (p := ⟨w.heap.size, 0, none⟩) (by simp <;> omega) vp').set (p := ⟨w.heap.size, 1, none⟩) (by simp <;> omega) vw'
  replace ho2 := (ho2.set (p := ⟨w.heap.size, 0, none⟩) (by simp <;> omega) vp').set (p := ⟨w.heap.size, 1, none⟩) (by simp <;> omega) vw'
  obtain ⟨oc1, oo1⟩ := ho1.one
  obtain ⟨oc2, oo2⟩ := ho2.one
  generalize (w1.setCell ⟨w.heap.size, 0, none⟩ vp').setCell ⟨w.heap.size, 1, none⟩ vw' = W at *
  have HO1 := Lib.hid ho1
  have HO2 := Lib.hid ho2
  clear ho1 ho2 hc1 hc2 hf1 hf2 hbn hb1 hb0 HP HW
  have hB5 := below_set5 hB (g := w.heap.size + 1) (by omega) vp' vw' (.int .i64 F.fuse) (strC F.torn) (.bool F.dead)
  obtain ⟨g1, k0, k1, k2, k3, k4⟩ := q1
  obtain ⟨g2, j0, j1, j2, j3, j4⟩ := q2.set5_ vp' vw' (.int .i64 F.fuse) (strC F.torn) (.bool F.dead)
  have HQ2 := Lib.hid q2
  have HQ5 := Lib.hid (q2.set5_ vp' vw' (.int .i64 F.fuse) (strC F.torn) (.bool F.dead))
  have HQ3 := Lib.hid q3
  clear q2 q3
  have HP1 := Lib.hid (show isOwn w.heap.size 9 (F.pages.map strC) vp' (set5 W (w.heap.size + 1) vp' vw' (.int .i64 F.fuse) (strC F.torn) (.bool F.dead)) from (HO1.out.set5_ (by simp <;> omega) _ _ _ _ _).low (by simp <;> omega))
  have HP2 := Lib.hid (show isOwn w.heap.size 3 (F.wear.map intC) vw' (set5 W (w.heap.size + 1) vp' vw' (.int .i64 F.fuse) (strC F.torn) (.bool F.dead)) from (HO2.out.set5_ (by simp <;> omega) _ _ _ _ _).low (by simp <;> omega))
  go_wp2_with (refine wpList_store5 rfl _ _ rfl (w.heap.size + 1) vp' vw' (.int .i64 F.fuse) (strC F.torn) (.bool F.dead) rfl rfl HQ2.out HQ3.out oo1 oo2 rfl rfl rfl ?_)
  exact bodyPost_ret (results1 rfl _ _ (w.heap.size + 1) vp' vw' (.int .i64 F.fuse) (strC F.torn) (.bool F.dead) rfl HQ5.out) rfl ⟨_, _, rfl, HP1.out, HP2.out, hB5⟩
end Go.Proofs.YtipiioggdalkoaaGreatDoor
