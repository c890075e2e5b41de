/- Joined texts: contracts of the program's functions, and the mathematics that they lean on. -/
import Derived.Test.YtipiioggdalkoaaGreatDoorPartC
import Derived.IntWalk
import Derived.SizedLaws
import Derived.SliceStrings
import Derived.Carry
import Derived.Maps.AppendAt
import Derived.OwnWalk
import Derived.Laws.BytesArg
section
namespace Go.Proofs.YtipiioggdalkoaaGreatDoor
open Go.RowKit Go.Shelf
set_option linter.unusedVariables false
set_option linter.unusedSimpArgs false

theorem clear_l (t : List UInt8) (w : World) (ht : t.length ≤ 1000000000) :
    Calls Tryz.prog 28 #[.string ⟨t.toArray⟩] w fun e w' => e = .returned (.bool (clearL t)) ∧ Below w.heap.size w w' := by
  have h := clear_any ⟨t.toArray⟩ w (by rw [size_mk]; exact ht)
  simpa using h
def isRec (t : List UInt8) : Bool := decide (readE t = 0)
theorem isRecord_any (t : List UInt8) (w : World) (ht : t.length ≤ 2056) :
    Calls Tryz.prog 39 #[.string ⟨t.toArray⟩] w fun e w' => e = .returned (.bool (isRec t)) ∧ Below w.heap.size w w' := by
  rcases readE_cases t with ⟨h0, _⟩ | ⟨h0, _⟩
  all_goals
    have HE := Lib.hid h0
    have HR := Lib.hid (show isRec t = decide (readE t = 0) from rfl)
    clear h0
    go_enter Tryz.func39, Tryz.ntmps39
    go_wp2_with fail
    ((with_reducible refine (read_any t _ ht).mono ?_); rintro e w1 ⟨rfl, hb⟩)
    rw [HE.out]
    have HB := Lib.hid hb
    clear hb
    go_wp2
    go_ret
    exact ⟨by rw [HR.out, HE.out]; rfl, HB.out⟩
def badP (t : List UInt8) : Bool := !clearL t && !isRec t
def nextP (t : List UInt8) : Bool := !clearL t
theorem next1_any (t : List UInt8) (w : World) (ht : t.length ≤ 2056) :
    Calls Tryz.prog 41 #[.string ⟨t.toArray⟩] w fun e w' => e = .returned (.bool (nextP t)) ∧ Below w.heap.size w w' := by
  have HR := Lib.hid (show nextP t = !clearL t from rfl)
  go_enter Tryz.func41, Tryz.ntmps41
  go_wp2_with fail
  ((with_reducible refine (clear_l t _ (by omega)).mono ?_); rintro e w1 ⟨rfl, hb⟩)
  have HB := Lib.hid hb
  clear hb
  go_wp2
  go_ret
  exact ⟨by rw [HR.out]; rfl, HB.out⟩
theorem bad1_any (t : List UInt8) (w : World) (ht : t.length ≤ 2056) :
    Calls Tryz.prog 38 #[.string ⟨t.toArray⟩] w fun e w' => e = .returned (.bool (badP t)) ∧ Below w.heap.size w w' := by
  have HR := Lib.hid (show badP t = (!clearL t && !isRec t) from rfl)
  cases hc : clearL t with
  | true =>
    have HC := Lib.hid hc
    clear hc
    go_enter Tryz.func38, Tryz.ntmps38
    go_wp2_with fail
    ((with_reducible refine (clear_l t _ (by omega)).mono ?_); rintro e w1 ⟨rfl, hb⟩)
    rw [HC.out]
    have HB := Lib.hid hb
    clear hb
    go_wp2
    go_ret
    exact ⟨by rw [HR.out, HC.out]; rfl, HB.out⟩
  | false =>
    have HC := Lib.hid hc
    clear hc
    go_enter Tryz.func38, Tryz.ntmps38
    go_wp2_with fail
    ((with_reducible refine (clear_l t _ (by omega)).mono ?_); rintro e w1 ⟨rfl, hb⟩)
    rw [HC.out]
    have HB := Lib.hid hb
    clear hb
    go_wp2_with fail
    ((with_reducible refine (isRecord_any t _ ht).mono ?_); rintro e w2 ⟨rfl, hb⟩)
    have HB2 := Lib.hid (HB.out.trans (hb.mono HB.out.size))
    clear hb
    go_wp2
    go_ret
    exact ⟨by rw [HR.out, HC.out]; rfl, HB2.out⟩
/-- How many places are neither records nor clear; one more than the last that is not clear. -/
def badN (s : List UInt8) (n : Int) : Nat := tcnt (fun i => badP (slotL s n i)) (List.range (roomN s n))
def nextN (s : List UInt8) (n : Int) : Nat := tend (fun i => nextP (slotL s n i)) (List.range (roomN s n))
theorem tally_new (w : World) : Tally (w.alloc (.cells #[.int .i64 0, .int .i64 0] 52)) w.heap.size 0 0 := by
  show (w.heap.push _)[w.heap.size]? = _
  simp
set_option maxHeartbeats 1000000 in
theorem bad_any (s : List UInt8) (n : Int) (w : World) (hs : s.length ≤ 1000000) (hz : szN n ≤ 2056 ∨ roomN s n = 0) :
    Calls Tryz.prog 19 #[.string ⟨s.toArray⟩, .int .i64 n] w fun e w' => e = .returned (.int .i64 (badN s n : Int)) ∧ Below w.heap.size w w' := by
  have hB0 : Below w.heap.size w (w.alloc (.cells #[.int .i64 0, .int .i64 0] 52)) := (Below.refl _ _).alloc (Nat.le_refl _) _
  have HB := Lib.hid hB0
  clear hB0
  go_enter Tryz.func19, Tryz.ntmps19
  go_wp2_with fail
  ((with_reducible refine (mark_any s n 38 w.heap.size badP _ hs hz (tally_new w) (enters_of Tryz.func38 (by kernel_rfl) rfl) (fun t W ht => bad1_any t W ht)).mono ?_); rintro e W1 ⟨⟨v9, rfl⟩, hT, hb⟩)
  have HB2 := Lib.hid (HB.out.trans hb)
  have k0 : W1.cell? ⟨w.heap.size, 0, none⟩ = some (.int .i64 (badN s n : Int)) := by
    have h : W1.heap[w.heap.size]? = _ := hT
    simp only [World.cell?, h]
    rfl
  clear hT hb
  go_wp2
  go_ret
  exact ⟨rfl, HB2.out⟩
set_option maxHeartbeats 1000000 in
theorem next_any (s : List UInt8) (n : Int) (w : World) (hs : s.length ≤ 1000000) (hz : szN n ≤ 2056 ∨ roomN s n = 0) :
    Calls Tryz.prog 20 #[.string ⟨s.toArray⟩, .int .i64 n] w fun e w' => e = .returned (.int .i64 (nextN s n : Int)) ∧ Below w.heap.size w w' := by
  have hB0 : Below w.heap.size w (w.alloc (.cells #[.int .i64 0, .int .i64 0] 52)) := (Below.refl _ _).alloc (Nat.le_refl _) _
  have HB := Lib.hid hB0
  clear hB0
  go_enter Tryz.func20, Tryz.ntmps20
  go_wp2_with fail
  ((with_reducible refine (mark_any s n 41 w.heap.size nextP _ hs hz (tally_new w) (enters_of Tryz.func41 (by kernel_rfl) rfl) (fun t W ht => next1_any t W ht)).mono ?_); rintro e W1 ⟨⟨v9, rfl⟩, hT, hb⟩)
  have HB2 := Lib.hid (HB.out.trans hb)
  have k0 : W1.cell? ⟨w.heap.size, 1, none⟩ = some (.int .i64 (nextN s n : Int)) := by
    have h : W1.heap[w.heap.size]? = _ := hT
    simp only [World.cell?, h]
    rfl
  clear hT hb
  go_wp2
  go_ret
  exact ⟨rfl, HB2.out⟩
end Go.Proofs.YtipiioggdalkoaaGreatDoor
end
section
namespace Go.Proofs.YtipiioggdalkoaaGreatDoor
open Go.RowKit
set_option linter.unusedVariables false
set_option linter.unusedSimpArgs false
noncomputable def pcopyOps : Array Oper := regionOf Tryz.f43 1
set_option maxRecDepth 100000 in
set_option maxHeartbeats 1000000 in
theorem pcopied_region (Q : Exit → Act → World → Prop) (a0 : Act) (w0 : World) (hsz : a0.tmps.size = 12) (g : Nat) (pages : List (List UInt8)) (wear : List Int) (vp vw v2 v3 v4 : Value)
    (h1 : a0.tmps.getD 1 undef = .pointer (some ⟨g, 0, none⟩)) (hc : Cells5 w0 g vp vw v2 v3 v4) (hf : Free5 w0 g) (hp : isCells (pages.map strC) vp w0) (hw : isCells (wear.map intC) vw w0)
    (hl1 : pages.length * 16 ≤ 140737488355328) (hl2 : wear.length * 8 ≤ 140737488355328)
    (hQ : ∀ (a : Act) (w1 : World) (vp' vw' : Value), a.defers = a0.defers → a.tmps.size = a0.tmps.size → (∀ t, (pcopyOps.toList.all fun o => o.dst != some t) = true → a.tmps.getD t undef = a0.tmps.getD t undef) →
      Below w0.heap.size w0 w1 → isOwn w0.heap.size 9 (pages.map strC) vp' w1 → isOwn w0.heap.size 3 (wear.map intC) vw' w1 → Q .normal a ((w1.setCell ⟨g, 0, none⟩ vp').setCell ⟨g, 1, none⟩ vw')) :
    (Code.region 1 pcopyOps true).wp Tryz.prog Q a0 w0 := by
  refine wp_region_tail 7 mixed (by rw [hsz]; kernel_rfl) (by kernel_rfl) ?_
  rw [show pcopyOps.size - 7 = 3 by kernel_rfl]
  refine ⟨isVal (.pointer (some ⟨g, 0, none⟩)), step_field 31 (.tmp 1) 0 ⟨g, 0, none⟩ ⟨g, 0, none⟩ (by kernel_rfl) (wanted_none (by kernel_rfl)) (knows_old 1 (.pointer (some ⟨g, 0, none⟩)) (by kernel_rfl) h1) (field_fl g 0 (by omega)), ?_⟩
  refine ⟨isVal vp, step_read 26 (.tmp 3) ⟨g, 0, none⟩ vp (by kernel_rfl) (wanted_none (by kernel_rfl)) (knows_new (V := isVal (.pointer (some ⟨g, 0, none⟩))) 3 0 (by kernel_rfl) (by kernel_rfl) (by kernel_rfl)) hc.2.1 hc.1 agg_strs, ?_⟩
  refine ⟨(isOwn w0.heap.size 9 (pages.map strC)), step_call 66 #[.tmp 4] #[26] #[vp] (by kernel_rfl) (wanted_none (by kernel_rfl)) (stable_own _ _ _) (args1 (.tmp 4) vp (knows_new (V := isVal vp) 4 1 (by kernel_rfl) (by kernel_rfl) (by kernel_rfl))) (enters_of Tryz.func66 (by kernel_rfl) rfl) (by intro w hb; exact clone_s' w0.heap.size pages vp w (stable_cells _ _ _ _ hp hb) hl1 hb.size), ?_⟩
  refine ⟨isVal (.pointer (some ⟨g, 1, none⟩)), step_field 31 (.tmp 1) 1 ⟨g, 0, none⟩ ⟨g, 1, none⟩ (by kernel_rfl) (wanted_none (by kernel_rfl)) (knows_old 1 (.pointer (some ⟨g, 0, none⟩)) (by kernel_rfl) h1) (field_fl g 1 (by omega)), ?_⟩
  refine ⟨isVal vw, step_read 29 (.tmp 6) ⟨g, 1, none⟩ vw (by kernel_rfl) (wanted_none (by kernel_rfl)) (knows_new (V := isVal (.pointer (some ⟨g, 1, none⟩))) 6 3 (by kernel_rfl) (by kernel_rfl) (by kernel_rfl)) hc.2.2.1 hc.1 agg_ints, ?_⟩
  refine ⟨(isOwn w0.heap.size 3 (wear.map intC)), step_call 67 #[.tmp 7] #[29] #[vw] (by kernel_rfl) (wanted_none (by kernel_rfl)) (stable_own _ _ _) (args1 (.tmp 7) vw (knows_new (V := isVal vw) 7 4 (by kernel_rfl) (by kernel_rfl) (by kernel_rfl))) (enters_of Tryz.func67 (by kernel_rfl) rfl) (by intro w hb; exact clone_i' w0.heap.size wear vw w (stable_cells _ _ _ _ hw hb) hl2 hb.size), ?_⟩
  refine ⟨isVal (.pointer (some ⟨g, 0, none⟩)), step_field 31 (.tmp 1) 0 ⟨g, 0, none⟩ ⟨g, 0, none⟩ (by kernel_rfl) (wanted_none (by kernel_rfl)) (knows_old 1 (.pointer (some ⟨g, 0, none⟩)) (by kernel_rfl) h1) (field_fl g 0 (by omega)), ?_⟩
  intro a w hk hb hd
  have d5 := fdone_of (hd 2 (by decide)) (t := 5) (V := isOwn w0.heap.size 9 (pages.map strC)) (by kernel_rfl) (by kernel_rfl)
  have d8 := fdone_of (hd 5 (by decide)) (t := 8) (V := isOwn w0.heap.size 3 (wear.map intC)) (by kernel_rfl) (by kernel_rfl)
  have d9 := fdone_of (hd 6 (by decide)) (t := 9) (V := isVal (.pointer (some ⟨g, 0, none⟩))) (by kernel_rfl) (by kernel_rfl)
  have e1 : a.tmps.getD 1 undef = .pointer (some ⟨g, 0, none⟩) := (hk.2.2 1 (by kernel_rfl)).trans h1
  have hcw := hc.keep hb hc.1
  have hfw := hf.keep hb hc.1
  have hgw : g < w0.heap.size := hc.1
  have hs10 : 10 < a.tmps.size := by rw [hk.2.1, hsz]; decide
  refine tail_store 26 (.tmp 9) (.tmp 5) ⟨g, 0, none⟩ (a.tmps.getD 5 undef) _ (by kernel_rfl) (by kernel_rfl) d9 rfl (by kernel_rfl) d5.one.1 d5.one.2 hcw.2.1 (hfw 0) ?_
  refine tail_field 31 (.tmp 1) 1 ⟨g, 0, none⟩ ⟨g, 1, none⟩ 10 (by kernel_rfl) (by kernel_rfl) e1 (field_fl g 1 (by omega)) ?_
  refine tail_store 29 (.tmp 10) (.tmp 8) ⟨g, 1, none⟩ (a.tmps.getD 8 undef) _ (by kernel_rfl) (by kernel_rfl) (getD_put_self hs10) (getD_put (by decide)) (by kernel_rfl) d8.one.1 d8.one.2 (hcw.set0 _).2.2.1 (hfw.set _ _ 1) ?_
  refine hQ _ w _ _ ((defers_put (a := a)).trans hk.1) ((size_put (a := a)).trans hk.2.1) (fun t ht => ?_) hb d5 d8
  have hall : (pcopyOps.toList.all fun o => o.dst != some 10) = false := by kernel_rfl
  rw [getD_put (fun e => by rw [e, hall] at ht; cases ht)]
  exact hk.2.2 t ht

set_option maxRecDepth 100000 in
set_option maxHeartbeats 1000000 in
theorem pcopied_any (F : Fl) (v : Value) (w : World) (hv : isFl F v w) (h1 : F.pages.length * 16 ≤ 140737488355328) (h2 : F.wear.length * 8 ≤ 140737488355328) :
    Calls Tryz.prog 43 #[v] w fun e w' => ∃ vp vw, e = .returned (.agg #[vp, vw, .int .i64 F.fuse, strC F.torn, .bool F.dead]) ∧ isOwn w.heap.size 9 (F.pages.map strC) vp w' ∧ isOwn w.heap.size 3 (F.wear.map intC) vw w' ∧ Below w.heap.size w w' := by
  obtain ⟨vp, vw, rfl, hp, hw⟩ := hv
  have HP := Lib.hid hp
  have HW := Lib.hid hw
  clear hp hw
  go_enter Tryz.func43, Tryz.ntmps43
  go_wp2_with fail
  have hb0 : Below w.heap.size w ((w.alloc (.cells #[vp, vw, .int .i64 F.fuse, strC F.torn, .bool F.dead] 31)).alloc (.cells #[.slice none 0 0, .slice none 0 0, .int .i64 0, .string ⟨#[]⟩, .bool false] 31)) := ((Below.refl _ _).alloc (Nat.le_refl _) _).alloc (by simp <;> omega) _
  have hc1 := cells5_new w 31 vp vw (.int .i64 F.fuse) (strC F.torn) (.bool F.dead)
  have hf1 := free5_new w #[vp, vw, .int .i64 F.fuse, strC F.torn, .bool F.dead] 31
  have hc2 := cells5_at (w.alloc (.cells #[vp, vw, .int .i64 F.fuse, strC F.torn, .bool F.dead] 31)) 31 (.slice none 0 0) (.slice none 0 0) (.int .i64 0) (.string ⟨#[]⟩) (.bool false) (w.heap.size + 1) (by simp)
  have hf2 := free5_at (w.alloc (.cells #[vp, vw, .int .i64 F.fuse, strC F.torn, .bool F.dead] 31)) #[.slice none 0 0, .slice none 0 0, .int .i64 0, .string ⟨#[]⟩, .bool false] 31 (w.heap.size + 1) (by simp)
  have hbn := (Below.refl (w.alloc (.cells #[vp, vw, .int .i64 F.fuse, strC F.torn, .bool F.dead] 31)).heap.size (w.alloc (.cells #[vp, vw, .int .i64 F.fuse, strC F.torn, .bool F.dead] 31))).alloc (Nat.le_refl _) (.cells #[.slice none 0 0, .slice none 0 0, .int .i64 0, .string ⟨#[]⟩, .bool false] 31)
  refine pcopied_region _ _ _ rfl w.heap.size F.pages F.wear vp vw (.int .i64 F.fuse) (strC F.torn) (.bool F.dead) rfl (hc1.keep hbn (by simp <;> omega)) (hf1.keep hbn (by simp <;> omega)) (stable_cells _ _ _ _ HP.out hb0) (stable_cells _ _ _ _ HW.out hb0) h1 h2 ?_
  intro act w1 vp' vw' hdf hsz hkeep hb1 ho1 ho2
  have hk1 : act.tmps.getD 1 undef = .pointer (some ⟨w.heap.size, 0, none⟩) := hkeep 1 (by kernel_rfl)
  have hk2 : act.tmps.getD 2 undef = .pointer (some ⟨w.heap.size + 1, 0, none⟩) := hkeep 2 (by kernel_rfl)
  obtain ⟨tm, df⟩ := act
  obtain rfl : df = [] := hdf
  clear hkeep
  obtain ⟨f, rfl, hk1, hk2⟩ : ∃ f : Nat → Value, tm = ((List.range 12).map f).toArray ∧ f 1 = .pointer (some ⟨w.heap.size, 0, none⟩) ∧ f 2 = .pointer (some ⟨w.heap.size + 1, 0, none⟩) := ⟨fun i => tm.getD i undef, arr_eta tm hsz, hk1, hk2⟩
  rw [show ((List.range 12).map f).toArray = #[f 0, f 1, f 2, f 3, f 4, f 5, f 6, f 7, f 8, f 9, f 10, f 11] from rfl]
  rw [hk1, hk2]
  clear hsz hk1 hk2
  have q1 := (((hc1.keep hbn (by simp <;> omega)).keep hb1 (by simp <;> omega)).set0 vp').set1 vw'
  have q2 := (((hc2.keep hb1 (by simp <;> omega)).apart (b := w.heap.size) (o := 0) vp' (by simp <;> omega)).apart (b := w.heap.size) (o := 1) vw' (by simp <;> omega))
  have q3 := ((hf2.keep hb1 (by simp <;> omega)).set ⟨w.heap.size, 0, none⟩ vp').set ⟨w.heap.size, 1, none⟩ vw'
  have hB : Below w.heap.size w ((w1.setCell ⟨w.heap.size, 0, none⟩ vp').setCell ⟨w.heap.size, 1, none⟩ vw') := ((hb0.trans (hb1.mono hb0.size)).setCell (p := ⟨w.heap.size, 0, none⟩) (Nat.le_refl _) vp').setCell (p := ⟨w.heap.size, 1, none⟩) (Nat.le_refl _) vw'
  replace ho1 := (ho1.set (p := ⟨w.heap.size, 0, none⟩) (by simp <;> omega) vp').set (p := ⟨w.heap.size, 1, none⟩) (by simp <;> omega) vw'
  replace ho2 := (ho2.set (p := ⟨w.heap.size, 0, none⟩) (by simp <;> omega) vp').set (p := ⟨w.heap.size, 1, none⟩) (by simp <;> omega) vw'
  obtain ⟨oc1, oo1⟩ := ho1.one
  obtain ⟨oc2, oo2⟩ := ho2.one
  generalize (w1.setCell ⟨w.heap.size, 0, none⟩ vp').setCell ⟨w.heap.size, 1, none⟩ vw' = W at *
  have HO1 := Lib.hid ho1
  have HO2 := Lib.hid ho2
  clear ho1 ho2 hc1 hc2 hf1 hf2 hbn hb1 hb0 HP HW
  have hB5 := below_set5 hB (g := w.heap.size + 1) (by omega) vp' vw' (.int .i64 F.fuse) (strC F.torn) (.bool F.dead)
  obtain ⟨g1, k0, k1, k2, k3, k4⟩ := q1
  obtain ⟨g2, j0, j1, j2, j3, j4⟩ := q2.set5_ vp' vw' (.int .i64 F.fuse) (strC F.torn) (.bool F.dead)
  have HQ2 := Lib.hid q2
  have HQ5 := Lib.hid (q2.set5_ vp' vw' (.int .i64 F.fuse) (strC F.torn) (.bool F.dead))
  have HQ3 := Lib.hid q3
  clear q2 q3
  have HP1 := Lib.hid (show isOwn w.heap.size 9 (F.pages.map strC) vp' (set5 W (w.heap.size + 1) vp' vw' (.int .i64 F.fuse) (strC F.torn) (.bool F.dead)) from (HO1.out.set5_ (by simp <;> omega) _ _ _ _ _).low (by simp <;> omega))
  have HP2 := Lib.hid (show isOwn w.heap.size 3 (F.wear.map intC) vw' (set5 W (w.heap.size + 1) vp' vw' (.int .i64 F.fuse) (strC F.torn) (.bool F.dead)) from (HO2.out.set5_ (by simp <;> omega) _ _ _ _ _).low (by simp <;> omega))
  go_wp2_with (refine wpList_store5 rfl _ _ rfl (w.heap.size + 1) vp' vw' (.int .i64 F.fuse) (strC F.torn) (.bool F.dead) rfl rfl HQ2.out HQ3.out oo1 oo2 rfl rfl rfl ?_)
  exact bodyPost_ret (results1 rfl _ _ (w.heap.size + 1) vp' vw' (.int .i64 F.fuse) (strC F.torn) (.bool F.dead) rfl HQ5.out) rfl ⟨_, _, rfl, HP1.out, HP2.out, hB5⟩
end Go.Proofs.YtipiioggdalkoaaGreatDoor
end
section
namespace Go.Proofs.YtipiioggdalkoaaGreatDoor
open Go.RowKit
set_option linter.unusedVariables false
set_option linter.unusedSimpArgs false

set_option maxRecDepth 20000 in
set_option maxHeartbeats 1000000 in
theorem phas_any (F : Fl) (n : Int) (v : Value) (w : World) (hv : isFl F v w) (h1 : F.pages.length ≤ 1000000) (h2 : F.wear.length ≤ 1000000) :
    Calls Tryz.prog 42 #[v, .int .i64 n] w fun e w' => e = .returned (.bool (hasB F n)) ∧ Below w.heap.size w w' := by
  have HF := Lib.hid hv
  obtain ⟨vp, vw, rfl, hp, hw⟩ := hv
  obtain ⟨a, cap, hva⟩ := hp.len
  rw [List.length_map] at hva
  clear hp hw
  subst hva
  have HM := Lib.hid (show hasB F n = (mayB F && decide (0 ≤ n) && decide (n < F.pages.length)) from rfl)
  unfold strC at HF ⊢
  go_enter Tryz.func42, Tryz.ntmps42
  go_wp2_with fail
  have hb0 : Below w.heap.size w (w.alloc (.cells #[.slice a F.pages.length cap, vw, .int .i64 F.fuse, .string ⟨F.torn.toArray⟩, .bool F.dead] 31)) := (Below.refl _ _).alloc (Nat.le_refl _) _
  refine (check_any F _ _ (stable_fl _ _ _ _ HF.out hb0) (by omega) (by omega)).mono ?_
  rintro e w2 ⟨rfl, hb1⟩
  obtain ⟨hg, k0, k1, k2, k3, k4⟩ := (cells5_new w 31 (.slice a F.pages.length cap) vw (.int .i64 F.fuse) (.string ⟨F.torn.toArray⟩) (.bool F.dead)).keep hb1 (by simp)
  have hB := hb0.trans (hb1.mono hb0.size)
  clear hb1
  cases c1 : mayB F with
  | false =>
    have HE := Lib.hid (show checkE F = 1 by unfold checkE; rw [c1]; rfl)
    rw [HE.out]
    go_wp2
    go_ret
    exact ⟨by rw [HM.out, c1]; rfl, hB⟩
  | true =>
    have HE := Lib.hid (show checkE F = 0 by unfold checkE; rw [c1]; rfl)
    rw [HE.out]
    by_cases c2 : 0 ≤ n
    · have c2' : decide (0 ≤ n) = true := by simpa using c2
      go_wp2
      go_ret
      exact ⟨by rw [HM.out, c1, c2']; rfl, hB⟩
    · have c2' : decide (0 ≤ n) = false := by simpa using c2
      go_wp2
      go_ret
      exact ⟨by rw [HM.out, c1, c2']; rfl, hB⟩
end Go.Proofs.YtipiioggdalkoaaGreatDoor
end
section
namespace Go.Proofs.YtipiioggdalkoaaGreatDoor
open Go.RowKit
set_option linter.unusedVariables false
set_option linter.unusedSimpArgs false

/-- The slot of which an operation's word speaks: what it writes, or the pointer through which it stores. -/
def slotOf (o : Oper) : Option Tmp := match o.dst with
  | some t => some t
  | none => match o.op with
    | .store _ (.tmp s) _ => some s
    | _ => none
def wordOf (o : Oper) (a : Act) : Value := match slotOf o with
  | some t => a.tmps.getD t undef
  | none => undef
/-- A store waits for who wrote its pointer. -/
def linkOk (ops : Array Oper) : Bool := (List.range ops.size).all fun j => (ops[j]?).all fun o => o.dst.isSome || match slotOf o with
  | some s => (List.range ops.size).all fun m => (ops[m]?).all fun om => om.dst != some s || waits ops j m
  | none => true
theorem linkOk_spec {ops : Array Oper} (h : linkOk ops = true) {j m : Nat} {o om : Oper} {s : Tmp} (hj : ops[j]? = some o) (hd : o.dst = none) (hs : slotOf o = some s) (hm : ops[m]? = some om) (hdm : om.dst = some s) : waits ops j m = true := by
  unfold linkOk at h
  rw [List.all_eq_true] at h
  have h1 := h j (by simpa using (Array.getElem?_eq_some_iff.1 hj).1)
  rw [hj] at h1
  simp only [Option.all_some, hd, Option.isSome_none, Bool.false_or, hs, List.all_eq_true] at h1
  have h2 := h1 m (by simpa using (Array.getElem?_eq_some_iff.1 hm).1)
  rw [hm] at h2
  simpa [hdm] using h2

section
variable (R : World → World → Prop) (P : Program) (ops : Array Oper) (base : World) (a0 : Act) (Q : Exit → Act → World → Prop)
def LDone (kn : Nat → VP) (a : Act) (w : World) (j : Nat) : Prop := ∀ o, ops[j]? = some o → kn j (wordOf o a) w
def LDeps (kn : Nat → VP) (i : Nat) (a : Act) (w : World) : Prop := ∀ o, ops[i]? = some o → ∀ e ∈ o.after.toList, Region.binds .any e = true → LDone ops kn a w e.on
def LStep (kn : Nat → VP) (i : Nat) (V : VP) : Prop := StableR R V ∧ ∀ o, ops[i]? = some o → ∀ a w, FKept ops a0 a → R base w → LDeps ops kn i a w →
  wpOp P ops Q i (fun a' w' => ∃ v, a' = a.put o.dst v ∧ V (wordOf o a') w' ∧ R w w') a w
def LFlow : Nat → Nat → (Nat → VP) → Prop
  | 0, _, kn => ∀ a w, FKept ops a0 a → R base w → (∀ j, j < ops.size → LDone ops kn a w j) → Q .normal a w
  | k + 1, i, kn => ∃ V, LStep R P ops base a0 Q kn i V ∧ LFlow k (i + 1) (upd kn i V)
end

section
variable {R : World → World → Prop} {P : Program} {ops : Array Oper} {base : World} {a0 : Act} {Q : Exit → Act → World → Prop}
theorem ldone_congr {kn kn' : Nat → VP} {a : Act} {w : World} {j : Nat} (h : kn j = kn' j) (hd : LDone ops kn a w j) : LDone ops kn' a w j := by
  intro o ho
  rw [← h]
  exact hd o ho
theorem ldone_f {kn : Nat → VP} {a : Act} {w : World} {j : Nat} (h : LDone ops kn a w j) : FDone ops kn a w j := by
  intro o ho t ht
  have := h o ho
  simpa [wordOf, slotOf, ht] using this
/-- An operation that only reads, or makes memory. -/
theorem LStep.of {kn : Nat → VP} {i : Nat} {V : VP} (hR : Pre R) (hok : flowOk ops a0.tmps.size = true) (hst : StableR R V) (hd : ((ops[i]?).bind (·.dst)).isSome = true) (h : ∀ w, R base w → FStep P ops w a0 Q kn i V) : LStep R P ops base a0 Q kn i V := by
  refine ⟨hst, fun o ho a w hk hb hdp => ?_⟩
  refine wpOp_mono ?_ ((h w hb).2 o ho a w hk (Below.refl _ _) (fun o' ho' e he hbd => ldone_f (hdp o' ho' e he hbd)))
  rintro a' w' ⟨v, e, hV, hbw⟩
  refine ⟨v, e, ?_, hR.grow _ _ hbw⟩
  rw [ho] at hd
  cases hdst : o.dst with
  | none => simp [hdst] at hd
  | some t =>
    subst e
    simp only [wordOf, slotOf, hdst]
    rw [getD_put_self (by rw [hk.2.1]; exact (flowOk_spec hok).2.2 i o t ho hdst)]
    exact hV

theorem word_put {hok : flowOk ops a0.tmps.size = true} (hlk : linkOk ops = true) {i j : Nat} {o o' : Oper} {a : Act} {v : Value} (ho : ops[i]? = some o) (ho' : ops[j]? = some o') (hne : j ≠ i) (hw : waits ops j i = false) : wordOf o' (a.put o.dst v) = wordOf o' a := by
  obtain ⟨ok1, ok2, ok3⟩ := flowOk_spec hok
  unfold wordOf
  cases hs : slotOf o' with
  | none => rfl
  | some s =>
    simp only []
    cases hdst : o.dst with
    | none => rfl
    | some t =>
      refine getD_put ?_
      rintro rfl
      cases hd' : o'.dst with
      | some t' =>
        have : t' = s := by simpa [slotOf, hd'] using hs
        subst this
        exact hne (ok2 j i o' o t' ho' ho hd' hdst)
      | none =>
        rw [linkOk_spec hlk ho' hd' hs ho hdst] at hw
        cases hw

theorem wpAny_lay (hR : Pre R) (hok : flowOk ops a0.tmps.size = true) (hlk : linkOk ops = true) {kn : Nat → VP} (hs : ∀ m, m < ops.size → LStep R P ops base a0 Q kn m (kn m)) (he : LFlow R P ops base a0 Q 0 ops.size kn) :
    ∀ (u fuel : Nat) (listed : Array Bool) (a : Act) (w : World), listed.size = ops.size → ((List.range ops.size).filter fun i => !listed.getD i false).length ≤ u → u ≤ fuel → (∀ j, listed.getD j false = true → ∀ m, waits ops j m = true → listed.getD m false = true) →
      FKept ops a0 a → R base w → (∀ j, listed.getD j false = true → LDone ops kn a w j) → wpAny P .any ops Q fuel listed a w := by
  obtain ⟨ok1, ok2, ok3⟩ := flowOk_spec hok
  have fin : ∀ (listed : Array Bool) (a : Act) (w : World) (fuel : Nat), listed.size = ops.size → (∀ j, j < ops.size → listed.getD j false = true) → FKept ops a0 a → R base w → (∀ j, listed.getD j false = true → LDone ops kn a w j) → wpAny P .any ops Q fuel listed a w := by
    intro listed a w fuel hl hall hk hb hd
    have hr : Region.ready .any ops listed = [] := by
      apply List.eq_nil_iff_forall_not_mem.2
      intro j hj
      have := ready_un hl hj
      rw [hall j this.1] at this
      simp at this
    have hq : Q .normal a w := he a w hk hb (fun j hj => hd j (hall j hj))
    cases fuel with
    | zero => exact ⟨hr, hq⟩
    | succ fuel => exact ⟨fun _ => hq, fun j hj => by rw [hr] at hj; cases hj⟩
  intro u
  induction u with
  | zero =>
    intro fuel listed a w hl hu hf hcl hk hb hd
    refine fin listed a w fuel hl (fun j hj => ?_) hk hb hd
    have h0 : ((List.range ops.size).filter fun i => !listed.getD i false) = [] := List.eq_nil_of_length_eq_zero (by omega)
    rw [List.filter_eq_nil_iff] at h0
    have := h0 j (by simpa using hj)
    simpa using this
  | succ u ih =>
    intro fuel listed a w hl hu hf hcl hk hb hd
    by_cases hall : ∀ j, j < ops.size → listed.getD j false = true
    · exact fin listed a w fuel hl hall hk hb hd
    · have hex : ∃ m, m < ops.size ∧ listed.getD m false = false ∧ ∀ j, j < m → listed.getD j false = true := by
        have key : ∀ n, n ≤ ops.size → (∀ j, j < n → listed.getD j false = true) ∨ ∃ m, m < n ∧ listed.getD m false = false ∧ ∀ j, j < m → listed.getD j false = true := by
          intro n
          induction n with
          | zero => intro _; exact .inl (fun j hj => absurd hj (by omega))
          | succ n ihn =>
            intro hn
            rcases ihn (by omega) with h | ⟨m, hm, h1, h2⟩
            · cases hc : listed.getD n false with
              | true => exact .inl (fun j hj => by by_cases e : j = n; exact e ▸ hc; exact h j (by omega))
              | false => exact .inr ⟨n, by omega, hc, h⟩
            · exact .inr ⟨m, by omega, h1, h2⟩
        rcases key ops.size (Nat.le_refl _) with h | h
        · exact absurd h hall
        · exact h
      obtain ⟨m, hm, hmu, hmd⟩ := hex
      have hmem : m ∈ Region.ready .any ops listed := ready_of hok hl (by omega) hmu hmd
      cases fuel with
      | zero => omega
      | succ fuel =>
        refine ⟨fun hr => (by rw [hr] at hmem; cases hmem), fun i hi => ?_⟩
        have hiu := ready_un hl hi
        obtain ⟨o, ho⟩ : ∃ o, ops[i]? = some o := ⟨_, Array.getElem?_eq_getElem hiu.1⟩
        have hstep := (hs i hiu.1).2 o ho a w hk hb (by
          intro o' ho' e he' hbd
          rw [ho] at ho'
          cases ho'
          refine hd e.on (waits_ready hi ?_)
          unfold waits
          rw [ho]
          simp only [Option.any_some, List.any_eq_true, Bool.and_eq_true, beq_iff_eq]
          exact ⟨e, he', rfl, hbd⟩)
        refine wpOp_mono ?_ hstep
        rintro a' w' ⟨v, rfl, hV, hbw⟩
        refine ih fuel (listed.setIfInBounds i true) _ w' (by simpa using hl) ?_ (by omega) ?_ ?_ (hR.trans _ _ _ hb hbw) ?_
        · have hsub : ((List.range ops.size).filter fun j => !(listed.setIfInBounds i true).getD j false).length < ((List.range ops.size).filter fun j => !listed.getD j false).length := by
            have e1 : ((List.range ops.size).filter fun j => !(listed.setIfInBounds i true).getD j false) = ((List.range ops.size).filter fun j => !listed.getD j false).filter (fun j => j != i) := by
              rw [List.filter_filter]
              apply List.filter_congr
              intro j hj
              by_cases e : j = i
              · subst e; rw [getD_set_same (by omega)]; simp
              · rw [getD_set_ne e]; simp [e]
            rw [e1]
            refine List.length_filter_lt_length_iff_exists.2 ⟨i, ?_, by simp⟩
            simp only [List.mem_filter, List.mem_range]
            exact ⟨hiu.1, by rw [hiu.2]; rfl⟩
          omega
        · intro j hj m' hwm
          by_cases e : j = i
          · subst e
            have := waits_ready hi hwm
            by_cases e2 : m' = j
            · subst e2; exact getD_set_same (by omega)
            · rw [getD_set_ne e2]; exact this
          · rw [getD_set_ne e] at hj
            by_cases e2 : m' = i
            · subst e2; exact getD_set_same (by omega)
            · rw [getD_set_ne e2]; exact hcl j hj m' hwm
        · refine ⟨by rw [defers_put]; exact hk.1, by rw [size_put]; exact hk.2.1, fun t ht' => ?_⟩
          cases hdst : o.dst with
          | none => simp only [Act.put]; exact hk.2.2 t ht'
          | some s =>
            have : s ≠ t := by
              rintro rfl
              have := List.all_eq_true.1 ht' o (by rw [Array.mem_toList_iff]; exact Array.mem_of_getElem? ho)
              simp [hdst] at this
            rw [getD_put (fun h => this h.symm)]
            exact hk.2.2 t ht'
        · intro j hj o' ho'
          by_cases e : j = i
          · subst e
            rw [ho] at ho'
            cases ho'
            exact hV
          · rw [getD_set_ne e] at hj
            have hold := hd j hj o' ho'
            have hjk : j < ops.size := (Array.getElem?_eq_some_iff.1 ho').1
            refine (hs j hjk).1 _ _ _ ?_ hbw
            have hwf : waits ops j i = false := by
              cases hc : waits ops j i with
              | false => rfl
              | true => have := hcl j hj i hc; rw [hiu.2] at this; cases this
            rw [word_put (hok := hok) hlk ho ho' e hwf]
            exact hold

theorem lay_family {n : Nat} (hok : flowOk ops n = true) : ∀ k i kn, i + k = ops.size → (∀ m, m < i → LStep R P ops base a0 Q kn m (kn m)) → LFlow R P ops base a0 Q k i kn →
    ∃ kn', (∀ m, m < ops.size → LStep R P ops base a0 Q kn' m (kn' m)) ∧ LFlow R P ops base a0 Q 0 ops.size kn'
  | 0, i, kn, hi, hs, hf => ⟨kn, fun m hm => hs m (by omega), hf⟩
  | k + 1, i, kn, hi, hs, ⟨V, hV, hf⟩ => by
    have agree : ∀ m, m ≠ i → upd kn i V m = kn m := fun m hm => by simp [upd, hm]
    have self : upd kn i V i = V := by simp [upd]
    have shift : ∀ m W, m ≤ i → LStep R P ops base a0 Q kn m W → LStep R P ops base a0 Q (upd kn i V) m W := by
      intro m W hm h
      refine ⟨h.1, fun o ho a w hk hb hd => h.2 o ho a w hk hb ?_⟩
      intro o' ho' e he hbd
      have hlt := (flowOk_spec hok).1 m o' ho' e he hbd
      exact ldone_congr (agree e.on (by omega)) (hd o' ho' e he hbd)
    refine lay_family hok k (i + 1) (upd kn i V) (by omega) (fun m hm => ?_) hf
    by_cases hmi : m = i
    · subst hmi; rw [self]; exact shift m V (Nat.le_refl _) hV
    · rw [agree m hmi]; exact shift m _ (by omega) (hs m (by omega))

/-- THE LAW. -/
theorem wp_region_lay (hR : Pre R) {id : Nat} {a : Act} {w : World} (hm : P.follows .mixedOrders = true) (hok : flowOk ops a.tmps.size = true) (hlk : linkOk ops = true)
    (h : LFlow R P ops w a Q ops.size 0 (fun _ _ _ => False)) : (Code.region id ops true).wp P Q a w := by
  refine wp_region_any hm ?_
  obtain ⟨kn, hs, he⟩ := lay_family hok ops.size 0 _ (by omega) (fun m hm => absurd hm (by omega)) h
  refine wpAny_lay hR hok hlk hs he ops.size ops.size _ a _ (by simp) ?_ (by omega) ?_ ⟨rfl, rfl, fun _ _ => rfl⟩ (hR.drew w) ?_
  · exact Nat.le_trans (List.length_filter_le _ _) (by simp)
  · intro j hj
    simp [Array.getD_eq_getD_getElem?, Array.getElem?_replicate] at hj
    split at hj <;> simp at hj
  · intro j hj
    simp [Array.getD_eq_getD_getElem?, Array.getElem?_replicate] at hj
    split at hj <;> simp at hj
end
theorem ldone_of {ops : Array Oper} {kn : Nat → VP} {a : Act} {w : World} {j : Nat} {t : Tmp} {V : VP} (h : LDone ops kn a w j) (hd : (ops[j]?).bind slotOf = some t) (hV : kn j = V) : V (a.tmps.getD t undef) w := by
  cases ho : ops[j]? with
  | none => rw [ho] at hd; simp at hd
  | some o =>
    rw [ho] at hd
    have := h o ho
    rw [hV] at this
    simp only [Option.bind_some] at hd
    simpa [wordOf, hd] using this

/- New structs of one type (T), from block B on: what is nought may come to hold what is told (L). -/
structure Keeps (T : TypeId) (B : Nat) (w w' : World) : Prop where
  size : w.heap.size ≤ w'.heap.size
  block : ∀ b, b < w.heap.size → (b < B ∨ ∀ cs fr, w.heap[b]? ≠ some (.cells cs T fr)) → w'.heap[b]? = w.heap[b]?
theorem Keeps.refl (T : TypeId) (B : Nat) (w : World) : Keeps T B w w := ⟨Nat.le_refl _, fun _ _ _ => rfl⟩
theorem Keeps.trans {T : TypeId} {B : Nat} {a b c : World} (h1 : Keeps T B a b) (h2 : Keeps T B b c) : Keeps T B a c :=
  ⟨Nat.le_trans h1.size h2.size, fun i hi h => by
    have e := h1.block i hi h
    rw [← e]
    exact h2.block i (Nat.lt_of_lt_of_le hi h1.size) (h.imp id fun h cs fr => by rw [e]; exact h cs fr)⟩
theorem Keeps.of {T : TypeId} {B : Nat} {w w' : World} (h : Below w.heap.size w w') : Keeps T B w w' := ⟨h.size, fun b hb _ => h.block b hb⟩
theorem Keeps.cell {T : TypeId} {B : Nat} {w w' : World} (h : Keeps T B w w') {p : Addr} (hp : p.block < B) (hs : p.block < w.heap.size) : w'.cell? p = w.cell? p := by
  simp only [World.cell?, h.block p.block hs (.inl hp)]

structure Laid (T : TypeId) (B : Nat) (L : Array Value → World → Prop) (w w' : World) : Prop where
  os : w'.os = w.os
  tape : w'.tape = w.tape
  output : w'.output = w.output
  keeps : Keeps T B w w'
  typ : ∀ b cs, B ≤ b → w.heap[b]? = some (.cells cs T (0, 0)) → w'.heap[b]? = some (.cells cs T (0, 0)) ∨ ∃ cs', cs'.size = cs.size ∧ L cs' w' ∧ w'.heap[b]? = some (.cells cs' T (0, 0))
def StabK (T : TypeId) (B : Nat) (L : Array Value → World → Prop) : Prop := ∀ cs w w', L cs w → Keeps T B w w' → L cs w'
theorem laid_pre {T : TypeId} {B : Nat} {L : Array Value → World → Prop} (hL : StabK T B L) : Pre (Laid T B L) where
  refl w := ⟨rfl, rfl, rfl, Keeps.refl _ _ _, fun _ _ _ h => .inl h⟩
  trans a b c h1 h2 := ⟨h2.os.trans h1.os, h2.tape.trans h1.tape, h2.output.trans h1.output, h1.keeps.trans h2.keeps, fun i cs hi he => by
    rcases h1.typ i cs hi he with h | ⟨cs', hz, hl, hc⟩
    · exact h2.typ i cs hi h
    · rcases h2.typ i cs' hi hc with h' | ⟨cs'', hz', hl', hc'⟩
      · exact .inr ⟨cs', hz, hL _ _ _ hl h2.keeps, h'⟩
      · exact .inr ⟨cs'', hz'.trans hz, hl', hc'⟩⟩
  grow w w' h := ⟨h.os, h.tape, h.output, Keeps.of h, fun b cs hb he => .inl ((h.block b (Array.getElem?_eq_some_iff.1 he).1).trans he)⟩
  drew w := ⟨rfl, rfl, rfl, ⟨Nat.le_refl _, fun _ _ _ => rfl⟩, fun _ _ _ h => .inl h⟩
theorem Laid.below {T : TypeId} {B : Nat} {L : Array Value → World → Prop} {w w' : World} (h : Laid T B L w w') (hB : B ≤ w.heap.size) : Below B w w' where
  os := h.os
  tape := h.tape
  output := h.output
  size := h.keeps.size
  block b hb := h.keeps.block b (by omega) (.inl hb)
/-- A new block of n cells; one that holds what is told. -/
def isNewB (T : TypeId) (B n : Nat) : VP := fun v w => ∃ g cs, v = .pointer (some ⟨g, 0, none⟩) ∧ B ≤ g ∧ w.heap[g]? = some (.cells cs T (0, 0)) ∧ cs.size = n
def isLaidB (T : TypeId) (B : Nat) (L : Array Value → World → Prop) : VP := fun v w => ∃ g cs, v = .pointer (some ⟨g, 0, none⟩) ∧ B ≤ g ∧ w.heap[g]? = some (.cells cs T (0, 0)) ∧ L cs w
theorem stab_newB {T : TypeId} {B n : Nat} {L : Array Value → World → Prop} : StableR (Laid T B L) (isNewB T B n) := by
  rintro v w w' ⟨g, cs, rfl, hg, hc, h⟩ hr
  rcases hr.typ g cs hg hc with h' | ⟨cs', hz, hl, hc'⟩
  · exact ⟨g, cs, rfl, hg, h', h⟩
  · exact ⟨g, cs', rfl, hg, hc', hz.trans h⟩
theorem stab_laidB {T : TypeId} {B : Nat} {L : Array Value → World → Prop} (hL : StabK T B L) : StableR (Laid T B L) (isLaidB T B L) := by
  rintro v w w' ⟨g, cs, rfl, hg, hc, h⟩ hr
  rcases hr.typ g cs hg hc with h' | ⟨cs', _, hl, hc'⟩
  · exact ⟨g, cs, rfl, hg, h', hL _ _ _ h hr.keeps⟩
  · exact ⟨g, cs', rfl, hg, hc', hl⟩
section
variable {P : Program} {ops : Array Oper} {base : World} {a0 : Act} {Q : Exit → Act → World → Prop} {kn : Nat → VP} {i : Nat}
/-- A new struct. -/
theorem LStep.alloc {B : Nat} {L : Array Value → World → Prop} (T : TypeId) (cs : List Value) (hB : B ≤ base.heap.size) (hop : (ops[i]?).map (fun o => (o.op, o.guard)) = some (.alloc T, none)) (hok : flowOk ops a0.tmps.size = true) (hds : ((ops[i]?).bind (·.dst)).isSome = true)
    (hL : StabK T B L) (hz : ∀ w, (Instr.alloc T true (.tuple #[])).run P w = .ok (.pointer (some ⟨w.heap.size, 0, none⟩)) (w.alloc (.cells cs.toArray T))) : LStep (Laid T B L) P ops base a0 Q kn i (isNewB T B cs.length) := by
  refine ⟨stab_newB, fun o ho a w hk hb hdp => ?_⟩
  rw [ho] at hop hds
  simp only [Option.map_some, Option.some.injEq, Prod.mk.injEq] at hop
  unfold wpOp
  simp only [ho]
  rw [show Region.wanted o (yielded ops a.tmps) = true by simp [Region.wanted, hop.2]]
  refine .inl ?_
  unfold Oper.wp execOp
  rw [hop.1]
  simp only [Sem.run_bind, hz, Result.andThen_ok, Sem.run_pure, Oper.upon]
  have hbel : Below w.heap.size w (w.alloc (.cells cs.toArray T)) := (Below.refl _ _).alloc (Nat.le_refl _) _
  refine ⟨_, rfl, ?_, (laid_pre hL).grow _ _ hbel⟩
  cases hdst : o.dst with
  | none => rw [Option.bind_some, hdst] at hds; cases hds
  | some t =>
    simp only [wordOf, slotOf, hdst]
    rw [getD_put_self (by rw [hk.2.1]; exact (flowOk_spec hok).2.2 i o t ho hdst)]
    refine ⟨w.heap.size, cs.toArray, rfl, Nat.le_trans hB hb.keeps.size, ?_, by simp⟩
    show (w.heap.push _)[w.heap.size]? = _
    simp
end
end Go.Proofs.YtipiioggdalkoaaGreatDoor
end
section
namespace Go.Proofs.YtipiioggdalkoaaGreatDoor
open Go.RowKit
set_option linter.unusedVariables false
set_option linter.unusedSimpArgs false

abbrev zeroFl : List Value := [.slice none 0 0, .slice none 0 0, .int .i64 0, .string ⟨#[]⟩, .bool false]
theorem alloc_fl (w : World) : (Instr.alloc 31 true (.tuple #[])).run Tryz.prog w = .ok (.pointer (some ⟨w.heap.size, 0, none⟩)) (w.alloc (.cells zeroFl.toArray 31)) := by
  have hz : (Tryz.prog.info? 31).map (·.zero) = some (some (.agg zeroFl.toArray)) := by kernel_rfl
  obtain ⟨ie, hie, hz⟩ := Option.map_eq_some_iff.1 hz
  simp [Instr.alloc, zeroValue, typeInfo, hie, hz, newVar, newRow, newObj, Value.cells]
  rfl
/-- Cells that hold the device G, its rows in blocks from B on. -/
def holdsF (B : Nat) (G : Fl) (cs : Array Value) (w : World) : Prop := ∃ vp vw, cs = #[vp, vw, .int .i64 G.fuse, strC G.torn, .bool G.dead] ∧ isBtw B w.heap.size 9 (G.pages.map strC) vp w ∧ isBtw B w.heap.size 3 (G.wear.map intC) vw w
theorem isBtw.keeps {B lo hi : Nat} {T e : TypeId} {cs : List Value} {v : Value} {w w' : World} (h : isBtw lo hi e cs v w) (hk : Keeps T B w w') (hne : e ≠ T) : isBtw lo hi e cs v w' := by
  rcases h with h | ⟨g, cap, cur, hv, h1, h2, hg, rest⟩
  · exact .inl h
  · refine .inr ⟨g, cap, cur, hv, h1, h2, (hk.block g (Array.getElem?_eq_some_iff.1 hg).1 (.inr ?_)).trans hg, rest⟩
    intro cs fr he
    rw [hg] at he
    injection he with he
    injection he with _ he _
    exact hne he
theorem stab_holdsF (B : Nat) (G : Fl) : StabK 31 B (holdsF B G) := by
  rintro cs w w' ⟨vp, vw, rfl, hp, hq⟩ hk
  exact ⟨vp, vw, rfl, (hp.keeps hk (by decide)).weak (Nat.le_refl _) hk.size, (hq.keeps hk (by decide)).weak (Nat.le_refl _) hk.size⟩
/-- A device among values; a device and a number, as a call tells them. -/
def isFlB (B : Nat) (G : Fl) : VP := fun v w => isFlN B G v w
def isTupB (B : Nat) (G : Fl) (e : Int) : VP := fun v w => ∃ x, v = .tuple #[x, .int .i64 e] ∧ isFlN B G x w
theorem isFlN.keeps {B : Nat} {G : Fl} {v : Value} {w w' : World} (h : isFlN B G v w) (hk : Keeps 31 B w w') : isFlN B G v w' := by
  obtain ⟨vp, vw, rfl, hp, hq⟩ := h
  exact ⟨vp, vw, rfl, (hp.keeps hk (by decide)).weak (Nat.le_refl _) hk.size, (hq.keeps hk (by decide)).weak (Nat.le_refl _) hk.size⟩
theorem stab_flB (B : Nat) (G : Fl) (L : Array Value → World → Prop) : StableR (Laid 31 B L) (isFlB B G) := fun v w w' h hr => isFlN.keeps h hr.keeps
theorem stab_tupB (B : Nat) (G : Fl) (e : Int) (L : Array Value → World → Prop) : StableR (Laid 31 B L) (isTupB B G e) := fun v w w' ⟨x, hx, h⟩ hr => ⟨x, hx, isFlN.keeps h hr.keeps⟩
theorem stable_tupB (B : Nat) (G : Fl) (e : Int) : Stable (isTupB B G e) := fun v w w' ⟨x, hx, h⟩ hb => ⟨x, hx, isFlN.keeps h (Keeps.of hb)⟩
theorem stable_flB (B : Nat) (G : Fl) : Stable (isFlB B G) := fun v w w' h hb => isFlN.keeps h (Keeps.of hb)
theorem set5_block (w : World) (g : Nat) (c0 c1 c2 c3 c4 v0 v1 v2 v3 v4 : Value) (T : TypeId) (h : w.heap[g]? = some (.cells #[c0, c1, c2, c3, c4] T (0, 0))) : (set5 w g v0 v1 v2 v3 v4).heap[g]? = some (.cells #[v0, v1, v2, v3, v4] T (0, 0)) := by
  have h0 := heap_setCell_same w g 0 _ _ v0 h
  have h1 := heap_setCell_same _ g 1 _ _ v1 h0
  have h2 := heap_setCell_same _ g 2 _ _ v2 h1
  have h3 := heap_setCell_same _ g 3 _ _ v3 h2
  have h4 := heap_setCell_same _ g 4 _ _ v4 h3
  unfold set5
  rw [h4]
  rfl
theorem set5_other (w : World) (g b : Nat) (v0 v1 v2 v3 v4 : Value) (h : b ≠ g) : (set5 w g v0 v1 v2 v3 v4).heap[b]? = w.heap[b]? := by
  unfold set5
  rw [Below.heap_setCell _ ⟨g, 4, none⟩ v4 b h, Below.heap_setCell _ ⟨g, 3, none⟩ v3 b h, Below.heap_setCell _ ⟨g, 2, none⟩ v2 b h, Below.heap_setCell _ ⟨g, 1, none⟩ v1 b h, Below.heap_setCell _ ⟨g, 0, none⟩ v0 b h]
theorem size5 {cs : Array Value} (h : cs.size = 5) : ∃ c0 c1 c2 c3 c4, cs = #[c0, c1, c2, c3, c4] := by
  obtain ⟨l⟩ := cs
  match l, h with
  | [a, b, c, d, e], _ => exact ⟨a, b, c, d, e, rfl⟩
theorem cells5_of {w : World} {g : Nat} {c0 c1 c2 c3 c4 : Value} {T : TypeId} (h : w.heap[g]? = some (.cells #[c0, c1, c2, c3, c4] T (0, 0))) : Cells5 w g c0 c1 c2 c3 c4 ∧ Free5 w g := by
  refine ⟨⟨(Array.getElem?_eq_some_iff.1 h).1, ?_, ?_, ?_, ?_, ?_⟩, fun j => ?_⟩
  all_goals first | (simp [World.cell?, h]; done) | simp [World.frozen?, h]
theorem set5_rest (w : World) (g : Nat) (v0 v1 v2 v3 v4 : Value) : (set5 w g v0 v1 v2 v3 v4).os = w.os ∧ (set5 w g v0 v1 v2 v3 v4).tape = w.tape ∧ (set5 w g v0 v1 v2 v3 v4).output = w.output :=
  have h : Below 0 w (set5 w g v0 v1 v2 v3 v4) := below_set5 (Below.refl _ _) (Nat.zero_le _) v0 v1 v2 v3 v4
  ⟨h.os, h.tape, h.output⟩
attribute [local irreducible] set5
section
variable {ops : Array Oper} {base : World} {a0 : Act} {Q : Exit → Act → World → Prop} {kn : Nat → VP} {i : Nat}
theorem LStep.store5 {B : Nat} {G : Fl} (p : Tmp) (y : Operand) (hB : B ≤ base.heap.size) (hop : (ops[i]?).map (fun o => (o.op, o.guard, o.dst)) = some (.store 31 (.tmp p) y, none, none))
    (hx : Knows ops a0 kn i (.tmp p) (isNewB 31 B 5)) (hy : Knows ops a0 kn i y (isFlB B G)) : LStep (Laid 31 B (holdsF B G)) Tryz.prog ops base a0 Q kn i (isLaidB 31 B (holdsF B G)) := by
  refine ⟨stab_laidB (stab_holdsF B G), fun o ho a w hk hb hd => ?_⟩
  rw [ho] at hop
  simp only [Option.map_some, Option.some.injEq, Prod.mk.injEq] at hop
  obtain ⟨hop, hgd, hdst⟩ := hop
  have hfd : FDeps ops kn i a w := fun o' ho' e he hbd => ldone_f (hd o' ho' e he hbd)
  obtain ⟨g, cs, e1, hg, hc, h5⟩ := hx a w hk hfd
  obtain ⟨vp, vw, e2, hp, hq⟩ := hy a w hk hfd
  obtain ⟨c0, c1, c2, c3, c4, rfl⟩ := size5 h5
  obtain ⟨k1, k2⟩ := cells5_of hc
  unfold wpOp
  simp only [ho]
  rw [show Region.wanted o (yielded ops a.tmps) = true by simp [Region.wanted, hgd]]
  refine .inl ?_
  unfold Oper.wp execOp
  rw [hop]
  have hblk := set5_block w g c0 c1 c2 c3 c4 vp vw (.int .i64 G.fuse) (strC G.torn) (.bool G.dead) _ hc
  have hkp : Keeps 31 B w (set5 w g vp vw (.int .i64 G.fuse) (strC G.torn) (.bool G.dead)) := ⟨by rw [size_set5]; exact Nat.le_refl _, fun b hb h => set5_other _ _ _ _ _ _ _ _ (by
    rintro rfl
    rcases h with h | h
    · omega
    · exact h _ _ hc)⟩
  have hold : holdsF B G #[vp, vw, .int .i64 G.fuse, strC G.torn, .bool G.dead] (set5 w g vp vw (.int .i64 G.fuse) (strC G.torn) (.bool G.dead)) := stab_holdsF B G _ _ _ ⟨vp, vw, rfl, hp, hq⟩ hkp
  simp only [e1, e2, Sem.run_bind, Go.Proofs.YtipiioggdalkoaaGreatDoor.store5 g w c0 c1 c2 c3 c4 vp vw (.int .i64 G.fuse) (strC G.torn) (.bool G.dead) k1 k2 hp.one hq.one rfl rfl rfl, Result.andThen_ok, Sem.run_pure, Oper.upon]
  have hr := set5_rest w g vp vw (.int .i64 G.fuse) (strC G.torn) (.bool G.dead)
  refine ⟨undef, rfl, ?_, ⟨hr.1, hr.2.1, hr.2.2, hkp, fun b cs hb' he => ?_⟩⟩
  · have : wordOf o (a.put o.dst undef) = .pointer (some ⟨g, 0, none⟩) := by
      have e1' : a.tmps.getD p undef = .pointer (some ⟨g, 0, none⟩) := e1
      simp only [wordOf, slotOf, hdst, hop, Act.put]
      exact e1'
    rw [this]
    exact ⟨g, _, rfl, hg, hblk, hold⟩
  · by_cases e : b = g
    · subst e
      rw [hc] at he
      injection he with he
      injection he with he _ _
      exact .inr ⟨_, by rw [← he]; rfl, hold, hblk⟩
    · exact .inl ((set5_other _ _ _ _ _ _ _ _ e).trans he)
/-- The same, into a block that was there: it is one of those that may be laid. -/
theorem LStep.store5_old {B : Nat} {G : Fl} (p : Tmp) (g : Nat) (y : Operand) (hB : B ≤ base.heap.size) (hop : (ops[i]?).map (fun o => (o.op, o.guard, o.dst)) = some (.store 31 (.tmp p) y, none, none))
    (hx : Knows ops a0 kn i (.tmp p) (isVal (.pointer (some ⟨g, 0, none⟩)))) (hg : isNewB 31 B 5 (.pointer (some ⟨g, 0, none⟩)) base) (hy : Knows ops a0 kn i y (isFlB B G)) : LStep (Laid 31 B (holdsF B G)) Tryz.prog ops base a0 Q kn i (isLaidB 31 B (holdsF B G)) := by
  refine ⟨stab_laidB (stab_holdsF B G), fun o ho a w hk hb hd => ?_⟩
  have hn : isNewB 31 B 5 (.pointer (some ⟨g, 0, none⟩)) w := stab_newB _ _ _ hg hb
  rw [ho] at hop
  simp only [Option.map_some, Option.some.injEq, Prod.mk.injEq] at hop
  obtain ⟨hop, hgd, hdst⟩ := hop
  have hfd : FDeps ops kn i a w := fun o' ho' e he hbd => ldone_f (hd o' ho' e he hbd)
  have e1 : a.eval (.tmp p) = .pointer (some ⟨g, 0, none⟩) := hx a w hk hfd
  obtain ⟨g', cs, e9, hg, hc, h5⟩ := hn
  injection e9 with e9
  injection e9 with e9
  injection e9 with e9 _ _
  subst e9
  obtain ⟨vp, vw, e2, hp, hq⟩ := hy a w hk hfd
  obtain ⟨c0, c1, c2, c3, c4, rfl⟩ := size5 h5
  obtain ⟨k1, k2⟩ := cells5_of hc
  unfold wpOp
  simp only [ho]
  rw [show Region.wanted o (yielded ops a.tmps) = true by simp [Region.wanted, hgd]]
  refine .inl ?_
  unfold Oper.wp execOp
  rw [hop]
  have hblk := set5_block w g c0 c1 c2 c3 c4 vp vw (.int .i64 G.fuse) (strC G.torn) (.bool G.dead) _ hc
  have hkp : Keeps 31 B w (set5 w g vp vw (.int .i64 G.fuse) (strC G.torn) (.bool G.dead)) := ⟨by rw [size_set5]; exact Nat.le_refl _, fun b hb h => set5_other _ _ _ _ _ _ _ _ (by
    rintro rfl
    rcases h with h | h
    · omega
    · exact h _ _ hc)⟩
  have hold : holdsF B G #[vp, vw, .int .i64 G.fuse, strC G.torn, .bool G.dead] (set5 w g vp vw (.int .i64 G.fuse) (strC G.torn) (.bool G.dead)) := stab_holdsF B G _ _ _ ⟨vp, vw, rfl, hp, hq⟩ hkp
  simp only [e1, e2, Sem.run_bind, Go.Proofs.YtipiioggdalkoaaGreatDoor.store5 g w c0 c1 c2 c3 c4 vp vw (.int .i64 G.fuse) (strC G.torn) (.bool G.dead) k1 k2 hp.one hq.one rfl rfl rfl, Result.andThen_ok, Sem.run_pure, Oper.upon]
  have hr := set5_rest w g vp vw (.int .i64 G.fuse) (strC G.torn) (.bool G.dead)
  refine ⟨undef, rfl, ?_, ⟨hr.1, hr.2.1, hr.2.2, hkp, fun b cs hb' he => ?_⟩⟩
  · have : wordOf o (a.put o.dst undef) = .pointer (some ⟨g, 0, none⟩) := by
      have e1' : a.tmps.getD p undef = .pointer (some ⟨g, 0, none⟩) := e1
      simp only [wordOf, slotOf, hdst, hop, Act.put]
      exact e1'
    rw [this]
    exact ⟨g, _, rfl, hg, hblk, hold⟩
  · by_cases e : b = g
    · subst e
      rw [hc] at he
      injection he with he
      injection he with he _ _
      exact .inr ⟨_, by rw [← he]; rfl, hold, hblk⟩
    · exact .inl ((set5_other _ _ _ _ _ _ _ _ e).trans he)
theorem step_extract0 {P : Program} (B : Nat) (G : Fl) (e : Int) (x : Operand) (hop : (ops[i]?).map (·.op) = some (.extract x 0)) (hw : Wanted ops a0 kn i) (hx : Knows ops a0 kn i x (isTupB B G e)) : FStep P ops base a0 Q kn i (isFlB B G) :=
  step_mk (stable_flB B G) hw fun o ho a w hk hb hd => by
    obtain ⟨v, e1, hv⟩ := hx a w hk hd
    unfold Oper.wp execOp
    rw [op_of hop ho]
    simp only [e1]
    exact ⟨v, rfl, hv, Below.refl _ _⟩
theorem step_extract1 {P : Program} (B : Nat) (G : Fl) (e : Int) (x : Operand) (hop : (ops[i]?).map (·.op) = some (.extract x 1)) (hw : Wanted ops a0 kn i) (hx : Knows ops a0 kn i x (isTupB B G e)) : FStep P ops base a0 Q kn i (isVal (.int .i64 e)) :=
  step_mk (stable_val _) hw fun o ho a w hk hb hd => by
    obtain ⟨v, e1, hv⟩ := hx a w hk hd
    unfold Oper.wp execOp
    rw [op_of hop ho]
    simp only [e1]
    exact ⟨_, rfl, rfl, Below.refl _ _⟩
end
theorem args4 {ops : Array Oper} {a0 : Act} {kn : Nat → VP} {i : Nat} (x y z q : Operand) (v u s r : Value) (hx : Knows ops a0 kn i x (isVal v)) (hy : Knows ops a0 kn i y (isVal u)) (hz : Knows ops a0 kn i z (isVal s)) (hq : Knows ops a0 kn i q (isVal r)) : ∀ a w, FKept ops a0 a → FDeps ops kn i a w → #[x, y, z, q].map a.eval = #[v, u, s, r] := fun a w hk hd => by
  have h1 : a.eval x = v := hx a w hk hd
  have h2 : a.eval y = u := hy a w hk hd
  have h3 : a.eval z = s := hz a w hk hd
  have h4 : a.eval q = r := hq a w hk hd
  simp [h1, h2, h3, h4]
/-- Behind the region: a variable. -/
theorem Laid.var {B : Nat} {G : Fl} {v : Value} {w : World} (h : isLaidB 31 B (holdsF B G) v w) : ∃ g, v = .pointer (some ⟨g, 0, none⟩) ∧ Var w g G := by
  obtain ⟨g, cs, e, hg, hc, vp, vw, rfl, hp, hq⟩ := h
  exact ⟨g, e, vp, vw, (cells5_of hc).1, hp.cells, hq.cells⟩
end Go.Proofs.YtipiioggdalkoaaGreatDoor
end
section
namespace Go.Proofs.YtipiioggdalkoaaGreatDoor
open Go.RowKit
set_option linter.unusedVariables false
set_option linter.unusedSimpArgs false
attribute [local irreducible] set5
/-- What an append tells, and makes. -/
def lenI (l : List UInt8) : Int := (l.length : Int)
def pageOf (F : Fl) (page : Int) : List UInt8 := F.pages.getD page.toNat []
def appOk (F : Fl) (page : Int) (pl : List UInt8) : Bool := hasB F page && decide (szN (lenI pl) ≠ 0)
def appE (F : Fl) (page : Int) (pl : List UInt8) : Int := if appOk F page pl = false then 1 else if nextN (pageOf F page) (lenI pl) = roomN (pageOf F page) (lenI pl) then 4 else progE F page (nextN (pageOf F page) (lenI pl) * szN (lenI pl) : Nat) (recL pl)
def appF (F : Fl) (page : Int) (pl : List UInt8) : Fl := if appOk F page pl = false then F else if nextN (pageOf F page) (lenI pl) = roomN (pageOf F page) (lenI pl) then F else progF F page (nextN (pageOf F page) (lenI pl) * szN (lenI pl) : Nat) (recL pl)
theorem tend_le (p : Nat → Bool) (r : Nat) : tend p (List.range r) ≤ r := by
  induction r with
  | zero => simp [tend]
  | succ r ih =>
    rw [List.range_succ]
    unfold tend at ih ⊢
    rw [List.foldl_append]
    simp only [List.foldl_cons, List.foldl_nil]
    split <;> omega
structure AppI (w W : World) (F : Fl) (vp vw : Value) : Prop where
  below : Below w.heap.size w W
  size : w.heap.size + 2 ≤ W.heap.size
  c3 : Cells5 W w.heap.size vp vw (.int .i64 F.fuse) (strC F.torn) (.bool F.dead)
  b6 : W.heap[w.heap.size + 1]? = some (.cells #[.slice none 0 0, .slice none 0 0, .int .i64 0, .string ⟨#[]⟩, .bool false] 31 (0, 0))
  p : isCells (F.pages.map strC) vp w
  q : isCells (F.wear.map intC) vw w
theorem AppI.grow {w W W' : World} {F : Fl} {vp vw : Value} (h : AppI w W F vp vw) (hb : Below W.heap.size W W') : AppI w W' F vp vw :=
  ⟨h.below.trans (hb.mono h.below.size), Nat.le_trans h.size hb.size, h.c3.keep hb h.c3.1, (hb.block _ (by have := h.size; omega)).trans h.b6, h.p, h.q⟩
theorem AppI.fl {w W : World} {F : Fl} {vp vw : Value} (h : AppI w W F vp vw) : isFl F (.agg #[vp, vw, .int .i64 F.fuse, strC F.torn, .bool F.dead]) W := ⟨vp, vw, rfl, stable_cells _ _ _ _ h.p h.below, stable_cells _ _ _ _ h.q h.below⟩
theorem appI_start (w : World) (F : Fl) (vp vw : Value) (hp : isCells (F.pages.map strC) vp w) (hq : isCells (F.wear.map intC) vw w) : AppI w ((w.alloc (.cells #[vp, vw, .int .i64 F.fuse, strC F.torn, .bool F.dead] 31)).alloc (.cells #[.slice none 0 0, .slice none 0 0, .int .i64 0, .string ⟨#[]⟩, .bool false] 31)) F vp vw := by
  have hb1 : Below (w.alloc (.cells #[vp, vw, .int .i64 F.fuse, strC F.torn, .bool F.dead] 31)).heap.size (w.alloc (.cells #[vp, vw, .int .i64 F.fuse, strC F.torn, .bool F.dead] 31)) ((w.alloc (.cells #[vp, vw, .int .i64 F.fuse, strC F.torn, .bool F.dead] 31)).alloc (.cells #[.slice none 0 0, .slice none 0 0, .int .i64 0, .string ⟨#[]⟩, .bool false] 31)) := (Below.refl _ _).alloc (Nat.le_refl _) _
  refine ⟨((Below.refl _ _).alloc (Nat.le_refl _) _).alloc (by simp) _, by simp, (cells5_new w 31 vp vw _ _ _).keep hb1 (by simp), ?_, hp, hq⟩
  have := World.alloc_heap_new (w.alloc (.cells #[vp, vw, .int .i64 F.fuse, strC F.torn, .bool F.dead] 31)) (.cells #[.slice none 0 0, .slice none 0 0, .int .i64 0, .string ⟨#[]⟩, .bool false] 31)
  rwa [World.size_alloc] at this
/-- The result's variable, in which a copy, or what a callee told, is laid down. -/
theorem AppI.told {w W w1 : World} {F G : Fl} {vp vw vp' vw' : Value} (h : AppI w W F vp vw) (hb1 : Below W.heap.size W w1) (hp : isBtw W.heap.size w1.heap.size 9 (G.pages.map strC) vp' w1) (hq : isBtw W.heap.size w1.heap.size 3 (G.wear.map intC) vw' w1) :
    Kept (Cells5 w1 (w.heap.size + 1) (.slice none 0 0) (.slice none 0 0) (.int .i64 0) (.string ⟨#[]⟩) (.bool false)) ∧ Kept (Free5 w1 (w.heap.size + 1)) ∧ Kept (Cells5 (set5 w1 (w.heap.size + 1) vp' vw' (.int .i64 G.fuse) (strC G.torn) (.bool G.dead)) (w.heap.size + 1) vp' vw' (.int .i64 G.fuse) (strC G.torn) (.bool G.dead)) ∧
      Kept (isFlN w.heap.size G (.agg #[vp', vw', .int .i64 G.fuse, strC G.torn, .bool G.dead]) (set5 w1 (w.heap.size + 1) vp' vw' (.int .i64 G.fuse) (strC G.torn) (.bool G.dead))) ∧ Kept (Below w.heap.size w (set5 w1 (w.heap.size + 1) vp' vw' (.int .i64 G.fuse) (strC G.torn) (.bool G.dead))) :=
  Go.Proofs.YtipiioggdalkoaaGreatDoor.told (g := w.heap.size + 1) (by have := h.size; omega) rfl h.below (by omega) (cells5_of h.b6).1 (cells5_of h.b6).2 hb1 hp hq

theorem mul_nat (a b q : Nat) (h : a * b = q) (hq : q ≤ 1000000000) (w : World) : (binOp .mul 3 (.int .i64 (a : Int)) (.int .i64 (b : Int))).run Tryz.prog w = .ok (.int .i64 (q : Int)) w := by
  have e : (a : Int) * (b : Int) = (q : Int) := by rw [← h]; push_cast; rfl
  have hw : IntKind.i64.wrap (q : Int) = (q : Int) := IntWalk.i64_in _ (by omega)
  simp [binOp, e, hw, go_sem]
noncomputable def app8 : Array Oper := regionOf Tryz.f22 8
set_option maxRecDepth 100000 in
set_option maxHeartbeats 4000000 in
theorem app_region (Q : Exit → Act → World → Prop) (a0 : Act) (w0 : World) (hsz : a0.tmps.size = 53) (B g3 g6 : Nat) (D X : Fl) (vp vw : Value) (page ex : Int) (nx z q : Nat) (pl : List UInt8) (hpl : pl.length ≤ 1024) (hq : nx * z = q) (hqb : q ≤ 1000000000) (hBB : B ≤ w0.heap.size) (hg3 : g3 < B)
    (hnew : isNewB 31 B 5 (.pointer (some ⟨g6, 0, none⟩)) w0)
    (e3 : a0.tmps.getD 3 undef = .pointer (some ⟨g3, 0, none⟩)) (e1 : a0.tmps.getD 1 undef = .int .i64 page) (e10 : a0.tmps.getD 10 undef = .int .i64 (nx : Int)) (e9 : a0.tmps.getD 9 undef = .int .i64 (z : Int)) (e2 : a0.tmps.getD 2 undef = .string ⟨pl.toArray⟩) (e6 : a0.tmps.getD 6 undef = .pointer (some ⟨g6, 0, none⟩))
    (hC : Cells5 w0 g3 vp vw (.int .i64 D.fuse) (strC D.torn) (.bool D.dead))
    (hcall : ∀ w2 : World, Below B w0 w2 → Calls Tryz.prog 44 #[.agg #[vp, vw, .int .i64 D.fuse, strC D.torn, .bool D.dead], .int .i64 page, .int .i64 (q : Int), .string ⟨(recL pl).toArray⟩] w2 fun e w' => ∃ v, e = .returned v ∧ isTupB B X ex v w' ∧ Below w2.heap.size w2 w')
    (hQ : ∀ (a : Act) (w : World), a.defers = a0.defers → a.tmps.getD 6 undef = .pointer (some ⟨g6, 0, none⟩) → a.tmps.getD 7 undef = .int .i64 ex → isLaidB 31 B (holdsF B X) (.pointer (some ⟨g6, 0, none⟩)) w → Below B w0 w → Q .normal a w) :
    (Code.region 8 app8 true).wp Tryz.prog Q a0 w0 := by
  have hok : flowOk app8 a0.tmps.size = true := by rw [hsz]; kernel_rfl
  have hR := laid_pre (stab_holdsF B X)
  have hcb : ∀ w, Laid 31 B (holdsF B X) w0 w → ∀ w2, Below w.heap.size w w2 → Below B w0 w2 := fun w hw w2 hb => (hw.below hBB).trans (hb.mono (Nat.le_trans hBB (hw.below hBB).size))
  refine wp_region_lay hR mixed hok (by kernel_rfl) ?_
  rw [show app8.size = 12 by kernel_rfl]
  refine ⟨isVal (.agg #[vp, vw, .int .i64 D.fuse, strC D.torn, .bool D.dead]), LStep.of hR hok (stabR_val _ _) (by kernel_rfl) (fun w hw => step_load5 (.tmp 3) g3 (by kernel_rfl) (wanted_none (by kernel_rfl)) (knows_old 3 (.pointer (some ⟨g3, 0, none⟩)) (by kernel_rfl) e3) (hC.keep (hw.below hBB) hg3)), ?_⟩
  refine ⟨isVal (.int .i64 page), LStep.of hR hok (stabR_val _ _) (by kernel_rfl) (fun w hw => step_move (.tmp 1) (by kernel_rfl) (wanted_none (by kernel_rfl)) (stable_val _) (knows_old 1 (.int .i64 page) (by kernel_rfl) e1)), ?_⟩
  refine ⟨isVal (.int .i64 (nx : Int)), LStep.of hR hok (stabR_val _ _) (by kernel_rfl) (fun w hw => step_move (.tmp 10) (by kernel_rfl) (wanted_none (by kernel_rfl)) (stable_val _) (knows_old 10 (.int .i64 (nx : Int)) (by kernel_rfl) e10)), ?_⟩
  refine ⟨isVal (.int .i64 (z : Int)), LStep.of hR hok (stabR_val _ _) (by kernel_rfl) (fun w hw => step_move (.tmp 9) (by kernel_rfl) (wanted_none (by kernel_rfl)) (stable_val _) (knows_old 9 (.int .i64 (z : Int)) (by kernel_rfl) e9)), ?_⟩
  refine ⟨isVal (.int .i64 (q : Int)), LStep.of hR hok (stabR_val _ _) (by kernel_rfl) (fun w hw => step_bin .mul 3 3 (.tmp 45) (.tmp 46) (.int .i64 (nx : Int)) (.int .i64 (z : Int)) (.int .i64 (q : Int)) (by kernel_rfl) (wanted_none (by kernel_rfl)) (knows_new (V := isVal (.int .i64 (nx : Int))) 45 2 (by kernel_rfl) (by kernel_rfl) (by kernel_rfl)) (knows_new (V := isVal (.int .i64 (z : Int))) 46 3 (by kernel_rfl) (by kernel_rfl) (by kernel_rfl)) (fun _ => rfl) (fun w => mul_nat nx z q hq hqb w)), ?_⟩
  refine ⟨isVal (.string ⟨pl.toArray⟩), LStep.of hR hok (stabR_val _ _) (by kernel_rfl) (fun w hw => step_move (.tmp 2) (by kernel_rfl) (wanted_none (by kernel_rfl)) (stable_val _) (knows_old 2 (.string ⟨pl.toArray⟩) (by kernel_rfl) e2)), ?_⟩
  refine ⟨isVal (.string ⟨(recL pl).toArray⟩), LStep.of hR hok (stabR_val _ _) (by kernel_rfl) (fun w hw => step_call 32 #[.tmp 48] #[9] #[.string ⟨pl.toArray⟩] (by kernel_rfl) (wanted_none (by kernel_rfl)) (stable_val _) (args1 (.tmp 48) (.string ⟨pl.toArray⟩) (knows_new (V := isVal (.string ⟨pl.toArray⟩)) 48 5 (by kernel_rfl) (by kernel_rfl) (by kernel_rfl))) (enters_of Tryz.func32 (by kernel_rfl) rfl) (by intro w2 hb; exact (make_any pl w2 hpl).mono (by rintro e w' ⟨rfl, hb'⟩; exact ⟨_, rfl, rfl, hb'⟩))), ?_⟩
  refine ⟨isTupB B X (ex), LStep.of hR hok (stab_tupB _ _ _ _) (by kernel_rfl) (fun w hw => step_call 44 #[.tmp 43, .tmp 44, .tmp 47, .tmp 49] #[31, 3, 3, 9] #[.agg #[vp, vw, .int .i64 D.fuse, strC D.torn, .bool D.dead], .int .i64 page, .int .i64 (q : Int), .string ⟨(recL pl).toArray⟩] (by kernel_rfl) (wanted_none (by kernel_rfl)) (stable_tupB _ _ _) (args4 (.tmp 43) (.tmp 44) (.tmp 47) (.tmp 49) (.agg #[vp, vw, .int .i64 D.fuse, strC D.torn, .bool D.dead]) (.int .i64 page) (.int .i64 (q : Int)) (.string ⟨(recL pl).toArray⟩) (knows_new (V := isVal (.agg #[vp, vw, .int .i64 D.fuse, strC D.torn, .bool D.dead])) 43 0 (by kernel_rfl) (by kernel_rfl) (by kernel_rfl)) (knows_new (V := isVal (.int .i64 page)) 44 1 (by kernel_rfl) (by kernel_rfl) (by kernel_rfl)) (knows_new (V := isVal (.int .i64 (q : Int))) 47 4 (by kernel_rfl) (by kernel_rfl) (by kernel_rfl)) (knows_new (V := isVal (.string ⟨(recL pl).toArray⟩)) 49 6 (by kernel_rfl) (by kernel_rfl) (by kernel_rfl))) (enters_of Tryz.func44 (by kernel_rfl) rfl) (by intro w2 hb; exact hcall w2 (hcb w hw w2 hb))), ?_⟩
  refine ⟨isFlB B X, LStep.of hR hok (stab_flB _ _ _) (by kernel_rfl) (fun w hw => step_extract0 B X (ex) (.tmp 50) (by kernel_rfl) (wanted_none (by kernel_rfl)) (knows_new (V := isTupB B X (ex)) 50 7 (by kernel_rfl) (by kernel_rfl) (by kernel_rfl))), ?_⟩
  refine ⟨isVal (.int .i64 (ex)), LStep.of hR hok (stabR_val _ _) (by kernel_rfl) (fun w hw => step_extract1 B X (ex) (.tmp 50) (by kernel_rfl) (wanted_none (by kernel_rfl)) (knows_new (V := isTupB B X (ex)) 50 7 (by kernel_rfl) (by kernel_rfl) (by kernel_rfl))), ?_⟩
  refine ⟨isLaidB 31 B (holdsF B X), LStep.store5_old 6 g6 (.tmp 51) hBB (by kernel_rfl) (knows_old 6 (.pointer (some ⟨g6, 0, none⟩)) (by kernel_rfl) e6) hnew (knows_new (V := isFlB B X) 51 8 (by kernel_rfl) (by kernel_rfl) (by kernel_rfl)), ?_⟩
  refine ⟨isVal (.int .i64 (ex)), LStep.of hR hok (stabR_val _ _) (by kernel_rfl) (fun w hw => step_assign (.tmp 52) (by kernel_rfl) (wanted_none (by kernel_rfl)) (stable_val _) (knows_new (V := isVal (.int .i64 (ex))) 52 9 (by kernel_rfl) (by kernel_rfl) (by kernel_rfl))), ?_⟩
  intro a w hkp hr hd
  have hsz2 : app8.size = 12 := by kernel_rfl
  have h6 : a.tmps.getD 6 undef = .pointer (some ⟨g6, 0, none⟩) := (hkp.2.2 6 (by kernel_rfl)).trans e6
  have hl := ldone_of (hd 10 (by rw [hsz2]; decide)) (t := 6) (V := isLaidB 31 B (holdsF B X)) (by kernel_rfl) (by kernel_rfl)
  rw [h6] at hl
  exact hQ a w hkp.1 h6 (ldone_of (hd 11 (by rw [hsz2]; decide)) (t := 7) (V := isVal (.int .i64 (ex))) (by kernel_rfl) (by kernel_rfl)) hl (hr.below hBB)
set_option maxRecDepth 100000 in
set_option maxHeartbeats 4000000 in
theorem app_no1 (F : Fl) (page : Int) (pl : List UInt8) (v : Value) (w : World) (hv : isFl F v w) (h1 : F.pages.length ≤ 1000000) (h2 : F.wear.length ≤ 1000000) (hh : hasB F page = false) :
    Calls Tryz.prog 22 #[v, .int .i64 page, .string ⟨pl.toArray⟩] w fun e w' => ∃ v', e = .returned (.tuple #[v', .int .i64 1]) ∧ isFlN w.heap.size F v' w' ∧ Below w.heap.size w w' := by
  have HH := Kept.mk hh
  clear hh
  have hsz : (⟨pl.toArray⟩ : ByteArray).size = pl.length := size_mk pl
  obtain ⟨vp, vw, rfl, hp, hq⟩ := hv
  have T := Kept.mk (appI_start w F vp vw hp hq)
  have HZ := Kept.mk (szN_eq (lenI pl))
  clear hp hq
  unfold lenI at *
  go_enter Tryz.func22, Tryz.ntmps22
  go_wp2_with fail
  ((with_reducible refine (size_any (pl.length : Int) _).mono ?_); rintro e w9 ⟨rfl, rfl⟩)
  rewrite [HZ.out]
  generalize szN (pl.length : Int) = z at *
  generalize ((w.alloc (.cells #[vp, vw, .int .i64 F.fuse, strC F.torn, .bool F.dead] 31)).alloc (.cells #[.slice none 0 0, .slice none 0 0, .int .i64 0, .string ⟨#[]⟩, .bool false] 31)) = W at *
  obtain ⟨_, k0, k1, k2, k3, k4⟩ := T.out.c3
  have flf := Kept.mk T.out.fl
  go_wp2_with fail
  ((with_reducible refine (phas_any F page _ _ flf.out h1 h2).mono ?_); rintro e W2 ⟨rfl, hb⟩)
  replace T := Kept.mk (T.out.grow hb)
  clear hb flf k0 k1 k2 k3 k4
  rewrite [HH.out]
  obtain ⟨_, k0, k1, k2, k3, k4⟩ := T.out.c3
  have flf := Kept.mk T.out.fl
  go_wp2_with fail
  ((with_reducible refine (pcopied_any F _ _ flf.out (by omega) (by omega)).mono ?_); rintro e w3 ⟨vp', vw', rfl, ho1, ho2, hb1⟩)
  have oo1 := (ho1.one).2
  have oo2 := (ho2.one).2
  obtain ⟨K1, K2, K3, K4, K5⟩ := T.out.told hb1 (isBtw_own ho1) (isBtw_own ho2)
  clear ho1 ho2 hb1 flf k0 k1 k2 k3 k4
  go_wp2_with (refine wpList_store5 rfl (.tmp 6) (.tmp 24) rfl (w.heap.size + 1) vp' vw' (.int .i64 F.fuse) (strC F.torn) (.bool F.dead) rfl rfl K1.out K2.out oo1 oo2 rfl rfl rfl ?_)
  exact bodyPost_ret (results2 rfl _ _ (w.heap.size + 1) _ _ _ _ _ (.int .i64 1) rfl rfl K3.out) rfl ⟨_, rfl, K4.out, K5.out⟩
set_option maxRecDepth 100000 in
set_option maxHeartbeats 4000000 in
theorem app_no2 (F : Fl) (page : Int) (pl : List UInt8) (v : Value) (w : World) (hv : isFl F v w) (h1 : F.pages.length ≤ 1000000) (h2 : F.wear.length ≤ 1000000) (hh : hasB F page = true) (hz : szN (lenI pl) = 0) :
    Calls Tryz.prog 22 #[v, .int .i64 page, .string ⟨pl.toArray⟩] w fun e w' => ∃ v', e = .returned (.tuple #[v', .int .i64 1]) ∧ isFlN w.heap.size F v' w' ∧ Below w.heap.size w w' := by
  have HH := Kept.mk hh
  have HZ0 := Kept.mk hz
  clear hh hz
  have hsz : (⟨pl.toArray⟩ : ByteArray).size = pl.length := size_mk pl
  obtain ⟨vp, vw, rfl, hp, hq⟩ := hv
  have T := Kept.mk (appI_start w F vp vw hp hq)
  have HZ := Kept.mk (szN_eq (lenI pl))
  clear hp hq
  unfold lenI at *
  go_enter Tryz.func22, Tryz.ntmps22
  go_wp2_with fail
  ((with_reducible refine (size_any (pl.length : Int) _).mono ?_); rintro e w9 ⟨rfl, rfl⟩)
  rewrite [HZ.out]
  generalize szN (pl.length : Int) = z at *
  generalize ((w.alloc (.cells #[vp, vw, .int .i64 F.fuse, strC F.torn, .bool F.dead] 31)).alloc (.cells #[.slice none 0 0, .slice none 0 0, .int .i64 0, .string ⟨#[]⟩, .bool false] 31)) = W at *
  obtain ⟨_, k0, k1, k2, k3, k4⟩ := T.out.c3
  have flf := Kept.mk T.out.fl
  go_wp2_with fail
  ((with_reducible refine (phas_any F page _ _ flf.out h1 h2).mono ?_); rintro e W2 ⟨rfl, hb⟩)
  replace T := Kept.mk (T.out.grow hb)
  clear hb flf k0 k1 k2 k3 k4
  rewrite [HH.out]
  have z0 : ((z : Int) == 0) = true := by rw [HZ0.out]; rfl
  obtain ⟨_, k0, k1, k2, k3, k4⟩ := T.out.c3
  have flf := Kept.mk T.out.fl
  go_wp2_with fail
  ((with_reducible refine (pcopied_any F _ _ flf.out (by omega) (by omega)).mono ?_); rintro e w3 ⟨vp', vw', rfl, ho1, ho2, hb1⟩)
  have oo1 := (ho1.one).2
  have oo2 := (ho2.one).2
  obtain ⟨K1, K2, K3, K4, K5⟩ := T.out.told hb1 (isBtw_own ho1) (isBtw_own ho2)
  clear ho1 ho2 hb1 flf k0 k1 k2 k3 k4
  go_wp2_with (refine wpList_store5 rfl (.tmp 6) (.tmp 24) rfl (w.heap.size + 1) vp' vw' (.int .i64 F.fuse) (strC F.torn) (.bool F.dead) rfl rfl K1.out K2.out oo1 oo2 rfl rfl rfl ?_)
  exact bodyPost_ret (results2 rfl _ _ (w.heap.size + 1) _ _ _ _ _ (.int .i64 1) rfl rfl K3.out) rfl ⟨_, rfl, K4.out, K5.out⟩
set_option maxRecDepth 100000 in
set_option maxHeartbeats 4000000 in
theorem app_full (F : Fl) (k : Nat) (pl : List UInt8) (v : Value) (w : World) (hv : isFl F v w) (h1 : F.pages.length ≤ 1000000) (h2 : F.wear.length ≤ 1000000) (p : List UInt8) (hh : hasB F (k : Int) = true) (hp_ : F.pages[k]? = some p) (hpl8 : p.length ≤ 8192) (hpl : pl.length ≤ 1000) (hz : szN (lenI pl) ≠ 0) (hfull : nextN p (lenI pl) = roomN p (lenI pl)) :
    Calls Tryz.prog 22 #[v, .int .i64 (k : Int), .string ⟨pl.toArray⟩] w fun e w' => ∃ v', e = .returned (.tuple #[v', .int .i64 4]) ∧ isFlN w.heap.size F v' w' ∧ Below w.heap.size w w' := by
  have HH := Kept.mk hh
  have HP := Kept.mk hp_
  have hk : k < F.pages.length := by have := (List.getElem?_eq_some_iff.1 hp_).1; exact this
  have HNX := Kept.mk (fun W : World => next_any p (pl.length : Int) W (by omega) (.inl (by unfold szN sizeN; split <;> omega)))
  have hzp : 0 < szN (lenI pl) := by omega
  have HNR := Kept.mk hfull
  clear hh hp_ hz hfull
  have hsz : (⟨pl.toArray⟩ : ByteArray).size = pl.length := size_mk pl
  obtain ⟨vp, vw, rfl, hp, hq⟩ := hv
  have T := Kept.mk (appI_start w F vp vw hp hq)
  have HZ := Kept.mk (szN_eq (lenI pl))
  clear hp hq
  unfold lenI at *
  go_enter Tryz.func22, Tryz.ntmps22
  go_wp2_with fail
  ((with_reducible refine (size_any (pl.length : Int) _).mono ?_); rintro e w9 ⟨rfl, rfl⟩)
  rewrite [HZ.out]
  generalize szN (pl.length : Int) = z at *
  generalize ((w.alloc (.cells #[vp, vw, .int .i64 F.fuse, strC F.torn, .bool F.dead] 31)).alloc (.cells #[.slice none 0 0, .slice none 0 0, .int .i64 0, .string ⟨#[]⟩, .bool false] 31)) = W at *
  obtain ⟨_, k0, k1, k2, k3, k4⟩ := T.out.c3
  have flf := Kept.mk T.out.fl
  go_wp2_with fail
  ((with_reducible refine (phas_any F (k : Int) _ _ flf.out h1 h2).mono ?_); rintro e W2 ⟨rfl, hb⟩)
  replace T := Kept.mk (T.out.grow hb)
  clear hb flf k0 k1 k2 k3 k4
  rewrite [HH.out]
  have z0 : ((z : Int) == 0) = false := by simp; omega
  obtain ⟨b, off, cap, hvp, lb, hcp⟩ := T.out.p.some_ (by rw [List.length_map]; omega)
  rw [List.length_map] at hvp
  subst hvp
  have HC := Kept.mk (show w.cell? ⟨b, off + k, none⟩ = some (.string ⟨p.toArray⟩) from hcp k _ (by rw [List.getElem?_map, HP.out]; rfl))
  clear hcp
  obtain ⟨_, k0, k1, k2, k3, k4⟩ := T.out.c3
  have kp := (T.out.below.cell (p := ⟨b, off + k, none⟩) lb).trans HC.out
  go_wp2_with fail
  ((with_reducible refine (HNX.out _).mono ?_); rintro e W3 ⟨rfl, hb⟩)
  replace T := Kept.mk (T.out.grow hb)
  clear hb k0 k1 k2 k3 k4 kp
  obtain ⟨_, k0, k1, k2, k3, k4⟩ := T.out.c3
  have kp := (T.out.below.cell (p := ⟨b, off + k, none⟩) lb).trans HC.out
  generalize nextN p (pl.length : Int) = nx at *
  go_wp2_with fail
  ((with_reducible refine (room_any p (pl.length : Int) _ (by omega)).mono ?_); rintro e w8 ⟨rfl, rfl⟩)
  generalize roomN p (pl.length : Int) = rm at *
  clear kp k0 k1 k2 k3 k4
  have e0 : ((nx : Int) == (rm : Int)) = true := by rw [HNR.out]; simp
  obtain ⟨_, k0, k1, k2, k3, k4⟩ := T.out.c3
  have flf := Kept.mk T.out.fl
  go_wp2_with fail
  ((with_reducible refine (pcopied_any F _ _ flf.out (by omega) (by omega)).mono ?_); rintro e w3 ⟨vp', vw', rfl, ho1, ho2, hb1⟩)
  have oo1 := (ho1.one).2
  have oo2 := (ho2.one).2
  obtain ⟨K1, K2, K3, K4, K5⟩ := T.out.told hb1 (isBtw_own ho1) (isBtw_own ho2)
  clear ho1 ho2 hb1 flf k0 k1 k2 k3 k4
  go_wp2_with (refine wpList_store5 rfl (.tmp 6) (.tmp 42) rfl (w.heap.size + 1) vp' vw' (.int .i64 F.fuse) (strC F.torn) (.bool F.dead) rfl rfl K1.out K2.out oo1 oo2 rfl rfl rfl ?_)
  exact bodyPost_ret (results2 rfl _ _ (w.heap.size + 1) _ _ _ _ _ (.int .i64 4) rfl rfl K3.out) rfl ⟨_, rfl, K4.out, K5.out⟩
set_option maxRecDepth 100000 in
set_option maxHeartbeats 4000000 in
theorem app_yes (F : Fl) (k : Nat) (pl : List UInt8) (v : Value) (w : World) (hv : isFl F v w) (h1 : F.pages.length ≤ 1000000) (h2 : F.wear.length ≤ 1000000) (p : List UInt8) (hh : hasB F (k : Int) = true) (hp_ : F.pages[k]? = some p) (hpl8 : p.length ≤ 8192) (hpl : pl.length ≤ 1000) (hz : szN (lenI pl) ≠ 0) (hfz : F.fuse ≤ 9223372036854775807) (hfull : nextN p (lenI pl) ≠ roomN p (lenI pl)) (q : Nat) (hq : nextN p (lenI pl) * szN (lenI pl) = q) (hqb : q ≤ 1000000000) :
    Calls Tryz.prog 22 #[v, .int .i64 (k : Int), .string ⟨pl.toArray⟩] w fun e w' => ∃ v', e = .returned (.tuple #[v', .int .i64 (progE F k q (recL pl))]) ∧ isFlN w.heap.size (progF F k q (recL pl)) v' w' ∧ Below w.heap.size w w' := by
  have HH := Kept.mk hh
  have HP := Kept.mk hp_
  have hk : k < F.pages.length := by have := (List.getElem?_eq_some_iff.1 hp_).1; exact this
  have HNX := Kept.mk (fun W : World => next_any p (pl.length : Int) W (by omega) (.inl (by unfold szN sizeN; split <;> omega)))
  have hzp : 0 < szN (lenI pl) := by omega
  have HNR := Kept.mk hfull
  have HQ := Kept.mk hq
  obtain ⟨X, hX⟩ : ∃ X, X = progF F k q (recL pl) := ⟨_, rfl⟩
  obtain ⟨E, hE⟩ : ∃ E, E = progE F k q (recL pl) := ⟨_, rfl⟩
  rw [← hX, ← hE]
  have HPR := Kept.mk (show ∀ (v : Value) (w : World), isFl F v w → Calls Tryz.prog 44 #[v, .int .i64 (k : Int), .int .i64 (q : Int), .string ⟨(recL pl).toArray⟩] w fun e w' => ∃ v', e = .returned (.tuple #[v', .int .i64 E]) ∧ isFlN w.heap.size X v' w' ∧ Below w.heap.size w w' from by
    intro v w hv
    have h := program_any F k q (recL pl) v w hv (by rw [length_recL]; omega) h1 h2 hfz
    rwa [← hX, ← hE] at h)
  clear hh hp_ hz hfull hq hX hE hfz
  have hsz : (⟨pl.toArray⟩ : ByteArray).size = pl.length := size_mk pl
  obtain ⟨vp, vw, rfl, hp, hq⟩ := hv
  have T := Kept.mk (appI_start w F vp vw hp hq)
  have HZ := Kept.mk (szN_eq (lenI pl))
  clear hp hq
  unfold lenI at *
  go_enter Tryz.func22, Tryz.ntmps22
  go_wp2_with fail
  ((with_reducible refine (size_any (pl.length : Int) _).mono ?_); rintro e w9 ⟨rfl, rfl⟩)
  rewrite [HZ.out]
  generalize szN (pl.length : Int) = z at *
  generalize ((w.alloc (.cells #[vp, vw, .int .i64 F.fuse, strC F.torn, .bool F.dead] 31)).alloc (.cells #[.slice none 0 0, .slice none 0 0, .int .i64 0, .string ⟨#[]⟩, .bool false] 31)) = W at *
  obtain ⟨_, k0, k1, k2, k3, k4⟩ := T.out.c3
  have flf := Kept.mk T.out.fl
  go_wp2_with fail
  ((with_reducible refine (phas_any F (k : Int) _ _ flf.out h1 h2).mono ?_); rintro e W2 ⟨rfl, hb⟩)
  replace T := Kept.mk (T.out.grow hb)
  clear hb flf k0 k1 k2 k3 k4
  rewrite [HH.out]
  have z0 : ((z : Int) == 0) = false := by simp; omega
  obtain ⟨b, off, cap, hvp, lb, hcp⟩ := T.out.p.some_ (by rw [List.length_map]; omega)
  rw [List.length_map] at hvp
  subst hvp
  have HC := Kept.mk (show w.cell? ⟨b, off + k, none⟩ = some (.string ⟨p.toArray⟩) from hcp k _ (by rw [List.getElem?_map, HP.out]; rfl))
  clear hcp
  obtain ⟨_, k0, k1, k2, k3, k4⟩ := T.out.c3
  have kp := (T.out.below.cell (p := ⟨b, off + k, none⟩) lb).trans HC.out
  go_wp2_with fail
  ((with_reducible refine (HNX.out _).mono ?_); rintro e W3 ⟨rfl, hb⟩)
  replace T := Kept.mk (T.out.grow hb)
  clear hb k0 k1 k2 k3 k4 kp
  obtain ⟨_, k0, k1, k2, k3, k4⟩ := T.out.c3
  have kp := (T.out.below.cell (p := ⟨b, off + k, none⟩) lb).trans HC.out
  generalize nextN p (pl.length : Int) = nx at *
  go_wp2_with fail
  ((with_reducible refine (room_any p (pl.length : Int) _ (by omega)).mono ?_); rintro e w8 ⟨rfl, rfl⟩)
  generalize roomN p (pl.length : Int) = rm at *
  clear kp k0 k1 k2 k3 k4
  have e0 : ((nx : Int) == (rm : Int)) = false := by
    have := HNR.out
    simp
    omega
  go_wp2_with fail
  refine app_region _ _ _ rfl (w.heap.size + 1) w.heap.size (w.heap.size + 1) F X (.slice (some ⟨b, off, none⟩) F.pages.length cap) vw (k : Int) E nx z q pl (by omega) HQ.out hqb (by have := T.out.size; omega) (by omega) ⟨_, _, rfl, Nat.le_refl _, T.out.b6, rfl⟩ rfl rfl rfl rfl rfl rfl T.out.c3 (fun w2 hb2 => (HPR.out _ w2 ⟨_, vw, rfl, stable_cells _ _ _ _ T.out.p (T.out.below.trans (hb2.mono (by omega))), stable_cells _ _ _ _ T.out.q (T.out.below.trans (hb2.mono (by omega)))⟩).mono (by rintro e w' ⟨v', rfl, hf, hb'⟩; exact ⟨_, rfl, ⟨v', rfl, hf.low (by have := hb2.size; have := T.out.size; omega)⟩, hb'⟩)) ?_
  intro a W8 hd h6 h7 hl hb8
  obtain ⟨g, cs, eg, hg, hc, vp', vw', rfl, hp', hq'⟩ := hl
  injection eg with eg
  injection eg with eg
  injection eg with eg _ _
  subst eg
  have hB := T.out.below.trans (hb8.mono (by omega))
  go_wp2
  exact bodyPost_ret (results2 rfl a.tmps _ (w.heap.size + 1) vp' vw' _ _ _ (.int .i64 E) h6 h7 (cells5_of hc).1) hd ⟨_, rfl, ⟨vp', vw', rfl, hp'.weak (by omega) (Nat.le_refl _), hq'.weak (by omega) (Nat.le_refl _)⟩, hB⟩

theorem append_any (F : Fl) (page : Int) (pl : List UInt8) (v : Value) (w : World) (hv : isFl F v w) (h1 : F.pages.length ≤ 1000000) (h2 : F.wear.length ≤ 1000000) (hfz : F.fuse ≤ 9223372036854775807) (hpl : pl.length ≤ 1000 ∨ 4000 < pl.length) :
    Calls Tryz.prog 22 #[v, .int .i64 page, .string ⟨pl.toArray⟩] w fun e w' => ∃ v', e = .returned (.tuple #[v', .int .i64 (appE F page pl)]) ∧ isFlN w.heap.size (appF F page pl) v' w' ∧ Below w.heap.size w w' := by
  cases hh : hasB F page with
  | false =>
    rw [show appE F page pl = 1 by simp [appE, appOk, hh], show appF F page pl = F by simp [appF, appOk, hh]]
    exact app_no1 F page pl v w hv h1 h2 hh
  | true =>
    by_cases hz : szN (lenI pl) = 0
    · rw [show appE F page pl = 1 by simp [appE, appOk, hz], show appF F page pl = F by simp [appF, appOk, hz]]
      exact app_no2 F page pl v w hv h1 h2 hh hz
    · obtain ⟨k, rfl⟩ := has_nat hh
      have hf := has_facts F k hh
      have hp : F.pages[k]? = some F.pages[k] := List.getElem?_eq_getElem hf.1
      have hpo : pageOf F (k : Int) = F.pages[k] := by simp [pageOf, List.getD_eq_getElem?_getD, hf.1]
      have hl8 := (hf.2.2.2.2.1 F.pages[k] (List.getElem_mem hf.1)).2.1
      have hpl' : pl.length ≤ 1000 := by
        rcases hpl with h | h
        · exact h
        · exfalso; apply hz; unfold szN sizeN lenI; rw [if_pos (by omega)]; rfl
      have hok : appOk F (k : Int) pl = true := by simp [appOk, hh, hz]
      unfold appE appF
      rw [hok, hpo]
      simp only [Bool.true_eq_false, if_false]
      by_cases hfull : nextN F.pages[k] (lenI pl) = roomN F.pages[k] (lenI pl)
      · rw [if_pos hfull, if_pos hfull]
        exact app_full F k pl v w hv h1 h2 _ hh hp hl8 hpl' hz hfull
      · rw [if_neg hfull, if_neg hfull]
        exact app_yes F k pl v w hv h1 h2 _ hh hp hl8 hpl' hz hfz hfull _ rfl (by
          have h1 : nextN F.pages[k] (lenI pl) ≤ roomN F.pages[k] (lenI pl) := tend_le _ _
          have h2 := roomN_le F.pages[k] (lenI pl)
          have h3 := Nat.mul_le_mul_right (szN (lenI pl)) h1
          omega)
end Go.Proofs.YtipiioggdalkoaaGreatDoor
end
section
namespace Go.Proofs.YtipiioggdalkoaaGreatDoor
open Go.RowKit
set_option linter.unusedVariables false

theorem setAll_size (g : Nat → Value) : ∀ (L : List Nat) (t : Array Value), (L.foldl (fun t s => t.setIfInBounds s (g s)) t).size = t.size
  | [], t => rfl
  | s :: L, t => by rw [List.foldl_cons, setAll_size g L]; simp
theorem setAll_get (g : Nat → Value) : ∀ (L : List Nat) (t : Array Value) (i : Nat), i < t.size → (L.foldl (fun t s => t.setIfInBounds s (g s)) t)[i]? = if L.contains i then some (g i) else t[i]?
  | [], t, i, hi => by simp
  | s :: L, t, i, hi => by
    rw [List.foldl_cons, setAll_get g L _ i (by simpa using hi), List.contains_cons]
    by_cases h : L.contains i = true
    · rw [h, Bool.or_true]; simp only [if_true]
    · simp only [h, Bool.false_eq_true, if_false, Bool.or_false]
      by_cases e : i = s
      · subst e; simp [hi]
      · simp [Ne.symm e, e]
theorem act_of {a a0 : Act} (hd : a.defers = a0.defers) (hs : a.tmps.size = a0.tmps.size) (L : List Nat) (hk : ∀ t, L.contains t = false → a.tmps.getD t undef = a0.tmps.getD t undef) :
    a = { tmps := L.foldl (fun t s => t.setIfInBounds s (a.tmps.getD s undef)) a0.tmps, defers := a0.defers } := by
  obtain ⟨tm, df⟩ := a
  simp only at hd hs hk ⊢
  subst hd
  congr 1
  apply Array.ext_getElem?
  intro i
  by_cases hi : i < a0.tmps.size
  · rw [setAll_get _ _ _ _ hi]
    by_cases h : L.contains i = true
    · rw [if_pos h]; simp [show i < tm.size by omega]
    · rw [if_neg h]
      have := hk i (by simpa using h)
      simpa [Array.getD_eq_getD_getElem?, show i < tm.size by omega, hi] using this
  · rw [Array.getElem?_eq_none (by omega), Array.getElem?_eq_none (by rw [setAll_size]; omega)]
theorem kept_of {ops : Array Oper} {a0 a : Act} (h : FKept ops a0 a) (D : List (Option Nat)) (L : List Nat) (hD : ops.toList.map (·.dst) = D) (hL : D.filterMap id = L) :
    a = { tmps := L.foldl (fun t s => t.setIfInBounds s (a.tmps.getD s undef)) a0.tmps, defers := a0.defers } := by
  refine act_of h.1 h.2.1 L (fun t ht => h.2.2 t ?_)
  rw [List.all_eq_true]
  intro o ho
  have hm : o.dst ∈ D := by rw [← hD]; exact List.mem_map.2 ⟨o, ho, rfl⟩
  cases hdst : o.dst with
  | none => rfl
  | some s =>
    rw [hdst] at hm
    have : s ∈ L := by rw [← hL]; exact List.mem_filterMap.2 ⟨some s, hm, rfl⟩
    simp only [bne_iff_ne, ne_eq, Option.some.injEq]
    rintro rfl
    rw [List.contains_eq_mem] at ht
    simp [this] at ht
end Go.Proofs.YtipiioggdalkoaaGreatDoor
end
section
namespace Go.Proofs.YtipiioggdalkoaaGreatDoor
open Go.RowKit
set_option linter.unusedVariables false
set_option linter.unusedSimpArgs false

noncomputable def refIntsops : Array Oper := regionOf Tryz.f48 6
set_option maxRecDepth 100000 in
theorem refInts_region (Q : Exit → Act → World → Prop) (a0 : Act) (w0 : World) (hsz : a0.tmps.size = 26) (b1 o1 c1 b2 o2 c2 n j : Nat) (x y : Int) (z : Bool)
    (e0 : a0.tmps.getD 0 undef = .slice (some ⟨b1, o1, none⟩) n c1) (e1 : a0.tmps.getD 1 undef = .slice (some ⟨b2, o2, none⟩) n c2) (e5 : a0.tmps.getD 5 undef = .int .i64 (j : Int)) (hj : j < n)
    (p1 : w0.cell? ⟨b1, o1 + j, none⟩ = some (.int .i64 x)) (l1 : b1 < w0.heap.size) (p2 : w0.cell? ⟨b2, o2 + j, none⟩ = some (.int .i64 y)) (l2 : b2 < w0.heap.size) (hz : (x != y) = z)
    (hQ : ∀ (f : Nat → Value) (w : World), f 25 = .bool z → Below w0.heap.size w0 w → Q .normal { tmps := [17, 18, 19, 20, 21, 22, 23, 24, 25].foldl (fun t s => t.setIfInBounds s (f s)) a0.tmps, defers := a0.defers } w) :
    (Code.region 6 refIntsops true).wp Tryz.prog Q a0 w0 := by
  refine wp_region_flow mixed (by rw [hsz]; kernel_rfl) ?_
  rw [show refIntsops.size = 9 by kernel_rfl]
  refine ⟨isVal (.slice (some ⟨b1, o1, none⟩) n c1), step_move (.tmp 0) (by kernel_rfl) (wanted_none (by kernel_rfl)) (stable_val _) (knows_old 0 (.slice (some ⟨b1, o1, none⟩) n c1) (by kernel_rfl) e0), ?_⟩
  refine ⟨isVal (.int .i64 (j : Int)), step_move (.tmp 5) (by kernel_rfl) (wanted_none (by kernel_rfl)) (stable_val _) (knows_old 5 (.int .i64 (j : Int)) (by kernel_rfl) e5), ?_⟩
  refine ⟨isVal (.pointer (some ⟨b1, o1 + j, none⟩)), step_place 29 3 (.tmp 17) (.tmp 18) b1 o1 n c1 j (by kernel_rfl) (wanted_none (by kernel_rfl)) (knows_new (V := isVal (.slice (some ⟨b1, o1, none⟩) n c1)) 17 0 (by kernel_rfl) (by kernel_rfl) (by kernel_rfl)) (knows_new (V := isVal (.int .i64 (j : Int))) 18 1 (by kernel_rfl) (by kernel_rfl) (by kernel_rfl)) Tryz.underlying29 (by kernel_rfl) hj, ?_⟩
  refine ⟨isVal (.int .i64 x), step_read 3 (.tmp 19) ⟨b1, o1 + j, none⟩ (.int .i64 x) (by kernel_rfl) (wanted_none (by kernel_rfl)) (knows_new (V := isVal (.pointer (some ⟨b1, o1 + j, none⟩))) 19 2 (by kernel_rfl) (by kernel_rfl) (by kernel_rfl)) p1 l1 agg_int, ?_⟩
  refine ⟨isVal (.slice (some ⟨b2, o2, none⟩) n c2), step_move (.tmp 1) (by kernel_rfl) (wanted_none (by kernel_rfl)) (stable_val _) (knows_old 1 (.slice (some ⟨b2, o2, none⟩) n c2) (by kernel_rfl) e1), ?_⟩
  refine ⟨isVal (.int .i64 (j : Int)), step_move (.tmp 5) (by kernel_rfl) (wanted_none (by kernel_rfl)) (stable_val _) (knows_old 5 (.int .i64 (j : Int)) (by kernel_rfl) e5), ?_⟩
  refine ⟨isVal (.pointer (some ⟨b2, o2 + j, none⟩)), step_place 29 3 (.tmp 21) (.tmp 22) b2 o2 n c2 j (by kernel_rfl) (wanted_none (by kernel_rfl)) (knows_new (V := isVal (.slice (some ⟨b2, o2, none⟩) n c2)) 21 4 (by kernel_rfl) (by kernel_rfl) (by kernel_rfl)) (knows_new (V := isVal (.int .i64 (j : Int))) 22 5 (by kernel_rfl) (by kernel_rfl) (by kernel_rfl)) Tryz.underlying29 (by kernel_rfl) hj, ?_⟩
  refine ⟨isVal (.int .i64 y), step_read 3 (.tmp 23) ⟨b2, o2 + j, none⟩ (.int .i64 y) (by kernel_rfl) (wanted_none (by kernel_rfl)) (knows_new (V := isVal (.pointer (some ⟨b2, o2 + j, none⟩))) 23 6 (by kernel_rfl) (by kernel_rfl) (by kernel_rfl)) p2 l2 agg_int, ?_⟩
  refine ⟨isVal (.bool z), step_bin .neq 3 3 (.tmp 20) (.tmp 24) (.int .i64 x) (.int .i64 y) (.bool z) (by kernel_rfl) (wanted_none (by kernel_rfl)) (knows_new (V := isVal (.int .i64 x)) 20 3 (by kernel_rfl) (by kernel_rfl) (by kernel_rfl)) (knows_new (V := isVal (.int .i64 y)) 24 7 (by kernel_rfl) (by kernel_rfl) (by kernel_rfl)) (fun _ => rfl) (neq_int _ _ _ _ _ hz), ?_⟩
  intro a w hkp hb hd
  rw [kept_of hkp ((List.range 9).map fun i => some (i + 17)) [17, 18, 19, 20, 21, 22, 23, 24, 25] (by kernel_rfl) (by decide)]
  exact hQ (fun s => a.tmps.getD s undef) w (fdone_of (hd 8 (by rw [show refIntsops.size = 9 by kernel_rfl]; decide)) (t := 25) (V := isVal (.bool z)) (by kernel_rfl) (by kernel_rfl)) hb
set_option maxRecDepth 20000 in
set_option maxHeartbeats 1000000 in
theorem refInts_any (l m : List (Int)) (v u : Value) (w : World) (hv : isCells (l.map intC) v w) (hu : isCells (m.map intC) u w) (h1 : l.length ≤ 1000000000) (h2 : m.length ≤ 1000000000) :
    Calls Tryz.prog 48 #[v, u] w fun e w' => e = .returned (.bool (decide (l = m))) ∧ Below w.heap.size w w' := by
  by_cases hlen : l.length = m.length
  case neg =>
    obtain ⟨a, cap, rfl⟩ := hv.len
    obtain ⟨b, cap2, rfl⟩ := hu.len
    rw [List.length_map, List.length_map]
    have HN := Kept.mk (show decide (l = m) = false by simp; rintro rfl; exact hlen rfl)
    have d1 : ((l.length : Int) != (m.length : Int)) = true := by simp [bne]; omega
    clear hv hu hlen
    go_enter Tryz.func48, Tryz.ntmps48
    go_wp2
    go_ret
    exact ⟨by rw [HN.out]; rfl, Below.refl _ _⟩
  by_cases h0 : l = []
  · subst h0
    obtain rfl : m = [] := List.eq_nil_of_length_eq_zero (by simpa using hlen.symm)
    obtain ⟨a, cap, rfl⟩ := hv.len
    obtain ⟨b, cap2, rfl⟩ := hu.len
    clear hv hu
    simp only [List.map_nil, List.length_nil]
    go_enter Tryz.func48, Tryz.ntmps48
    go_wp2
    go_loop [5] (fun i => i = .int .i64 0) (fun _ => 0)
    case atStart => rfl
    case round =>
      subst hrel
      go_wp2
      go_ret
      exact ⟨by simp, Below.refl _ _⟩
  · have hl0 : 0 < l.length := List.length_pos_iff.2 h0
    obtain ⟨b1, o1, c1, hv', l1, hc1⟩ := hv.some_ (by simpa using hl0)
    obtain ⟨b2, o2, c2, hu', l2, hc2⟩ := hu.some_ (by rw [List.length_map]; omega)
    rw [List.length_map] at hv' hu'
    subst hv' hu'
    have HM := Kept.mk hlen
    have hmn : m.length = l.length := hlen.symm
    rw [hmn]
    obtain ⟨n, hn⟩ : ∃ n, n = l.length := ⟨_, rfl⟩
    have HN := Kept.mk hn
    rw [← hn] at h1 hl0 ⊢
    have HC1 := Kept.mk hc1
    have HC2 := Kept.mk hc2
    have hB : Below w.heap.size w w := Below.refl _ _
    clear hv hu hlen hmn hn hc1 hc2 h0
    go_enter Tryz.func48, Tryz.ntmps48
    go_wp2
    go_loopw [5] (fun i wr => ∃ j : Nat, j ≤ n ∧ i = .int .i64 (j : Int) ∧ Kept (l.take j = m.take j) ∧ Below w.heap.size w wr) (fun i _ => n - (intOf i).toNat)
    case atStart => exact ⟨0, Nat.zero_le _, rfl, ⟨rfl⟩, hB⟩
    case round =>
      clear hB
      obtain ⟨j, hj, rfl, HT, hB⟩ := hrel
      by_cases hlt : j < n
      · have d1 : decide ((j : Int) < (n : Int)) = true := by simpa using hlt
        have HA := Kept.mk (show j < l.length by rw [← HN.out]; exact hlt)
        have HB := Kept.mk (show j < m.length by rw [← HM.out, ← HN.out]; exact hlt)
        have q1 := Kept.mk ((hB.cell (p := ⟨b1, o1 + j, none⟩) l1).trans (HC1.out j _ (get_map intC l j HA.out)))
        have q2 := Kept.mk ((hB.cell (p := ⟨b2, o2 + j, none⟩) l2).trans (HC2.out j _ (get_map intC m j HB.out)))
        cases hz : (l[j]'HA.out != m[j]'HB.out) with
        | true =>
          have HR := Kept.mk (show decide (l = m) = false by
            simp only [decide_eq_false_iff_not]
            rintro rfl
            simp at hz)
          have HZ := Kept.mk hz
          clear hz
          go_wp2_with fail
          refine refInts_region _ _ _ rfl b1 o1 c1 b2 o2 c2 n j _ _ true rfl rfl rfl hlt q1.out (Nat.lt_of_lt_of_le l1 hB.size) q2.out (Nat.lt_of_lt_of_le l2 hB.size) HZ.out ?_
          clear q1 q2 HZ
          intro f9 W9 hg hb9
          replace hB := hB.trans (hb9.mono hB.size)
          clear hb9
          simp only [List.foldl_cons, List.foldl_nil, hg]
          generalize f9 17 = y17
          generalize f9 18 = y18
          generalize f9 19 = y19
          generalize f9 20 = y20
          generalize f9 21 = y21
          generalize f9 22 = y22
          generalize f9 23 = y23
          generalize f9 24 = y24
          clear hg
          simp only [List.setIfInBounds_toArray, List.set_cons_succ, List.set_cons_zero]
          go_wp2
          go_ret
          exact ⟨by rw [HR.out]; rfl, hB⟩
        | false =>
          have HR := Kept.mk (show l.take (j + 1) = m.take (j + 1) by
            rw [List.take_succ_eq_append_getElem HA.out, List.take_succ_eq_append_getElem HB.out, HT.out]
            simp at hz
            rw [hz])
          have HZ := Kept.mk hz
          clear hz HT
          go_wp2_with fail
          refine refInts_region _ _ _ rfl b1 o1 c1 b2 o2 c2 n j _ _ false rfl rfl rfl hlt q1.out (Nat.lt_of_lt_of_le l1 hB.size) q2.out (Nat.lt_of_lt_of_le l2 hB.size) HZ.out ?_
          clear q1 q2 HZ
          intro f9 W9 hg hb9
          replace hB := hB.trans (hb9.mono hB.size)
          clear hb9
          simp only [List.foldl_cons, List.foldl_nil, hg]
          generalize f9 17 = y17
          generalize f9 18 = y18
          generalize f9 19 = y19
          generalize f9 20 = y20
          generalize f9 21 = y21
          generalize f9 22 = y22
          generalize f9 23 = y23
          generalize f9 24 = y24
          clear hg
          simp only [List.setIfInBounds_toArray, List.set_cons_succ, List.set_cons_zero]
          go_wp2
          go_roundw
          case rel => exact ⟨j + 1, by omega, by go_num, HR, hB⟩
          case measure => simp [intOf]; omega
      · have d1 : decide ((j : Int) < (n : Int)) = false := by simp; omega
        have HR := Kept.mk (show decide (l = m) = true by
          have h := HT.out
          rw [List.take_of_length_le (by rw [← HN.out]; omega), List.take_of_length_le (by rw [← HM.out, ← HN.out]; omega)] at h
          simpa using h)
        go_wp2
        go_ret
        exact ⟨by rw [HR.out]; rfl, hB⟩

noncomputable def refTextsops : Array Oper := regionOf Tryz.f12 6
set_option maxRecDepth 100000 in
theorem refTexts_region (Q : Exit → Act → World → Prop) (a0 : Act) (w0 : World) (hsz : a0.tmps.size = 26) (b1 o1 c1 b2 o2 c2 n j : Nat) (x y : List UInt8) (z : Bool)
    (e0 : a0.tmps.getD 0 undef = .slice (some ⟨b1, o1, none⟩) n c1) (e1 : a0.tmps.getD 1 undef = .slice (some ⟨b2, o2, none⟩) n c2) (e5 : a0.tmps.getD 5 undef = .int .i64 (j : Int)) (hj : j < n)
    (p1 : w0.cell? ⟨b1, o1 + j, none⟩ = some (.string ⟨x.toArray⟩)) (l1 : b1 < w0.heap.size) (p2 : w0.cell? ⟨b2, o2 + j, none⟩ = some (.string ⟨y.toArray⟩)) (l2 : b2 < w0.heap.size) (hz : (x != y) = z)
    (hQ : ∀ (f : Nat → Value) (w : World), f 25 = .bool z → Below w0.heap.size w0 w → Q .normal { tmps := [17, 18, 19, 20, 21, 22, 23, 24, 25].foldl (fun t s => t.setIfInBounds s (f s)) a0.tmps, defers := a0.defers } w) :
    (Code.region 6 refTextsops true).wp Tryz.prog Q a0 w0 := by
  refine wp_region_flow mixed (by rw [hsz]; kernel_rfl) ?_
  rw [show refTextsops.size = 9 by kernel_rfl]
  refine ⟨isVal (.slice (some ⟨b1, o1, none⟩) n c1), step_move (.tmp 0) (by kernel_rfl) (wanted_none (by kernel_rfl)) (stable_val _) (knows_old 0 (.slice (some ⟨b1, o1, none⟩) n c1) (by kernel_rfl) e0), ?_⟩
  refine ⟨isVal (.int .i64 (j : Int)), step_move (.tmp 5) (by kernel_rfl) (wanted_none (by kernel_rfl)) (stable_val _) (knows_old 5 (.int .i64 (j : Int)) (by kernel_rfl) e5), ?_⟩
  refine ⟨isVal (.pointer (some ⟨b1, o1 + j, none⟩)), step_place 26 9 (.tmp 17) (.tmp 18) b1 o1 n c1 j (by kernel_rfl) (wanted_none (by kernel_rfl)) (knows_new (V := isVal (.slice (some ⟨b1, o1, none⟩) n c1)) 17 0 (by kernel_rfl) (by kernel_rfl) (by kernel_rfl)) (knows_new (V := isVal (.int .i64 (j : Int))) 18 1 (by kernel_rfl) (by kernel_rfl) (by kernel_rfl)) Tryz.underlying26 (by kernel_rfl) hj, ?_⟩
  refine ⟨isVal (.string ⟨x.toArray⟩), step_read 9 (.tmp 19) ⟨b1, o1 + j, none⟩ (.string ⟨x.toArray⟩) (by kernel_rfl) (wanted_none (by kernel_rfl)) (knows_new (V := isVal (.pointer (some ⟨b1, o1 + j, none⟩))) 19 2 (by kernel_rfl) (by kernel_rfl) (by kernel_rfl)) p1 l1 agg_str, ?_⟩
  refine ⟨isVal (.slice (some ⟨b2, o2, none⟩) n c2), step_move (.tmp 1) (by kernel_rfl) (wanted_none (by kernel_rfl)) (stable_val _) (knows_old 1 (.slice (some ⟨b2, o2, none⟩) n c2) (by kernel_rfl) e1), ?_⟩
  refine ⟨isVal (.int .i64 (j : Int)), step_move (.tmp 5) (by kernel_rfl) (wanted_none (by kernel_rfl)) (stable_val _) (knows_old 5 (.int .i64 (j : Int)) (by kernel_rfl) e5), ?_⟩
  refine ⟨isVal (.pointer (some ⟨b2, o2 + j, none⟩)), step_place 26 9 (.tmp 21) (.tmp 22) b2 o2 n c2 j (by kernel_rfl) (wanted_none (by kernel_rfl)) (knows_new (V := isVal (.slice (some ⟨b2, o2, none⟩) n c2)) 21 4 (by kernel_rfl) (by kernel_rfl) (by kernel_rfl)) (knows_new (V := isVal (.int .i64 (j : Int))) 22 5 (by kernel_rfl) (by kernel_rfl) (by kernel_rfl)) Tryz.underlying26 (by kernel_rfl) hj, ?_⟩
  refine ⟨isVal (.string ⟨y.toArray⟩), step_read 9 (.tmp 23) ⟨b2, o2 + j, none⟩ (.string ⟨y.toArray⟩) (by kernel_rfl) (wanted_none (by kernel_rfl)) (knows_new (V := isVal (.pointer (some ⟨b2, o2 + j, none⟩))) 23 6 (by kernel_rfl) (by kernel_rfl) (by kernel_rfl)) p2 l2 agg_str, ?_⟩
  refine ⟨isVal (.bool z), step_bin .neq 9 9 (.tmp 20) (.tmp 24) (.string ⟨x.toArray⟩) (.string ⟨y.toArray⟩) (.bool z) (by kernel_rfl) (wanted_none (by kernel_rfl)) (knows_new (V := isVal (.string ⟨x.toArray⟩)) 20 3 (by kernel_rfl) (by kernel_rfl) (by kernel_rfl)) (knows_new (V := isVal (.string ⟨y.toArray⟩)) 24 7 (by kernel_rfl) (by kernel_rfl) (by kernel_rfl)) (fun _ => rfl) (neq_str _ _ _ _ hz), ?_⟩
  intro a w hkp hb hd
  rw [kept_of hkp ((List.range 9).map fun i => some (i + 17)) [17, 18, 19, 20, 21, 22, 23, 24, 25] (by kernel_rfl) (by decide)]
  exact hQ (fun s => a.tmps.getD s undef) w (fdone_of (hd 8 (by rw [show refTextsops.size = 9 by kernel_rfl]; decide)) (t := 25) (V := isVal (.bool z)) (by kernel_rfl) (by kernel_rfl)) hb
set_option maxRecDepth 20000 in
set_option maxHeartbeats 1000000 in
theorem refTexts_any (l m : List (List UInt8)) (v u : Value) (w : World) (hv : isCells (l.map strC) v w) (hu : isCells (m.map strC) u w) (h1 : l.length ≤ 1000000000) (h2 : m.length ≤ 1000000000) :
    Calls Tryz.prog 12 #[v, u] w fun e w' => e = .returned (.bool (decide (l = m))) ∧ Below w.heap.size w w' := by
  by_cases hlen : l.length = m.length
  case neg =>
    obtain ⟨a, cap, rfl⟩ := hv.len
    obtain ⟨b, cap2, rfl⟩ := hu.len
    rw [List.length_map, List.length_map]
    have HN := Kept.mk (show decide (l = m) = false by simp; rintro rfl; exact hlen rfl)
    have d1 : ((l.length : Int) != (m.length : Int)) = true := by simp [bne]; omega
    clear hv hu hlen
    go_enter Tryz.func12, Tryz.ntmps12
    go_wp2
    go_ret
    exact ⟨by rw [HN.out]; rfl, Below.refl _ _⟩
  by_cases h0 : l = []
  · subst h0
    obtain rfl : m = [] := List.eq_nil_of_length_eq_zero (by simpa using hlen.symm)
    obtain ⟨a, cap, rfl⟩ := hv.len
    obtain ⟨b, cap2, rfl⟩ := hu.len
    clear hv hu
    simp only [List.map_nil, List.length_nil]
    go_enter Tryz.func12, Tryz.ntmps12
    go_wp2
    go_loop [5] (fun i => i = .int .i64 0) (fun _ => 0)
    case atStart => rfl
    case round =>
      subst hrel
      go_wp2
      go_ret
      exact ⟨by simp, Below.refl _ _⟩
  · have hl0 : 0 < l.length := List.length_pos_iff.2 h0
    obtain ⟨b1, o1, c1, hv', l1, hc1⟩ := hv.some_ (by simpa using hl0)
    obtain ⟨b2, o2, c2, hu', l2, hc2⟩ := hu.some_ (by rw [List.length_map]; omega)
    rw [List.length_map] at hv' hu'
    subst hv' hu'
    have HM := Kept.mk hlen
    have hmn : m.length = l.length := hlen.symm
    rw [hmn]
    obtain ⟨n, hn⟩ : ∃ n, n = l.length := ⟨_, rfl⟩
    have HN := Kept.mk hn
    rw [← hn] at h1 hl0 ⊢
    have HC1 := Kept.mk hc1
    have HC2 := Kept.mk hc2
    have hB : Below w.heap.size w w := Below.refl _ _
    clear hv hu hlen hmn hn hc1 hc2 h0
    go_enter Tryz.func12, Tryz.ntmps12
    go_wp2
    go_loopw [5] (fun i wr => ∃ j : Nat, j ≤ n ∧ i = .int .i64 (j : Int) ∧ Kept (l.take j = m.take j) ∧ Below w.heap.size w wr) (fun i _ => n - (intOf i).toNat)
    case atStart => exact ⟨0, Nat.zero_le _, rfl, ⟨rfl⟩, hB⟩
    case round =>
      clear hB
      obtain ⟨j, hj, rfl, HT, hB⟩ := hrel
      by_cases hlt : j < n
      · have d1 : decide ((j : Int) < (n : Int)) = true := by simpa using hlt
        have HA := Kept.mk (show j < l.length by rw [← HN.out]; exact hlt)
        have HB := Kept.mk (show j < m.length by rw [← HM.out, ← HN.out]; exact hlt)
        have q1 := Kept.mk ((hB.cell (p := ⟨b1, o1 + j, none⟩) l1).trans (HC1.out j _ (get_map strC l j HA.out)))
        have q2 := Kept.mk ((hB.cell (p := ⟨b2, o2 + j, none⟩) l2).trans (HC2.out j _ (get_map strC m j HB.out)))
        cases hz : (l[j]'HA.out != m[j]'HB.out) with
        | true =>
          have HR := Kept.mk (show decide (l = m) = false by
            simp only [decide_eq_false_iff_not]
            rintro rfl
            simp at hz)
          have HZ := Kept.mk hz
          clear hz
          go_wp2_with fail
          refine refTexts_region _ _ _ rfl b1 o1 c1 b2 o2 c2 n j _ _ true rfl rfl rfl hlt q1.out (Nat.lt_of_lt_of_le l1 hB.size) q2.out (Nat.lt_of_lt_of_le l2 hB.size) HZ.out ?_
          clear q1 q2 HZ
          intro f9 W9 hg hb9
          replace hB := hB.trans (hb9.mono hB.size)
          clear hb9
          simp only [List.foldl_cons, List.foldl_nil, hg]
          generalize f9 17 = y17
          generalize f9 18 = y18
          generalize f9 19 = y19
          generalize f9 20 = y20
          generalize f9 21 = y21
          generalize f9 22 = y22
          generalize f9 23 = y23
          generalize f9 24 = y24
          clear hg
          simp only [List.setIfInBounds_toArray, List.set_cons_succ, List.set_cons_zero]
          go_wp2
          go_ret
          exact ⟨by rw [HR.out]; rfl, hB⟩
        | false =>
          have HR := Kept.mk (show l.take (j + 1) = m.take (j + 1) by
            rw [List.take_succ_eq_append_getElem HA.out, List.take_succ_eq_append_getElem HB.out, HT.out]
            simp at hz
            rw [hz])
          have HZ := Kept.mk hz
          clear hz HT
          go_wp2_with fail
          refine refTexts_region _ _ _ rfl b1 o1 c1 b2 o2 c2 n j _ _ false rfl rfl rfl hlt q1.out (Nat.lt_of_lt_of_le l1 hB.size) q2.out (Nat.lt_of_lt_of_le l2 hB.size) HZ.out ?_
          clear q1 q2 HZ
          intro f9 W9 hg hb9
          replace hB := hB.trans (hb9.mono hB.size)
          clear hb9
          simp only [List.foldl_cons, List.foldl_nil, hg]
          generalize f9 17 = y17
          generalize f9 18 = y18
          generalize f9 19 = y19
          generalize f9 20 = y20
          generalize f9 21 = y21
          generalize f9 22 = y22
          generalize f9 23 = y23
          generalize f9 24 = y24
          clear hg
          simp only [List.setIfInBounds_toArray, List.set_cons_succ, List.set_cons_zero]
          go_wp2
          go_roundw
          case rel => exact ⟨j + 1, by omega, by go_num, HR, hB⟩
          case measure => simp [intOf]; omega
      · have d1 : decide ((j : Int) < (n : Int)) = false := by simp; omega
        have HR := Kept.mk (show decide (l = m) = true by
          have h := HT.out
          rw [List.take_of_length_le (by rw [← HN.out]; omega), List.take_of_length_le (by rw [← HM.out, ← HN.out]; omega)] at h
          simpa using h)
        go_wp2
        go_ret
        exact ⟨by rw [HR.out]; rfl, hB⟩
end Go.Proofs.YtipiioggdalkoaaGreatDoor
end
section
namespace Go.Proofs.YtipiioggdalkoaaGreatDoor
open Go.RowKit
set_option linter.unusedVariables false
set_option linter.unusedSimpArgs false
section
variable {P : Program} {ops : Array Oper} {base : World} {a0 : Act} {Q : Exit → Act → World → Prop} {kn : Nat → VP} {i : Nat} {V : VP}
theorem step_callP (f : FuncId) (xs : Array Operand) (ts : Array TypeId) (hop : (ops[i]?).map (·.op) = some (.call { callee := .value (.func f), args := xs, argTypes := ts })) (hw : Wanted ops a0 kn i) (hst : Stable V) (hent : Enters P f)
    (Pre : Array Value → World → Prop) (hx : ∀ a w, FKept ops a0 a → FDeps ops kn i a w → Pre (xs.map a.eval) w)
    (hc : ∀ vs w, Below base.heap.size base w → Pre vs w → Calls P f vs w fun e w' => ∃ v, e = .returned v ∧ V v w' ∧ Below w.heap.size w w') : FStep P ops base a0 Q kn i V :=
  step_mk hst hw fun o ho a w hk hb hd => by
    have hp := hx a w hk hd
    generalize hvs : xs.map a.eval = vs at hp
    unfold Oper.wp execOp
    rw [op_of hop ho]
    have e2 : a.eval (.func f) = .func (.func f) #[] #[] := rfl
    simp only [resolve, hvs, e2, Deferred.ofValue, Sem.run_bind, Sem.run_pure, Result.andThen_ok, invoke, Array.append_empty, Array.empty_append]
    rw [hent]
    simp only [Oper.upon]
    refine (hc vs w hb hp).mono ?_
    rintro e w' ⟨v, rfl, hv, hbw⟩
    exact ⟨v, rfl, hv, hbw⟩
theorem pre2 {x y : Operand} {V1 V2 : VP} (h1 : Knows ops a0 kn i x V1) (h2 : Knows ops a0 kn i y V2) : ∀ a w, FKept ops a0 a → FDeps ops kn i a w → (fun vs w => ∃ u v, vs = #[u, v] ∧ V1 u w ∧ V2 v w) (#[x, y].map a.eval) w := fun a w hk hd =>
  ⟨_, _, by simp, h1 a w hk hd, h2 a w hk hd⟩
theorem step_strs2 (t e : TypeId) (x y : List UInt8) (ie : TypeInfo) (hop : (ops[i]?).map (·.op) = some (.buildSlice t 2 #[(0, .const (.string ⟨x.toArray⟩)), (1, .const (.string ⟨y.toArray⟩))])) (hw : Wanted ops a0 kn i)
    (hu : P.underlying t = some (.slice e)) (hie : P.info? e = some ie) (hz : ie.zero = some (.string ⟨#[]⟩)) (hsz : ie.size = 1) : FStep P ops base a0 Q kn i (isCells [strC x, strC y]) :=
  step_mk (stable_cells _) hw fun o ho a w hk hb hd => by
    have hf : Instr.fill (fun i => some (i * ie.size, ie.size)) ((Array.range (2 * ie.size)).map ((Value.string ⟨#[]⟩).cells[· % (Value.string ⟨#[]⟩).cells.size]!)) ((#[(0, Operand.const (.string ⟨x.toArray⟩)), (1, Operand.const (.string ⟨y.toArray⟩))] : Array (Nat × Operand)).map fun (i, x) => (i, a.eval x)).toList = some #[strC x, strC y] := by
      have e1 : ((#[(0, Operand.const (.string ⟨x.toArray⟩)), (1, Operand.const (.string ⟨y.toArray⟩))] : Array (Nat × Operand)).map fun (i, x) => (i, a.eval x)).toList = (([strC x, strC y] : List Value).zipIdx 0).map fun x => (x.2, x.1) := by simp; exact ⟨rfl, rfl⟩
      rw [e1, hsz, Great.fill_flat _ _ (fun v hv => by simp only [List.mem_cons, List.not_mem_nil, or_false] at hv; rcases hv with rfl | rfl <;> rfl) (by simp)]
    refine wp_buildSlice t e 2 _ (op_of hop ho) _ ie (.string ⟨#[]⟩) hu hie hz (by rw [hsz]; omega) (by rw [hsz]; omega) hf ?_
    refine ⟨_, rfl, .inr (.inr ⟨w.heap.size, 0, 2, rfl, by simp, fun j v hv => ?_⟩), (Below.refl _ _).alloc (Nat.le_refl _) _⟩
    rw [World.cell?_alloc_new]
    simpa using hv
end
end Go.Proofs.YtipiioggdalkoaaGreatDoor
end
section
namespace Go.Proofs.YtipiioggdalkoaaGreatDoor
open Go.RowKit
set_option linter.unusedVariables false
set_option linter.unusedSimpArgs false
attribute [local irreducible] set5

def dv1 : Fl := ⟨[[255, 255, 255, 255, 255, 255, 255, 255, 255, 255, 255, 255, 255, 255, 255, 255, 255, 255, 255, 255, 255, 255, 255, 255, 255]], [0], (-1), [], false⟩
def dv2 : Fl := ⟨[[120, 131, 22, 220, 140, 135, 124, 233, 35, 115, 255, 255, 255, 255, 255, 255, 255, 255, 255, 255, 255, 255, 255, 255, 255]], [0], (-1), [], false⟩
def dv3 : Fl := ⟨[[120, 131, 22, 220, 140, 135, 124, 233, 35, 115, 121, 21, 38, 219, 251, 134, 234, 217, 36, 4, 255, 255, 255, 255, 255]], [0], (-1), [], false⟩

theorem c_new (w : World) : Calls Tryz.prog 31 #[.int .i64 1, .int .i64 25] w fun e w' => ∃ v', e = .returned (.tuple #[v', .int .i64 0]) ∧ isFlN w.heap.size dv1 v' w' ∧ Below w.heap.size w w' := by
  have h := new_any 1 25 w
  rwa [show newF 1 25 = dv1 by kernel_rfl, show newE 1 25 = 0 by kernel_rfl] at h
theorem c_app1 (v : Value) (w : World) (hv : isFl dv1 v w) : Calls Tryz.prog 22 #[v, .int .i64 0, .string ⟨#[120]⟩] w fun e w' => ∃ v', e = .returned (.tuple #[v', .int .i64 0]) ∧ isFlN w.heap.size dv2 v' w' ∧ Below w.heap.size w w' := by
  have h := append_any dv1 0 [120] v w hv (by decide) (by decide) (by decide) (.inl (by decide))
  rwa [show appF dv1 0 [120] = dv2 by kernel_rfl, show appE dv1 0 [120] = 0 by kernel_rfl] at h
theorem c_app2 (v : Value) (w : World) (hv : isFl dv2 v w) : Calls Tryz.prog 22 #[v, .int .i64 0, .string ⟨#[121]⟩] w fun e w' => ∃ v', e = .returned (.tuple #[v', .int .i64 0]) ∧ isFlN w.heap.size dv3 v' w' ∧ Below w.heap.size w w' := by
  have h := append_any dv2 0 [121] v w hv (by decide) (by decide) (by decide) (.inl (by decide))
  rwa [show appF dv2 0 [121] = dv3 by kernel_rfl, show appE dv2 0 [121] = 0 by kernel_rfl] at h
theorem c_app3 (v : Value) (w : World) (hv : isFl dv3 v w) : Calls Tryz.prog 22 #[v, .int .i64 0, .string ⟨#[122]⟩] w fun e w' => ∃ v', e = .returned (.tuple #[v', .int .i64 4]) ∧ isFlN w.heap.size dv3 v' w' ∧ Below w.heap.size w w' := by
  have h := append_any dv3 0 [122] v w hv (by decide) (by decide) (by decide) (.inl (by decide))
  rwa [show appF dv3 0 [122] = dv3 by kernel_rfl, show appE dv3 0 [122] = 4 by kernel_rfl] at h
theorem c_app4 (v : Value) (w : World) (hv : isFl dv3 v w) : Calls Tryz.prog 22 #[v, .int .i64 1, .string ⟨#[122]⟩] w fun e w' => ∃ v', e = .returned (.tuple #[v', .int .i64 1]) ∧ isFlN w.heap.size dv3 v' w' ∧ Below w.heap.size w w' := by
  have h := append_any dv3 1 [122] v w hv (by decide) (by decide) (by decide) (.inl (by decide))
  rwa [show appF dv3 1 [122] = dv3 by kernel_rfl, show appE dv3 1 [122] = 1 by kernel_rfl] at h
theorem f_room (w : World) : Calls Tryz.prog 17 #[.string ⟨[255, 255, 255, 255, 255, 255, 255, 255, 255, 255, 255, 255, 255, 255, 255, 255, 255, 255, 255, 255, 255, 255, 255, 255, 255].toArray⟩, .int .i64 1] w fun e w' => ∃ x, e = .returned x ∧ isVal (.int .i64 2) x w' ∧ Below w.heap.size w w' := by
  have h := room_any [255, 255, 255, 255, 255, 255, 255, 255, 255, 255, 255, 255, 255, 255, 255, 255, 255, 255, 255, 255, 255, 255, 255, 255, 255] 1 w (by decide)
  rw [show roomN [255, 255, 255, 255, 255, 255, 255, 255, 255, 255, 255, 255, 255, 255, 255, 255, 255, 255, 255, 255, 255, 255, 255, 255, 255] 1 = 2 by kernel_rfl] at h
  refine h.mono ?_
  rintro e w' ⟨rfl, rfl⟩
  exact ⟨_, rfl, rfl, Below.refl _ _⟩
theorem f_next0 (w : World) : Calls Tryz.prog 20 #[.string ⟨[255, 255, 255, 255, 255, 255, 255, 255, 255, 255, 255, 255, 255, 255, 255, 255, 255, 255, 255, 255, 255, 255, 255, 255, 255].toArray⟩, .int .i64 1] w fun e w' => ∃ x, e = .returned x ∧ isVal (.int .i64 0) x w' ∧ Below w.heap.size w w' := by
  have h := next_any [255, 255, 255, 255, 255, 255, 255, 255, 255, 255, 255, 255, 255, 255, 255, 255, 255, 255, 255, 255, 255, 255, 255, 255, 255] 1 w (by decide) (.inl (by decide))
  rw [show nextN [255, 255, 255, 255, 255, 255, 255, 255, 255, 255, 255, 255, 255, 255, 255, 255, 255, 255, 255, 255, 255, 255, 255, 255, 255] 1 = 0 by kernel_rfl] at h
  refine h.mono ?_
  rintro e w' ⟨rfl, hb⟩
  exact ⟨_, rfl, rfl, hb⟩
theorem f_bad0 (w : World) : Calls Tryz.prog 19 #[.string ⟨[255, 255, 255, 255, 255, 255, 255, 255, 255, 255, 255, 255, 255, 255, 255, 255, 255, 255, 255, 255, 255, 255, 255, 255, 255].toArray⟩, .int .i64 1] w fun e w' => ∃ x, e = .returned x ∧ isVal (.int .i64 0) x w' ∧ Below w.heap.size w w' := by
  have h := bad_any [255, 255, 255, 255, 255, 255, 255, 255, 255, 255, 255, 255, 255, 255, 255, 255, 255, 255, 255, 255, 255, 255, 255, 255, 255] 1 w (by decide) (.inl (by decide))
  rw [show badN [255, 255, 255, 255, 255, 255, 255, 255, 255, 255, 255, 255, 255, 255, 255, 255, 255, 255, 255, 255, 255, 255, 255, 255, 255] 1 = 0 by kernel_rfl] at h
  refine h.mono ?_
  rintro e w' ⟨rfl, hb⟩
  exact ⟨_, rfl, rfl, hb⟩
theorem f_next2 (w : World) : Calls Tryz.prog 20 #[.string ⟨[120, 131, 22, 220, 140, 135, 124, 233, 35, 115, 121, 21, 38, 219, 251, 134, 234, 217, 36, 4, 255, 255, 255, 255, 255].toArray⟩, .int .i64 1] w fun e w' => ∃ x, e = .returned x ∧ isVal (.int .i64 2) x w' ∧ Below w.heap.size w w' := by
  have h := next_any [120, 131, 22, 220, 140, 135, 124, 233, 35, 115, 121, 21, 38, 219, 251, 134, 234, 217, 36, 4, 255, 255, 255, 255, 255] 1 w (by decide) (.inl (by decide))
  rw [show nextN [120, 131, 22, 220, 140, 135, 124, 233, 35, 115, 121, 21, 38, 219, 251, 134, 234, 217, 36, 4, 255, 255, 255, 255, 255] 1 = 2 by kernel_rfl] at h
  refine h.mono ?_
  rintro e w' ⟨rfl, hb⟩
  exact ⟨_, rfl, rfl, hb⟩
theorem f_slot1 (w : World) : Calls Tryz.prog 18 #[.string ⟨[120, 131, 22, 220, 140, 135, 124, 233, 35, 115, 121, 21, 38, 219, 251, 134, 234, 217, 36, 4, 255, 255, 255, 255, 255].toArray⟩, .int .i64 1, .int .i64 1] w fun e w' => ∃ x, e = .returned x ∧ isVal (.string ⟨[121, 21, 38, 219, 251, 134, 234, 217, 36, 4].toArray⟩) x w' ∧ Below w.heap.size w w' := by
  have h := slot_any [120, 131, 22, 220, 140, 135, 124, 233, 35, 115, 121, 21, 38, 219, 251, 134, 234, 217, 36, 4, 255, 255, 255, 255, 255] 1 1 w (by decide)
  rw [show slotI [120, 131, 22, 220, 140, 135, 124, 233, 35, 115, 121, 21, 38, 219, 251, 134, 234, 217, 36, 4, 255, 255, 255, 255, 255] 1 1 = [121, 21, 38, 219, 251, 134, 234, 217, 36, 4] by kernel_rfl] at h
  refine h.mono ?_
  rintro e w' ⟨rfl, rfl⟩
  exact ⟨_, rfl, rfl, Below.refl _ _⟩
theorem f_slot2 (w : World) : Calls Tryz.prog 18 #[.string ⟨[255, 255, 255, 255, 255, 255, 255, 255, 255, 255, 255, 255, 255, 255, 255, 255, 255, 255, 255, 255, 255, 255, 255, 255, 255].toArray⟩, .int .i64 1, .int .i64 2] w fun e w' => ∃ x, e = .returned x ∧ isVal (.string ⟨[].toArray⟩) x w' ∧ Below w.heap.size w w' := by
  have h := slot_any [255, 255, 255, 255, 255, 255, 255, 255, 255, 255, 255, 255, 255, 255, 255, 255, 255, 255, 255, 255, 255, 255, 255, 255, 255] 1 2 w (by decide)
  rw [show slotI [255, 255, 255, 255, 255, 255, 255, 255, 255, 255, 255, 255, 255, 255, 255, 255, 255, 255, 255, 255, 255, 255, 255, 255, 255] 1 2 = [] by kernel_rfl] at h
  refine h.mono ?_
  rintro e w' ⟨rfl, rfl⟩
  exact ⟨_, rfl, rfl, Below.refl _ _⟩
theorem f_make (w : World) : Calls Tryz.prog 32 #[.string ⟨[121].toArray⟩] w fun e w' => ∃ x, e = .returned x ∧ isVal (.string ⟨[121, 21, 38, 219, 251, 134, 234, 217, 36, 4].toArray⟩) x w' ∧ Below w.heap.size w w' := by
  have h := make_any [121] w (by decide)
  rw [show recL [121] = [121, 21, 38, 219, 251, 134, 234, 217, 36, 4] by kernel_rfl] at h
  refine h.mono ?_
  rintro e w' ⟨rfl, hb⟩
  exact ⟨_, rfl, rfl, hb⟩
def wO : List UInt8 := [255, 255, 255, 255, 255, 255, 255, 255, 255, 255, 255, 255, 255, 255, 255, 255, 255, 255, 255, 255, 255, 255, 255, 255, 255]
def wCat5 : List UInt8 := wO.take 5 ++ [97, 98, 99, 100, 101]
def wCat : List UInt8 := wCat5 ++ wO.drop 10
set_option maxRecDepth 20000 in
theorem f_bad1 (w : World) : Calls Tryz.prog 19 #[.string ⟨wCat.toArray⟩, .int .i64 1] w fun e w' => ∃ x, e = .returned x ∧ isVal (.int .i64 1) x w' ∧ Below w.heap.size w w' := by
  have h := bad_any wCat 1 w (by decide) (.inl (by decide))
  rw [show badN wCat 1 = 1 by kernel_rfl] at h
  refine h.mono ?_
  rintro e w' ⟨rfl, hb⟩
  exact ⟨_, rfl, rfl, hb⟩
theorem c_recs (w : World) : Calls Tryz.prog 13 #[.string ⟨[120, 131, 22, 220, 140, 135, 124, 233, 35, 115, 121, 21, 38, 219, 251, 134, 234, 217, 36, 4, 255, 255, 255, 255, 255].toArray⟩, .int .i64 1] w fun e W' => ∃ v, e = .returned v ∧ isCells [strC [120], strC [121]] v W' ∧ Below w.heap.size w W' := by
  have h := records_any [120, 131, 22, 220, 140, 135, 124, 233, 35, 115, 121, 21, 38, 219, 251, 134, 234, 217, 36, 4, 255, 255, 255, 255, 255] 1 w (by decide) (.inl (by decide))
  rwa [show (recordsL [120, 131, 22, 220, 140, 135, 124, 233, 35, 115, 121, 21, 38, 219, 251, 134, 234, 217, 36, 4, 255, 255, 255, 255, 255] 1).map strC = [strC [120], strC [121]] by kernel_rfl] at h

theorem f_texts (v12 u v : Value) (w : World) (hu : isVal v12 u w) (h1 : isCells [strC [120], strC [121]] v12 w) (h2 : isCells [strC [120], strC [121]] v w) : Calls Tryz.prog 12 #[u, v] w fun e w' => ∃ x, e = .returned x ∧ isVal (.bool true) x w' ∧ Below w.heap.size w w' := by
  have hu' : u = v12 := hu
  subst hu'
  refine (refTexts_any [[120], [121]] [[120], [121]] u v w h1 h2 (by decide) (by decide)).mono ?_
  rintro e w' ⟨rfl, hb⟩
  exact ⟨_, rfl, by simp [isVal], hb⟩
noncomputable def worksOps : Array Oper := regionOf Tryz.f9 12
set_option maxRecDepth 100000 in
set_option maxHeartbeats 4000000 in
theorem works_region (Q : Exit → Act → World → Prop) (a0 : Act) (w0 : World) (hsz : a0.tmps.size = 124) (gc bc oc cc dc qc sc : Nat) (v12 : Value) (h12 : isCells [strC [120], strC [121]] v12 w0) (e2 : a0.tmps.getD 2 undef = .int .i64 0) (e3 : a0.tmps.getD 3 undef = .string ⟨[255, 255, 255, 255, 255, 255, 255, 255, 255, 255, 255, 255, 255, 255, 255, 255, 255, 255, 255, 255, 255, 255, 255, 255, 255].toArray⟩) (e5 : a0.tmps.getD 5 undef = .int .i64 0) (e7 : a0.tmps.getD 7 undef = .int .i64 0) (e9 : a0.tmps.getD 9 undef = .int .i64 4) (e11 : a0.tmps.getD 11 undef = .int .i64 1) (e12 : a0.tmps.getD 12 undef = v12) (e6 : a0.tmps.getD 6 undef = .pointer (some ⟨gc, 0, none⟩))
    (Cc : Cells5 w0 gc (.slice (some ⟨bc, oc, none⟩) 1 cc) (.slice (some ⟨dc, qc, none⟩) 1 sc) (.int .i64 dv3.fuse) (strC dv3.torn) (.bool dv3.dead)) (lbc : bc < w0.heap.size) (Pc : ∀ (j : Nat) (p : List UInt8), dv3.pages[j]? = some p → w0.cell? ⟨bc, oc + j, none⟩ = some (.string ⟨p.toArray⟩))
    (hQ : ∀ (a : Act) (w : World), a.defers = a0.defers → a.tmps.getD 0 undef = .bool true → Below w0.heap.size w0 w → Q .normal a w) :
    (Code.region 12 worksOps true).wp Tryz.prog Q a0 w0 := by
  obtain ⟨istr, histr, hzstr, hsstr, _⟩ := info_parts Tryz.infoStr
  refine wp_region_flow mixed (by rw [hsz]; kernel_rfl) ?_
  rw [show worksOps.size = 71 by kernel_rfl]
  refine ⟨isVal (.int .i64 0), step_move (.tmp 2) (by kernel_rfl) (wanted_none (by kernel_rfl)) (stable_val _) (knows_old 2 (.int .i64 0) (by kernel_rfl) e2), ?_⟩
  refine ⟨isVal (.bool true), step_bin .eql 33 33 (.tmp 54) (.const (.int .i64 0)) (.int .i64 0) (.int .i64 0) (.bool true) (by kernel_rfl) (wanted_none (by kernel_rfl)) (knows_new (V := isVal (.int .i64 0)) 54 0 (by kernel_rfl) (by kernel_rfl) (by kernel_rfl)) (knows_const _) (fun _ => rfl) (eql_int _ _ _ _ _ (by decide)), ?_⟩
  refine ⟨isVal (.bool true), step_move (.tmp 55) (by kernel_rfl) (wanted_none (by kernel_rfl)) (stable_val _) (knows_new (V := isVal (.bool true)) 55 1 (by kernel_rfl) (by kernel_rfl) (by kernel_rfl)), ?_⟩
  refine ⟨isVal (.string ⟨[255, 255, 255, 255, 255, 255, 255, 255, 255, 255, 255, 255, 255, 255, 255, 255, 255, 255, 255, 255, 255, 255, 255, 255, 255].toArray⟩), step_move (.tmp 3) (by kernel_rfl) (wanted_some 2 56 true (by kernel_rfl) (by kernel_rfl) (by kernel_rfl) (by kernel_rfl)) (stable_val _) (knows_old 3 (.string ⟨[255, 255, 255, 255, 255, 255, 255, 255, 255, 255, 255, 255, 255, 255, 255, 255, 255, 255, 255, 255, 255, 255, 255, 255, 255].toArray⟩) (by kernel_rfl) e3), ?_⟩
  refine ⟨isVal (.int .i64 2), step_call 17 #[.tmp 57, .const (.int .i64 1)] #[9, 3] #[.string ⟨[255, 255, 255, 255, 255, 255, 255, 255, 255, 255, 255, 255, 255, 255, 255, 255, 255, 255, 255, 255, 255, 255, 255, 255, 255].toArray⟩, .int .i64 1] (by kernel_rfl) (wanted_some 2 56 true (by kernel_rfl) (by kernel_rfl) (by kernel_rfl) (by kernel_rfl)) (stable_val _) (args2 (.tmp 57) (.const (.int .i64 1)) (.string ⟨[255, 255, 255, 255, 255, 255, 255, 255, 255, 255, 255, 255, 255, 255, 255, 255, 255, 255, 255, 255, 255, 255, 255, 255, 255].toArray⟩) (.int .i64 1) (knows_new (V := isVal (.string ⟨[255, 255, 255, 255, 255, 255, 255, 255, 255, 255, 255, 255, 255, 255, 255, 255, 255, 255, 255, 255, 255, 255, 255, 255, 255].toArray⟩)) 57 3 (by kernel_rfl) (by kernel_rfl) (by kernel_rfl)) (knows_const _)) (enters_of Tryz.func17 (by kernel_rfl) rfl) (by intro w hb; exact f_room w), ?_⟩
  refine ⟨isVal (.bool true), step_bin .eql 3 3 (.tmp 58) (.const (.int .i64 2)) (.int .i64 2) (.int .i64 2) (.bool true) (by kernel_rfl) (wanted_some 2 56 true (by kernel_rfl) (by kernel_rfl) (by kernel_rfl) (by kernel_rfl)) (knows_new (V := isVal (.int .i64 2)) 58 4 (by kernel_rfl) (by kernel_rfl) (by kernel_rfl)) (knows_const _) (fun _ => rfl) (eql_int _ _ _ _ _ (by decide)), ?_⟩
  refine ⟨isVal (.bool true), step_pick (.tmp 56) (.tmp 59) (.const (.bool false)) true (by kernel_rfl) (wanted_none (by kernel_rfl)) (stable_val _) (knows_new (V := isVal (.bool true)) 56 2 (by kernel_rfl) (by kernel_rfl) (by kernel_rfl)) (knows_new (V := isVal (.bool true)) 59 5 (by kernel_rfl) (by kernel_rfl) (by kernel_rfl)), ?_⟩
  refine ⟨isVal (.bool true), step_move (.tmp 60) (by kernel_rfl) (wanted_none (by kernel_rfl)) (stable_val _) (knows_new (V := isVal (.bool true)) 60 6 (by kernel_rfl) (by kernel_rfl) (by kernel_rfl)), ?_⟩
  refine ⟨isVal (.string ⟨[255, 255, 255, 255, 255, 255, 255, 255, 255, 255, 255, 255, 255, 255, 255, 255, 255, 255, 255, 255, 255, 255, 255, 255, 255].toArray⟩), step_move (.tmp 3) (by kernel_rfl) (wanted_some 7 61 true (by kernel_rfl) (by kernel_rfl) (by kernel_rfl) (by kernel_rfl)) (stable_val _) (knows_old 3 (.string ⟨[255, 255, 255, 255, 255, 255, 255, 255, 255, 255, 255, 255, 255, 255, 255, 255, 255, 255, 255, 255, 255, 255, 255, 255, 255].toArray⟩) (by kernel_rfl) e3), ?_⟩
  refine ⟨isVal (.int .i64 0), step_call 20 #[.tmp 62, .const (.int .i64 1)] #[9, 3] #[.string ⟨[255, 255, 255, 255, 255, 255, 255, 255, 255, 255, 255, 255, 255, 255, 255, 255, 255, 255, 255, 255, 255, 255, 255, 255, 255].toArray⟩, .int .i64 1] (by kernel_rfl) (wanted_some 7 61 true (by kernel_rfl) (by kernel_rfl) (by kernel_rfl) (by kernel_rfl)) (stable_val _) (args2 (.tmp 62) (.const (.int .i64 1)) (.string ⟨[255, 255, 255, 255, 255, 255, 255, 255, 255, 255, 255, 255, 255, 255, 255, 255, 255, 255, 255, 255, 255, 255, 255, 255, 255].toArray⟩) (.int .i64 1) (knows_new (V := isVal (.string ⟨[255, 255, 255, 255, 255, 255, 255, 255, 255, 255, 255, 255, 255, 255, 255, 255, 255, 255, 255, 255, 255, 255, 255, 255, 255].toArray⟩)) 62 8 (by kernel_rfl) (by kernel_rfl) (by kernel_rfl)) (knows_const _)) (enters_of Tryz.func20 (by kernel_rfl) rfl) (by intro w hb; exact f_next0 w), ?_⟩
  refine ⟨isVal (.bool true), step_bin .eql 3 3 (.tmp 63) (.const (.int .i64 0)) (.int .i64 0) (.int .i64 0) (.bool true) (by kernel_rfl) (wanted_some 7 61 true (by kernel_rfl) (by kernel_rfl) (by kernel_rfl) (by kernel_rfl)) (knows_new (V := isVal (.int .i64 0)) 63 9 (by kernel_rfl) (by kernel_rfl) (by kernel_rfl)) (knows_const _) (fun _ => rfl) (eql_int _ _ _ _ _ (by decide)), ?_⟩
  refine ⟨isVal (.bool true), step_pick (.tmp 61) (.tmp 64) (.const (.bool false)) true (by kernel_rfl) (wanted_none (by kernel_rfl)) (stable_val _) (knows_new (V := isVal (.bool true)) 61 7 (by kernel_rfl) (by kernel_rfl) (by kernel_rfl)) (knows_new (V := isVal (.bool true)) 64 10 (by kernel_rfl) (by kernel_rfl) (by kernel_rfl)), ?_⟩
  refine ⟨isVal (.bool true), step_move (.tmp 65) (by kernel_rfl) (wanted_none (by kernel_rfl)) (stable_val _) (knows_new (V := isVal (.bool true)) 65 11 (by kernel_rfl) (by kernel_rfl) (by kernel_rfl)), ?_⟩
  refine ⟨isVal (.string ⟨[255, 255, 255, 255, 255, 255, 255, 255, 255, 255, 255, 255, 255, 255, 255, 255, 255, 255, 255, 255, 255, 255, 255, 255, 255].toArray⟩), step_move (.tmp 3) (by kernel_rfl) (wanted_some 12 66 true (by kernel_rfl) (by kernel_rfl) (by kernel_rfl) (by kernel_rfl)) (stable_val _) (knows_old 3 (.string ⟨[255, 255, 255, 255, 255, 255, 255, 255, 255, 255, 255, 255, 255, 255, 255, 255, 255, 255, 255, 255, 255, 255, 255, 255, 255].toArray⟩) (by kernel_rfl) e3), ?_⟩
  refine ⟨isVal (.int .i64 0), step_call 19 #[.tmp 67, .const (.int .i64 1)] #[9, 3] #[.string ⟨[255, 255, 255, 255, 255, 255, 255, 255, 255, 255, 255, 255, 255, 255, 255, 255, 255, 255, 255, 255, 255, 255, 255, 255, 255].toArray⟩, .int .i64 1] (by kernel_rfl) (wanted_some 12 66 true (by kernel_rfl) (by kernel_rfl) (by kernel_rfl) (by kernel_rfl)) (stable_val _) (args2 (.tmp 67) (.const (.int .i64 1)) (.string ⟨[255, 255, 255, 255, 255, 255, 255, 255, 255, 255, 255, 255, 255, 255, 255, 255, 255, 255, 255, 255, 255, 255, 255, 255, 255].toArray⟩) (.int .i64 1) (knows_new (V := isVal (.string ⟨[255, 255, 255, 255, 255, 255, 255, 255, 255, 255, 255, 255, 255, 255, 255, 255, 255, 255, 255, 255, 255, 255, 255, 255, 255].toArray⟩)) 67 13 (by kernel_rfl) (by kernel_rfl) (by kernel_rfl)) (knows_const _)) (enters_of Tryz.func19 (by kernel_rfl) rfl) (by intro w hb; exact f_bad0 w), ?_⟩
  refine ⟨isVal (.bool true), step_bin .eql 3 3 (.tmp 68) (.const (.int .i64 0)) (.int .i64 0) (.int .i64 0) (.bool true) (by kernel_rfl) (wanted_some 12 66 true (by kernel_rfl) (by kernel_rfl) (by kernel_rfl) (by kernel_rfl)) (knows_new (V := isVal (.int .i64 0)) 68 14 (by kernel_rfl) (by kernel_rfl) (by kernel_rfl)) (knows_const _) (fun _ => rfl) (eql_int _ _ _ _ _ (by decide)), ?_⟩
  refine ⟨isVal (.bool true), step_pick (.tmp 66) (.tmp 69) (.const (.bool false)) true (by kernel_rfl) (wanted_none (by kernel_rfl)) (stable_val _) (knows_new (V := isVal (.bool true)) 66 12 (by kernel_rfl) (by kernel_rfl) (by kernel_rfl)) (knows_new (V := isVal (.bool true)) 69 15 (by kernel_rfl) (by kernel_rfl) (by kernel_rfl)), ?_⟩
  refine ⟨isVal (.bool true), step_move (.tmp 70) (by kernel_rfl) (wanted_none (by kernel_rfl)) (stable_val _) (knows_new (V := isVal (.bool true)) 70 16 (by kernel_rfl) (by kernel_rfl) (by kernel_rfl)), ?_⟩
  refine ⟨isVal (.int .i64 0), step_move (.tmp 5) (by kernel_rfl) (wanted_some 17 71 true (by kernel_rfl) (by kernel_rfl) (by kernel_rfl) (by kernel_rfl)) (stable_val _) (knows_old 5 (.int .i64 0) (by kernel_rfl) e5), ?_⟩
  refine ⟨isVal (.bool true), step_bin .eql 33 33 (.tmp 72) (.const (.int .i64 0)) (.int .i64 0) (.int .i64 0) (.bool true) (by kernel_rfl) (wanted_some 17 71 true (by kernel_rfl) (by kernel_rfl) (by kernel_rfl) (by kernel_rfl)) (knows_new (V := isVal (.int .i64 0)) 72 18 (by kernel_rfl) (by kernel_rfl) (by kernel_rfl)) (knows_const _) (fun _ => rfl) (eql_int _ _ _ _ _ (by decide)), ?_⟩
  refine ⟨isVal (.bool true), step_pick (.tmp 71) (.tmp 73) (.const (.bool false)) true (by kernel_rfl) (wanted_none (by kernel_rfl)) (stable_val _) (knows_new (V := isVal (.bool true)) 71 17 (by kernel_rfl) (by kernel_rfl) (by kernel_rfl)) (knows_new (V := isVal (.bool true)) 73 19 (by kernel_rfl) (by kernel_rfl) (by kernel_rfl)), ?_⟩
  refine ⟨isVal (.bool true), step_move (.tmp 74) (by kernel_rfl) (wanted_none (by kernel_rfl)) (stable_val _) (knows_new (V := isVal (.bool true)) 74 20 (by kernel_rfl) (by kernel_rfl) (by kernel_rfl)), ?_⟩
  refine ⟨isVal (.int .i64 0), step_move (.tmp 7) (by kernel_rfl) (wanted_some 21 75 true (by kernel_rfl) (by kernel_rfl) (by kernel_rfl) (by kernel_rfl)) (stable_val _) (knows_old 7 (.int .i64 0) (by kernel_rfl) e7), ?_⟩
  refine ⟨isVal (.bool true), step_bin .eql 33 33 (.tmp 76) (.const (.int .i64 0)) (.int .i64 0) (.int .i64 0) (.bool true) (by kernel_rfl) (wanted_some 21 75 true (by kernel_rfl) (by kernel_rfl) (by kernel_rfl) (by kernel_rfl)) (knows_new (V := isVal (.int .i64 0)) 76 22 (by kernel_rfl) (by kernel_rfl) (by kernel_rfl)) (knows_const _) (fun _ => rfl) (eql_int _ _ _ _ _ (by decide)), ?_⟩
  refine ⟨isVal (.bool true), step_pick (.tmp 75) (.tmp 77) (.const (.bool false)) true (by kernel_rfl) (wanted_none (by kernel_rfl)) (stable_val _) (knows_new (V := isVal (.bool true)) 75 21 (by kernel_rfl) (by kernel_rfl) (by kernel_rfl)) (knows_new (V := isVal (.bool true)) 77 23 (by kernel_rfl) (by kernel_rfl) (by kernel_rfl)), ?_⟩
  refine ⟨isVal (.bool true), step_move (.tmp 78) (by kernel_rfl) (wanted_none (by kernel_rfl)) (stable_val _) (knows_new (V := isVal (.bool true)) 78 24 (by kernel_rfl) (by kernel_rfl) (by kernel_rfl)), ?_⟩
  refine ⟨isVal (.int .i64 4), step_move (.tmp 9) (by kernel_rfl) (wanted_some 25 79 true (by kernel_rfl) (by kernel_rfl) (by kernel_rfl) (by kernel_rfl)) (stable_val _) (knows_old 9 (.int .i64 4) (by kernel_rfl) e9), ?_⟩
  refine ⟨isVal (.bool true), step_bin .eql 33 33 (.tmp 80) (.const (.int .i64 4)) (.int .i64 4) (.int .i64 4) (.bool true) (by kernel_rfl) (wanted_some 25 79 true (by kernel_rfl) (by kernel_rfl) (by kernel_rfl) (by kernel_rfl)) (knows_new (V := isVal (.int .i64 4)) 80 26 (by kernel_rfl) (by kernel_rfl) (by kernel_rfl)) (knows_const _) (fun _ => rfl) (eql_int _ _ _ _ _ (by decide)), ?_⟩
  refine ⟨isVal (.bool true), step_pick (.tmp 79) (.tmp 81) (.const (.bool false)) true (by kernel_rfl) (wanted_none (by kernel_rfl)) (stable_val _) (knows_new (V := isVal (.bool true)) 79 25 (by kernel_rfl) (by kernel_rfl) (by kernel_rfl)) (knows_new (V := isVal (.bool true)) 81 27 (by kernel_rfl) (by kernel_rfl) (by kernel_rfl)), ?_⟩
  refine ⟨isVal (.bool true), step_move (.tmp 82) (by kernel_rfl) (wanted_none (by kernel_rfl)) (stable_val _) (knows_new (V := isVal (.bool true)) 82 28 (by kernel_rfl) (by kernel_rfl) (by kernel_rfl)), ?_⟩
  refine ⟨isVal (.int .i64 1), step_move (.tmp 11) (by kernel_rfl) (wanted_some 29 83 true (by kernel_rfl) (by kernel_rfl) (by kernel_rfl) (by kernel_rfl)) (stable_val _) (knows_old 11 (.int .i64 1) (by kernel_rfl) e11), ?_⟩
  refine ⟨isVal (.bool true), step_bin .eql 33 33 (.tmp 84) (.const (.int .i64 1)) (.int .i64 1) (.int .i64 1) (.bool true) (by kernel_rfl) (wanted_some 29 83 true (by kernel_rfl) (by kernel_rfl) (by kernel_rfl) (by kernel_rfl)) (knows_new (V := isVal (.int .i64 1)) 84 30 (by kernel_rfl) (by kernel_rfl) (by kernel_rfl)) (knows_const _) (fun _ => rfl) (eql_int _ _ _ _ _ (by decide)), ?_⟩
  refine ⟨isVal (.bool true), step_pick (.tmp 83) (.tmp 85) (.const (.bool false)) true (by kernel_rfl) (wanted_none (by kernel_rfl)) (stable_val _) (knows_new (V := isVal (.bool true)) 83 29 (by kernel_rfl) (by kernel_rfl) (by kernel_rfl)) (knows_new (V := isVal (.bool true)) 85 31 (by kernel_rfl) (by kernel_rfl) (by kernel_rfl)), ?_⟩
  refine ⟨isVal (.bool true), step_move (.tmp 86) (by kernel_rfl) (wanted_none (by kernel_rfl)) (stable_val _) (knows_new (V := isVal (.bool true)) 86 32 (by kernel_rfl) (by kernel_rfl) (by kernel_rfl)), ?_⟩
  refine ⟨isVal v12, step_move (.tmp 12) (by kernel_rfl) (wanted_some 33 87 true (by kernel_rfl) (by kernel_rfl) (by kernel_rfl) (by kernel_rfl)) (stable_val _) (knows_old 12 v12 (by kernel_rfl) e12), ?_⟩
  refine ⟨isCells [strC [120], strC [121]], step_strs2 26 9 [120] [121] istr (by kernel_rfl) (wanted_some 33 87 true (by kernel_rfl) (by kernel_rfl) (by kernel_rfl) (by kernel_rfl)) Tryz.underlying26 histr hzstr hsstr, ?_⟩
  refine ⟨isVal (.bool true), step_callP 12 #[.tmp 88, .tmp 89] #[26, 26] (by kernel_rfl) (wanted_some 33 87 true (by kernel_rfl) (by kernel_rfl) (by kernel_rfl) (by kernel_rfl)) (stable_val _) (enters_of Tryz.func12 (by kernel_rfl) rfl) (fun vs w => ∃ u v, vs = #[u, v] ∧ isVal v12 u w ∧ isCells [strC [120], strC [121]] v w) (pre2 (knows_new (V := isVal v12) 88 34 (by kernel_rfl) (by kernel_rfl) (by kernel_rfl)) (knows_new (V := (isCells [strC [120], strC [121]])) 89 35 (by kernel_rfl) (by kernel_rfl) (by kernel_rfl))) (by rintro vs w hb ⟨u, v, rfl, hu, hv⟩; exact f_texts v12 u v w hu (stable_cells _ _ _ _ h12 hb) hv), ?_⟩
  refine ⟨isVal (.bool true), step_pick (.tmp 87) (.tmp 90) (.const (.bool false)) true (by kernel_rfl) (wanted_none (by kernel_rfl)) (stable_val _) (knows_new (V := isVal (.bool true)) 87 33 (by kernel_rfl) (by kernel_rfl) (by kernel_rfl)) (knows_new (V := isVal (.bool true)) 90 36 (by kernel_rfl) (by kernel_rfl) (by kernel_rfl)), ?_⟩
  refine ⟨isVal (.bool true), step_move (.tmp 91) (by kernel_rfl) (wanted_none (by kernel_rfl)) (stable_val _) (knows_new (V := isVal (.bool true)) 91 37 (by kernel_rfl) (by kernel_rfl) (by kernel_rfl)), ?_⟩
  refine ⟨isVal (.pointer (some ⟨gc, 0, none⟩)), step_field 31 (.tmp 6) 0 ⟨gc, 0, none⟩ ⟨gc, 0, none⟩ (by kernel_rfl) (wanted_some 38 92 true (by kernel_rfl) (by kernel_rfl) (by kernel_rfl) (by kernel_rfl)) (knows_old 6 (.pointer (some ⟨gc, 0, none⟩)) (by kernel_rfl) e6) (field_fl gc 0 (by omega)), ?_⟩
  refine ⟨isVal (.slice (some ⟨bc, oc, none⟩) 1 cc), step_read 26 (.tmp 93) ⟨gc, 0, none⟩ (.slice (some ⟨bc, oc, none⟩) 1 cc) (by kernel_rfl) (wanted_some 38 92 true (by kernel_rfl) (by kernel_rfl) (by kernel_rfl) (by kernel_rfl)) (knows_new (V := isVal (.pointer (some ⟨gc, 0, none⟩))) 93 39 (by kernel_rfl) (by kernel_rfl) (by kernel_rfl)) Cc.2.1 Cc.1 agg_strs, ?_⟩
  refine ⟨isVal (.pointer (some ⟨bc, oc + 0, none⟩)), step_place 26 9 (.tmp 94) (.const (.int .i64 0)) bc oc 1 cc 0 (by kernel_rfl) (wanted_some 38 92 true (by kernel_rfl) (by kernel_rfl) (by kernel_rfl) (by kernel_rfl)) (knows_new (V := isVal (.slice (some ⟨bc, oc, none⟩) 1 cc)) 94 40 (by kernel_rfl) (by kernel_rfl) (by kernel_rfl)) (knows_const _) Tryz.underlying26 (by kernel_rfl) (by decide), ?_⟩
  refine ⟨isVal (.string ⟨[120, 131, 22, 220, 140, 135, 124, 233, 35, 115, 121, 21, 38, 219, 251, 134, 234, 217, 36, 4, 255, 255, 255, 255, 255].toArray⟩), step_read 9 (.tmp 95) ⟨bc, oc + 0, none⟩ (.string ⟨[120, 131, 22, 220, 140, 135, 124, 233, 35, 115, 121, 21, 38, 219, 251, 134, 234, 217, 36, 4, 255, 255, 255, 255, 255].toArray⟩) (by kernel_rfl) (wanted_some 38 92 true (by kernel_rfl) (by kernel_rfl) (by kernel_rfl) (by kernel_rfl)) (knows_new (V := isVal (.pointer (some ⟨bc, oc + 0, none⟩))) 95 41 (by kernel_rfl) (by kernel_rfl) (by kernel_rfl)) (Pc 0 _ rfl) lbc agg_str, ?_⟩
  refine ⟨isVal (.int .i64 2), step_call 20 #[.tmp 96, .const (.int .i64 1)] #[9, 3] #[.string ⟨[120, 131, 22, 220, 140, 135, 124, 233, 35, 115, 121, 21, 38, 219, 251, 134, 234, 217, 36, 4, 255, 255, 255, 255, 255].toArray⟩, .int .i64 1] (by kernel_rfl) (wanted_some 38 92 true (by kernel_rfl) (by kernel_rfl) (by kernel_rfl) (by kernel_rfl)) (stable_val _) (args2 (.tmp 96) (.const (.int .i64 1)) (.string ⟨[120, 131, 22, 220, 140, 135, 124, 233, 35, 115, 121, 21, 38, 219, 251, 134, 234, 217, 36, 4, 255, 255, 255, 255, 255].toArray⟩) (.int .i64 1) (knows_new (V := isVal (.string ⟨[120, 131, 22, 220, 140, 135, 124, 233, 35, 115, 121, 21, 38, 219, 251, 134, 234, 217, 36, 4, 255, 255, 255, 255, 255].toArray⟩)) 96 42 (by kernel_rfl) (by kernel_rfl) (by kernel_rfl)) (knows_const _)) (enters_of Tryz.func20 (by kernel_rfl) rfl) (by intro w hb; exact f_next2 w), ?_⟩
  refine ⟨isVal (.bool true), step_bin .eql 3 3 (.tmp 97) (.const (.int .i64 2)) (.int .i64 2) (.int .i64 2) (.bool true) (by kernel_rfl) (wanted_some 38 92 true (by kernel_rfl) (by kernel_rfl) (by kernel_rfl) (by kernel_rfl)) (knows_new (V := isVal (.int .i64 2)) 97 43 (by kernel_rfl) (by kernel_rfl) (by kernel_rfl)) (knows_const _) (fun _ => rfl) (eql_int _ _ _ _ _ (by decide)), ?_⟩
  refine ⟨isVal (.bool true), step_pick (.tmp 92) (.tmp 98) (.const (.bool false)) true (by kernel_rfl) (wanted_none (by kernel_rfl)) (stable_val _) (knows_new (V := isVal (.bool true)) 92 38 (by kernel_rfl) (by kernel_rfl) (by kernel_rfl)) (knows_new (V := isVal (.bool true)) 98 44 (by kernel_rfl) (by kernel_rfl) (by kernel_rfl)), ?_⟩
  refine ⟨isVal (.bool true), step_move (.tmp 99) (by kernel_rfl) (wanted_none (by kernel_rfl)) (stable_val _) (knows_new (V := isVal (.bool true)) 99 45 (by kernel_rfl) (by kernel_rfl) (by kernel_rfl)), ?_⟩
  refine ⟨isVal (.pointer (some ⟨gc, 0, none⟩)), step_field 31 (.tmp 6) 0 ⟨gc, 0, none⟩ ⟨gc, 0, none⟩ (by kernel_rfl) (wanted_some 46 100 true (by kernel_rfl) (by kernel_rfl) (by kernel_rfl) (by kernel_rfl)) (knows_old 6 (.pointer (some ⟨gc, 0, none⟩)) (by kernel_rfl) e6) (field_fl gc 0 (by omega)), ?_⟩
  refine ⟨isVal (.slice (some ⟨bc, oc, none⟩) 1 cc), step_read 26 (.tmp 101) ⟨gc, 0, none⟩ (.slice (some ⟨bc, oc, none⟩) 1 cc) (by kernel_rfl) (wanted_some 46 100 true (by kernel_rfl) (by kernel_rfl) (by kernel_rfl) (by kernel_rfl)) (knows_new (V := isVal (.pointer (some ⟨gc, 0, none⟩))) 101 47 (by kernel_rfl) (by kernel_rfl) (by kernel_rfl)) Cc.2.1 Cc.1 agg_strs, ?_⟩
  refine ⟨isVal (.pointer (some ⟨bc, oc + 0, none⟩)), step_place 26 9 (.tmp 102) (.const (.int .i64 0)) bc oc 1 cc 0 (by kernel_rfl) (wanted_some 46 100 true (by kernel_rfl) (by kernel_rfl) (by kernel_rfl) (by kernel_rfl)) (knows_new (V := isVal (.slice (some ⟨bc, oc, none⟩) 1 cc)) 102 48 (by kernel_rfl) (by kernel_rfl) (by kernel_rfl)) (knows_const _) Tryz.underlying26 (by kernel_rfl) (by decide), ?_⟩
  refine ⟨isVal (.string ⟨[120, 131, 22, 220, 140, 135, 124, 233, 35, 115, 121, 21, 38, 219, 251, 134, 234, 217, 36, 4, 255, 255, 255, 255, 255].toArray⟩), step_read 9 (.tmp 103) ⟨bc, oc + 0, none⟩ (.string ⟨[120, 131, 22, 220, 140, 135, 124, 233, 35, 115, 121, 21, 38, 219, 251, 134, 234, 217, 36, 4, 255, 255, 255, 255, 255].toArray⟩) (by kernel_rfl) (wanted_some 46 100 true (by kernel_rfl) (by kernel_rfl) (by kernel_rfl) (by kernel_rfl)) (knows_new (V := isVal (.pointer (some ⟨bc, oc + 0, none⟩))) 103 49 (by kernel_rfl) (by kernel_rfl) (by kernel_rfl)) (Pc 0 _ rfl) lbc agg_str, ?_⟩
  refine ⟨isVal (.string ⟨[121, 21, 38, 219, 251, 134, 234, 217, 36, 4].toArray⟩), step_call 18 #[.tmp 104, .const (.int .i64 1), .const (.int .i64 1)] #[9, 3, 3] #[.string ⟨[120, 131, 22, 220, 140, 135, 124, 233, 35, 115, 121, 21, 38, 219, 251, 134, 234, 217, 36, 4, 255, 255, 255, 255, 255].toArray⟩, .int .i64 1, .int .i64 1] (by kernel_rfl) (wanted_some 46 100 true (by kernel_rfl) (by kernel_rfl) (by kernel_rfl) (by kernel_rfl)) (stable_val _) (args3 (.tmp 104) (.const (.int .i64 1)) (.const (.int .i64 1)) (.string ⟨[120, 131, 22, 220, 140, 135, 124, 233, 35, 115, 121, 21, 38, 219, 251, 134, 234, 217, 36, 4, 255, 255, 255, 255, 255].toArray⟩) (.int .i64 1) (.int .i64 1) (knows_new (V := isVal (.string ⟨[120, 131, 22, 220, 140, 135, 124, 233, 35, 115, 121, 21, 38, 219, 251, 134, 234, 217, 36, 4, 255, 255, 255, 255, 255].toArray⟩)) 104 50 (by kernel_rfl) (by kernel_rfl) (by kernel_rfl)) (knows_const _) (knows_const _)) (enters_of Tryz.func18 (by kernel_rfl) rfl) (by intro w hb; exact f_slot1 w), ?_⟩
  refine ⟨isVal (.string ⟨[121, 21, 38, 219, 251, 134, 234, 217, 36, 4].toArray⟩), step_call 32 #[.const (.string ⟨[121].toArray⟩)] #[9] #[.string ⟨[121].toArray⟩] (by kernel_rfl) (wanted_some 46 100 true (by kernel_rfl) (by kernel_rfl) (by kernel_rfl) (by kernel_rfl)) (stable_val _) (args1 (.const (.string ⟨[121].toArray⟩)) (.string ⟨[121].toArray⟩) (knows_const _)) (enters_of Tryz.func32 (by kernel_rfl) rfl) (by intro w hb; exact f_make w), ?_⟩
  refine ⟨isVal (.bool true), step_bin .eql 9 9 (.tmp 105) (.tmp 106) (.string ⟨[121, 21, 38, 219, 251, 134, 234, 217, 36, 4].toArray⟩) (.string ⟨[121, 21, 38, 219, 251, 134, 234, 217, 36, 4].toArray⟩) (.bool true) (by kernel_rfl) (wanted_some 46 100 true (by kernel_rfl) (by kernel_rfl) (by kernel_rfl) (by kernel_rfl)) (knows_new (V := isVal (.string ⟨[121, 21, 38, 219, 251, 134, 234, 217, 36, 4].toArray⟩)) 105 51 (by kernel_rfl) (by kernel_rfl) (by kernel_rfl)) (knows_new (V := isVal (.string ⟨[121, 21, 38, 219, 251, 134, 234, 217, 36, 4].toArray⟩)) 106 52 (by kernel_rfl) (by kernel_rfl) (by kernel_rfl)) (fun _ => rfl) (eql_str _ _ _ _ (by decide)), ?_⟩
  refine ⟨isVal (.bool true), step_pick (.tmp 100) (.tmp 107) (.const (.bool false)) true (by kernel_rfl) (wanted_none (by kernel_rfl)) (stable_val _) (knows_new (V := isVal (.bool true)) 100 46 (by kernel_rfl) (by kernel_rfl) (by kernel_rfl)) (knows_new (V := isVal (.bool true)) 107 53 (by kernel_rfl) (by kernel_rfl) (by kernel_rfl)), ?_⟩
  refine ⟨isVal (.bool true), step_move (.tmp 108) (by kernel_rfl) (wanted_none (by kernel_rfl)) (stable_val _) (knows_new (V := isVal (.bool true)) 108 54 (by kernel_rfl) (by kernel_rfl) (by kernel_rfl)), ?_⟩
  refine ⟨isVal (.string ⟨[255, 255, 255, 255, 255, 255, 255, 255, 255, 255, 255, 255, 255, 255, 255, 255, 255, 255, 255, 255, 255, 255, 255, 255, 255].toArray⟩), step_move (.tmp 3) (by kernel_rfl) (wanted_some 55 109 true (by kernel_rfl) (by kernel_rfl) (by kernel_rfl) (by kernel_rfl)) (stable_val _) (knows_old 3 (.string ⟨[255, 255, 255, 255, 255, 255, 255, 255, 255, 255, 255, 255, 255, 255, 255, 255, 255, 255, 255, 255, 255, 255, 255, 255, 255].toArray⟩) (by kernel_rfl) e3), ?_⟩
  refine ⟨isVal (.string ⟨[].toArray⟩), step_call 18 #[.tmp 110, .const (.int .i64 1), .const (.int .i64 2)] #[9, 3, 3] #[.string ⟨[255, 255, 255, 255, 255, 255, 255, 255, 255, 255, 255, 255, 255, 255, 255, 255, 255, 255, 255, 255, 255, 255, 255, 255, 255].toArray⟩, .int .i64 1, .int .i64 2] (by kernel_rfl) (wanted_some 55 109 true (by kernel_rfl) (by kernel_rfl) (by kernel_rfl) (by kernel_rfl)) (stable_val _) (args3 (.tmp 110) (.const (.int .i64 1)) (.const (.int .i64 2)) (.string ⟨[255, 255, 255, 255, 255, 255, 255, 255, 255, 255, 255, 255, 255, 255, 255, 255, 255, 255, 255, 255, 255, 255, 255, 255, 255].toArray⟩) (.int .i64 1) (.int .i64 2) (knows_new (V := isVal (.string ⟨[255, 255, 255, 255, 255, 255, 255, 255, 255, 255, 255, 255, 255, 255, 255, 255, 255, 255, 255, 255, 255, 255, 255, 255, 255].toArray⟩)) 110 56 (by kernel_rfl) (by kernel_rfl) (by kernel_rfl)) (knows_const _) (knows_const _)) (enters_of Tryz.func18 (by kernel_rfl) rfl) (by intro w hb; exact f_slot2 w), ?_⟩
  refine ⟨isVal (.bool true), step_bin .eql 9 9 (.tmp 111) (.const (.string ⟨[].toArray⟩)) (.string ⟨[].toArray⟩) (.string ⟨[].toArray⟩) (.bool true) (by kernel_rfl) (wanted_some 55 109 true (by kernel_rfl) (by kernel_rfl) (by kernel_rfl) (by kernel_rfl)) (knows_new (V := isVal (.string ⟨[].toArray⟩)) 111 57 (by kernel_rfl) (by kernel_rfl) (by kernel_rfl)) (knows_const _) (fun _ => rfl) (eql_str _ _ _ _ (by decide)), ?_⟩
  refine ⟨isVal (.bool true), step_pick (.tmp 109) (.tmp 112) (.const (.bool false)) true (by kernel_rfl) (wanted_none (by kernel_rfl)) (stable_val _) (knows_new (V := isVal (.bool true)) 109 55 (by kernel_rfl) (by kernel_rfl) (by kernel_rfl)) (knows_new (V := isVal (.bool true)) 112 58 (by kernel_rfl) (by kernel_rfl) (by kernel_rfl)), ?_⟩
  refine ⟨isVal (.bool true), step_move (.tmp 113) (by kernel_rfl) (wanted_none (by kernel_rfl)) (stable_val _) (knows_new (V := isVal (.bool true)) 113 59 (by kernel_rfl) (by kernel_rfl) (by kernel_rfl)), ?_⟩
  refine ⟨isVal (.string ⟨[255, 255, 255, 255, 255, 255, 255, 255, 255, 255, 255, 255, 255, 255, 255, 255, 255, 255, 255, 255, 255, 255, 255, 255, 255].toArray⟩), step_move (.tmp 3) (by kernel_rfl) (wanted_some 60 114 true (by kernel_rfl) (by kernel_rfl) (by kernel_rfl) (by kernel_rfl)) (stable_val _) (knows_old 3 (.string ⟨[255, 255, 255, 255, 255, 255, 255, 255, 255, 255, 255, 255, 255, 255, 255, 255, 255, 255, 255, 255, 255, 255, 255, 255, 255].toArray⟩) (by kernel_rfl) e3), ?_⟩
  refine ⟨isVal (.string ⟨([255, 255, 255, 255, 255, 255, 255, 255, 255, 255, 255, 255, 255, 255, 255, 255, 255, 255, 255, 255, 255, 255, 255, 255, 255].take 5).toArray⟩), step_head 9 (.tmp 115) (.const (.int .i64 5)) [255, 255, 255, 255, 255, 255, 255, 255, 255, 255, 255, 255, 255, 255, 255, 255, 255, 255, 255, 255, 255, 255, 255, 255, 255] 5 (by kernel_rfl) (wanted_some 60 114 true (by kernel_rfl) (by kernel_rfl) (by kernel_rfl) (by kernel_rfl)) (knows_new (V := isVal (.string ⟨[255, 255, 255, 255, 255, 255, 255, 255, 255, 255, 255, 255, 255, 255, 255, 255, 255, 255, 255, 255, 255, 255, 255, 255, 255].toArray⟩)) 115 61 (by kernel_rfl) (by kernel_rfl) (by kernel_rfl)) (knows_const _) (head_str [255, 255, 255, 255, 255, 255, 255, 255, 255, 255, 255, 255, 255, 255, 255, 255, 255, 255, 255, 255, 255, 255, 255, 255, 255] 5 (by decide)), ?_⟩
  refine ⟨isVal (.string ⟨wCat5.toArray⟩), step_bin .add 9 9 (.tmp 116) (.const (.string ⟨[97, 98, 99, 100, 101].toArray⟩)) (.string ⟨([255, 255, 255, 255, 255, 255, 255, 255, 255, 255, 255, 255, 255, 255, 255, 255, 255, 255, 255, 255, 255, 255, 255, 255, 255].take 5).toArray⟩) (.string ⟨[97, 98, 99, 100, 101].toArray⟩) (.string ⟨wCat5.toArray⟩) (by kernel_rfl) (wanted_some 60 114 true (by kernel_rfl) (by kernel_rfl) (by kernel_rfl) (by kernel_rfl)) (knows_new (V := isVal (.string ⟨([255, 255, 255, 255, 255, 255, 255, 255, 255, 255, 255, 255, 255, 255, 255, 255, 255, 255, 255, 255, 255, 255, 255, 255, 255].take 5).toArray⟩)) 116 62 (by kernel_rfl) (by kernel_rfl) (by kernel_rfl)) (knows_const _) (fun _ => rfl) (fun W => run_string_add_lists W (wO.take 5) [97, 98, 99, 100, 101] (by decide) (by decide)), ?_⟩
  refine ⟨isVal (.string ⟨[255, 255, 255, 255, 255, 255, 255, 255, 255, 255, 255, 255, 255, 255, 255, 255, 255, 255, 255, 255, 255, 255, 255, 255, 255].toArray⟩), step_move (.tmp 3) (by kernel_rfl) (wanted_some 60 114 true (by kernel_rfl) (by kernel_rfl) (by kernel_rfl) (by kernel_rfl)) (stable_val _) (knows_old 3 (.string ⟨[255, 255, 255, 255, 255, 255, 255, 255, 255, 255, 255, 255, 255, 255, 255, 255, 255, 255, 255, 255, 255, 255, 255, 255, 255].toArray⟩) (by kernel_rfl) e3), ?_⟩
  refine ⟨isVal (.string ⟨([255, 255, 255, 255, 255, 255, 255, 255, 255, 255, 255, 255, 255, 255, 255, 255, 255, 255, 255, 255, 255, 255, 255, 255, 255].drop 10).toArray⟩), step_rest 9 (.tmp 118) (.const (.int .i64 10)) [255, 255, 255, 255, 255, 255, 255, 255, 255, 255, 255, 255, 255, 255, 255, 255, 255, 255, 255, 255, 255, 255, 255, 255, 255] 10 (by kernel_rfl) (wanted_some 60 114 true (by kernel_rfl) (by kernel_rfl) (by kernel_rfl) (by kernel_rfl)) (knows_new (V := isVal (.string ⟨[255, 255, 255, 255, 255, 255, 255, 255, 255, 255, 255, 255, 255, 255, 255, 255, 255, 255, 255, 255, 255, 255, 255, 255, 255].toArray⟩)) 118 64 (by kernel_rfl) (by kernel_rfl) (by kernel_rfl)) (knows_const _) (rest_str [255, 255, 255, 255, 255, 255, 255, 255, 255, 255, 255, 255, 255, 255, 255, 255, 255, 255, 255, 255, 255, 255, 255, 255, 255] 10 (by decide)), ?_⟩
  refine ⟨isVal (.string ⟨wCat.toArray⟩), step_bin .add 9 9 (.tmp 117) (.tmp 119) (.string ⟨wCat5.toArray⟩) (.string ⟨([255, 255, 255, 255, 255, 255, 255, 255, 255, 255, 255, 255, 255, 255, 255, 255, 255, 255, 255, 255, 255, 255, 255, 255, 255].drop 10).toArray⟩) (.string ⟨wCat.toArray⟩) (by kernel_rfl) (wanted_some 60 114 true (by kernel_rfl) (by kernel_rfl) (by kernel_rfl) (by kernel_rfl)) (knows_new (V := isVal (.string ⟨wCat5.toArray⟩)) 117 63 (by kernel_rfl) (by kernel_rfl) (by kernel_rfl)) (knows_new (V := isVal (.string ⟨([255, 255, 255, 255, 255, 255, 255, 255, 255, 255, 255, 255, 255, 255, 255, 255, 255, 255, 255, 255, 255, 255, 255, 255, 255].drop 10).toArray⟩)) 119 65 (by kernel_rfl) (by kernel_rfl) (by kernel_rfl)) (fun _ => rfl) (fun W => run_string_add_lists W wCat5 (wO.drop 10) (by decide) (by decide)), ?_⟩
  refine ⟨isVal (.int .i64 1), step_call 19 #[.tmp 120, .const (.int .i64 1)] #[9, 3] #[.string ⟨wCat.toArray⟩, .int .i64 1] (by kernel_rfl) (wanted_some 60 114 true (by kernel_rfl) (by kernel_rfl) (by kernel_rfl) (by kernel_rfl)) (stable_val _) (args2 (.tmp 120) (.const (.int .i64 1)) (.string ⟨wCat.toArray⟩) (.int .i64 1) (knows_new (V := isVal (.string ⟨wCat.toArray⟩)) 120 66 (by kernel_rfl) (by kernel_rfl) (by kernel_rfl)) (knows_const _)) (enters_of Tryz.func19 (by kernel_rfl) rfl) (by intro w hb; exact f_bad1 w), ?_⟩
  refine ⟨isVal (.bool true), step_bin .eql 3 3 (.tmp 121) (.const (.int .i64 1)) (.int .i64 1) (.int .i64 1) (.bool true) (by kernel_rfl) (wanted_some 60 114 true (by kernel_rfl) (by kernel_rfl) (by kernel_rfl) (by kernel_rfl)) (knows_new (V := isVal (.int .i64 1)) 121 67 (by kernel_rfl) (by kernel_rfl) (by kernel_rfl)) (knows_const _) (fun _ => rfl) (eql_int _ _ _ _ _ (by decide)), ?_⟩
  refine ⟨isVal (.bool true), step_pick (.tmp 114) (.tmp 122) (.const (.bool false)) true (by kernel_rfl) (wanted_none (by kernel_rfl)) (stable_val _) (knows_new (V := isVal (.bool true)) 114 60 (by kernel_rfl) (by kernel_rfl) (by kernel_rfl)) (knows_new (V := isVal (.bool true)) 122 68 (by kernel_rfl) (by kernel_rfl) (by kernel_rfl)), ?_⟩
  refine ⟨isVal (.bool true), step_assign (.tmp 123) (by kernel_rfl) (wanted_none (by kernel_rfl)) (stable_val _) (knows_new (V := isVal (.bool true)) 123 69 (by kernel_rfl) (by kernel_rfl) (by kernel_rfl)), ?_⟩
  intro a w hkp hb hd
  exact hQ a w hkp.1 (fdone_of (hd 70 (by rw [show worksOps.size = 71 by kernel_rfl]; decide)) (t := 0) (V := isVal (.bool true)) (by kernel_rfl) (by kernel_rfl)) hb

set_option maxRecDepth 100000 in
set_option maxHeartbeats 4000000 in
theorem works_any (w : World) : Calls Tryz.prog 9 #[] w fun e w' => e = .returned (.bool true) ∧ Below w.heap.size w w' := by
  have hB : Kept (Below w.heap.size w w) := ⟨Below.refl _ _⟩
  go_enter Tryz.func9, Tryz.ntmps9
  go_wp2_with fail
  ((with_reducible refine (c_new _).mono ?_); rintro e U ⟨v', rfl, hf', hb1⟩)
  obtain ⟨vp', vw', rfl, hp', hq'⟩ := hf'.fl
  have o1 := hp'.one
  have o2 := hq'.one
  obtain ⟨K1, K2, K3, K4⟩ := var_new U dv1 vp' vw' hp' hq'
  clear hp' hq' hf'
  replace hB := Kept.mk (hB.out.trans ((hb1).mono hB.out.size))
  clear hb1
  go_wp2_with (refine wpList_store5 rfl (.tmp 1) (.tmp 15) rfl U.heap.size vp' vw' (.int .i64 dv1.fuse) (strC dv1.torn) (.bool dv1.dead) rfl rfl K1.out K2.out o1 o2 rfl rfl rfl ?_; replace hB := Kept.mk (hB.out.trans ((K3.out).mono hB.out.size)); have Va := K4; clear K1 K2 K3 K4 o1 o2; generalize set5 (U.alloc (.cells #[.slice none 0 0, .slice none 0 0, .int .i64 0, .string ⟨#[]⟩, .bool false] 31)) U.heap.size vp' vw' (.int .i64 dv1.fuse) (strC dv1.torn) (.bool dv1.dead) = W1 at *; generalize U.heap.size = ga at *; obtain ⟨ba, oa, ca, da, qa, sa, Ca, fla, lba, lda, Pa, Ra⟩ := Va.out.rows (n := 1) (m := 1) rfl rfl (by decide) (by decide); have kap := Pa 0 _ rfl; obtain ⟨_, ka0, ka1, ka2, ka3, ka4⟩ := Ca; rw [Nat.add_zero] at kap; clear Pa Ra lba lda)
  ((with_reducible refine (c_app1 _ _ fla).mono ?_); rintro e U ⟨v', rfl, hf', hb1⟩)
  obtain ⟨vp', vw', rfl, hp', hq'⟩ := hf'.fl
  have o1 := hp'.one
  have o2 := hq'.one
  obtain ⟨K1, K2, K3, K4⟩ := var_new U dv2 vp' vw' hp' hq'
  clear hp' hq' hf'
  replace hB := Kept.mk (hB.out.trans ((hb1).mono hB.out.size))
  replace Va := Kept.mk (Va.out.keep (hb1))
  clear hb1
  go_wp2_with (refine wpList_store5 rfl (.tmp 4) (.tmp 28) rfl U.heap.size vp' vw' (.int .i64 dv2.fuse) (strC dv2.torn) (.bool dv2.dead) rfl rfl K1.out K2.out o1 o2 rfl rfl rfl ?_; replace hB := Kept.mk (hB.out.trans ((K3.out).mono hB.out.size)); replace Va := Kept.mk (Va.out.keep (K3.out)); have Vb := K4; clear K1 K2 K3 K4 o1 o2; generalize set5 (U.alloc (.cells #[.slice none 0 0, .slice none 0 0, .int .i64 0, .string ⟨#[]⟩, .bool false] 31)) U.heap.size vp' vw' (.int .i64 dv2.fuse) (strC dv2.torn) (.bool dv2.dead) = W2 at *; generalize U.heap.size = gb at *; obtain ⟨vpb, vwb, flb, kb0, kb1, kb2, kb3, kb4⟩ := Vb.out.open_; clear kap ka0 ka1 ka2 ka3 ka4 fla)
  ((with_reducible refine (c_app2 _ _ flb).mono ?_); rintro e U ⟨v', rfl, hf', hb1⟩)
  obtain ⟨vp', vw', rfl, hp', hq'⟩ := hf'.fl
  have o1 := hp'.one
  have o2 := hq'.one
  obtain ⟨K1, K2, K3, K4⟩ := var_new U dv3 vp' vw' hp' hq'
  clear hp' hq' hf'
  clear kb0 kb1 kb2 kb3 kb4 flb
  replace hB := Kept.mk (hB.out.trans ((hb1).mono hB.out.size))
  replace Va := Kept.mk (Va.out.keep (hb1))
  replace Vb := Kept.mk (Vb.out.keep (hb1))
  clear hb1
  go_wp2_with (refine wpList_store5 rfl (.tmp 6) (.tmp 33) rfl U.heap.size vp' vw' (.int .i64 dv3.fuse) (strC dv3.torn) (.bool dv3.dead) rfl rfl K1.out K2.out o1 o2 rfl rfl rfl ?_; replace hB := Kept.mk (hB.out.trans ((K3.out).mono hB.out.size)); replace Va := Kept.mk (Va.out.keep (K3.out)); replace Vb := Kept.mk (Vb.out.keep (K3.out)); have Vc := K4; clear K1 K2 K3 K4 o1 o2; generalize set5 (U.alloc (.cells #[.slice none 0 0, .slice none 0 0, .int .i64 0, .string ⟨#[]⟩, .bool false] 31)) U.heap.size vp' vw' (.int .i64 dv3.fuse) (strC dv3.torn) (.bool dv3.dead) = W3 at *; generalize U.heap.size = gc at *; obtain ⟨vpc, vwc, flc, kc0, kc1, kc2, kc3, kc4⟩ := Vc.out.open_)
  ((with_reducible refine (c_app3 _ _ flc).mono ?_); rintro e U ⟨v', rfl, hf', hb1⟩)
  obtain ⟨vp', vw', rfl, hp', hq'⟩ := hf'.fl
  have o1 := hp'.one
  have o2 := hq'.one
  obtain ⟨K1, K2, K3, K4⟩ := var_new U dv3 vp' vw' hp' hq'
  clear hp' hq' hf'
  clear kc0 kc1 kc2 kc3 kc4 flc
  replace hB := Kept.mk (hB.out.trans ((hb1).mono hB.out.size))
  replace Va := Kept.mk (Va.out.keep (hb1))
  replace Vb := Kept.mk (Vb.out.keep (hb1))
  replace Vc := Kept.mk (Vc.out.keep (hb1))
  clear hb1
  go_wp2_with (refine wpList_store5 rfl (.tmp 8) (.tmp 38) rfl U.heap.size vp' vw' (.int .i64 dv3.fuse) (strC dv3.torn) (.bool dv3.dead) rfl rfl K1.out K2.out o1 o2 rfl rfl rfl ?_; replace hB := Kept.mk (hB.out.trans ((K3.out).mono hB.out.size)); replace Va := Kept.mk (Va.out.keep (K3.out)); replace Vb := Kept.mk (Vb.out.keep (K3.out)); replace Vc := Kept.mk (Vc.out.keep (K3.out)); have Vd := K4; clear K1 K2 K3 K4 o1 o2; generalize set5 (U.alloc (.cells #[.slice none 0 0, .slice none 0 0, .int .i64 0, .string ⟨#[]⟩, .bool false] 31)) U.heap.size vp' vw' (.int .i64 dv3.fuse) (strC dv3.torn) (.bool dv3.dead) = W4 at *; generalize U.heap.size = gd at *; obtain ⟨vpc, vwc, flc, kc0, kc1, kc2, kc3, kc4⟩ := Vc.out.open_)
  ((with_reducible refine (c_app4 _ _ flc).mono ?_); rintro e U ⟨v', rfl, hf', hb1⟩)
  obtain ⟨vp', vw', rfl, hp', hq'⟩ := hf'.fl
  have o1 := hp'.one
  have o2 := hq'.one
  obtain ⟨K1, K2, K3, K4⟩ := var_new U dv3 vp' vw' hp' hq'
  clear hp' hq' hf'
  clear kc0 kc1 kc2 kc3 kc4 flc
  replace hB := Kept.mk (hB.out.trans ((hb1).mono hB.out.size))
  replace Va := Kept.mk (Va.out.keep (hb1))
  replace Vb := Kept.mk (Vb.out.keep (hb1))
  replace Vc := Kept.mk (Vc.out.keep (hb1))
  replace Vd := Kept.mk (Vd.out.keep (hb1))
  clear hb1
  go_wp2_with (refine wpList_store5 rfl (.tmp 10) (.tmp 43) rfl U.heap.size vp' vw' (.int .i64 dv3.fuse) (strC dv3.torn) (.bool dv3.dead) rfl rfl K1.out K2.out o1 o2 rfl rfl rfl ?_; replace hB := Kept.mk (hB.out.trans ((K3.out).mono hB.out.size)); replace Va := Kept.mk (Va.out.keep (K3.out)); replace Vb := Kept.mk (Vb.out.keep (K3.out)); replace Vc := Kept.mk (Vc.out.keep (K3.out)); replace Vd := Kept.mk (Vd.out.keep (K3.out)); have Ve := K4; clear K1 K2 K3 K4 o1 o2; generalize set5 (U.alloc (.cells #[.slice none 0 0, .slice none 0 0, .int .i64 0, .string ⟨#[]⟩, .bool false] 31)) U.heap.size vp' vw' (.int .i64 dv3.fuse) (strC dv3.torn) (.bool dv3.dead) = W5 at *; generalize U.heap.size = ge at *; obtain ⟨bc, oc, cc, dc, qc, sc, Cc, flc, lbc, ldc, Pc, Rc⟩ := Vc.out.rows (n := 1) (m := 1) rfl rfl (by decide) (by decide); have kcp := Pc 0 _ rfl; obtain ⟨_, kc0, kc1, kc2, kc3, kc4⟩ := Cc; rw [Nat.add_zero] at kcp; clear Pc Rc lbc ldc)
  ((with_reducible refine (c_recs _).mono ?_); rintro e W9 ⟨v12, rfl, hr, hb1⟩)
  clear kcp kc0 kc1 kc2 kc3 kc4 flc
  replace hB := Kept.mk (hB.out.trans ((hb1).mono hB.out.size))
  replace Va := Kept.mk (Va.out.keep (hb1))
  replace Vb := Kept.mk (Vb.out.keep (hb1))
  replace Vc := Kept.mk (Vc.out.keep (hb1))
  replace Vd := Kept.mk (Vd.out.keep (hb1))
  replace Ve := Kept.mk (Ve.out.keep (hb1))
  have HR := Kept.mk hr
  clear hb1 hr
  go_wp2_with fail
  obtain ⟨bc, oc, cc, dc, qc, sc, Cc, Lc, lbc, ldc, Pc, Rc⟩ := Vc.out.rows (n := 1) (m := 1) rfl rfl (by decide) (by decide)
  refine works_region _ _ _ rfl _ _ _ _ _ _ _ v12 HR.out rfl rfl rfl rfl rfl rfl rfl rfl Cc lbc Pc ?_
  intro a w5 hd h0 hb5
  have hB2 := hB.out.trans (hb5.mono hB.out.size)
  go_wp2
  refine bodyPost_ret (results_tmp rfl a.tmps Tryz.prog w5) hd ⟨?_, hB2⟩
  rw [h0]
end Go.Proofs.YtipiioggdalkoaaGreatDoor
end
section
namespace Go.Proofs.YtipiioggdalkoaaGreatDoor
set_option linter.unusedVariables false
set_option linter.unusedSimpArgs false

theorem tcnt_succ (p : Nat → Bool) (r : Nat) : tcnt p (List.range (r + 1)) = tcnt p (List.range r) + (if p r = true then 1 else 0) := by
  simp only [tcnt, List.range_succ, List.filter_append, List.length_append, List.filter_cons, List.filter_nil]
  split <;> simp
theorem tend_succ (p : Nat → Bool) (r : Nat) : tend p (List.range (r + 1)) = if p r = true then r + 1 else tend p (List.range r) := by
  simp [tend, List.range_succ]
/-- From there on none is such; the one ahead of it is. -/
theorem tend_spec (p : Nat → Bool) : ∀ r, (∀ j, tend p (List.range r) ≤ j → j < r → p j = false) ∧ (0 < tend p (List.range r) → p (tend p (List.range r) - 1) = true)
  | 0 => ⟨fun j _ h => by omega, fun h => by simp [tend] at h⟩
  | r + 1 => by
    obtain ⟨h1, h2⟩ := tend_spec p r
    rw [tend_succ]
    cases hp : p r with
    | true => exact ⟨fun j a b => by simp at a; omega, fun _ => by simpa using hp⟩
    | false =>
      simp only [Bool.false_eq_true, if_false]
      refine ⟨fun j a b => ?_, h2⟩
      by_cases e : j = r
      · subst e; exact hp
      · exact h1 j a (by omega)
theorem rec_not_clear {t : List UInt8} (h : isRec t = true) : clearL t = false := by
  rcases readE_cases t with ⟨h0, h1⟩ | ⟨h0, _⟩
  · rw [← h1]; exact clearL_rec _
  · simp [isRec, h0] at h
theorem recOf_len (t : List UInt8) : (recOf t).length = if isRec t = true then 1 else 0 := by
  unfold recOf isRec
  by_cases h : readE t = 0 <;> simp [h]
theorem recsOf_succ (s : List UInt8) (n : Int) (r : Nat) : recsOf s n (List.range (r + 1)) = recsOf s n (List.range r) ++ recOf (slotL s n r) := by simp [recsOf, List.range_succ]
/-- Each place is one of three. -/
theorem three_kinds (s : List UInt8) (n : Int) : ∀ r, tcnt (fun i => clearL (slotL s n i)) (List.range r) + tcnt (fun i => badP (slotL s n i)) (List.range r) + (recsOf s n (List.range r)).length = r
  | 0 => by simp [tcnt, recsOf]
  | r + 1 => by
    have ih := three_kinds s n r
    rw [tcnt_succ, tcnt_succ, recsOf_succ, List.length_append, recOf_len]
    cases hr : isRec (slotL s n r) with
    | true =>
      have hc := rec_not_clear hr
      have hb : badP (slotL s n r) = false := by simp [badP, hr]
      rw [hc, hb]
      simp only [Bool.false_eq_true, if_false, if_true]
      omega
    | false =>
      cases hc : clearL (slotL s n r) with
      | true =>
        have hb : badP (slotL s n r) = false := by simp [badP, hc]
        rw [hb]
        simp only [Bool.false_eq_true, if_false, if_true]
        omega
      | false =>
        have hb : badP (slotL s n r) = true := by simp [badP, hc, hr]
        rw [hb]
        simp only [Bool.false_eq_true, if_false, if_true]
        omega
theorem nextN_le (s : List UInt8) (n : Int) : nextN s n ≤ roomN s n := tend_le _ _
theorem next_clear (s : List UInt8) (n : Int) {j : Nat} (h1 : nextN s n ≤ j) (h2 : j < roomN s n) : clearL (slotL s n j) = true := by
  have := (tend_spec (fun i => nextP (slotL s n i)) (roomN s n)).1 j h1 h2
  simpa [nextP] using this
theorem next_before (s : List UInt8) (n : Int) (h : 0 < nextN s n) : clearL (slotL s n (nextN s n - 1)) = false := by
  have := (tend_spec (fun i => nextP (slotL s n i)) (roomN s n)).2 h
  have h2 : nextP (slotL s n (nextN s n - 1)) = true := this
  unfold nextP at h2
  simpa using h2
end Go.Proofs.YtipiioggdalkoaaGreatDoor
end
section
namespace Go.Proofs.YtipiioggdalkoaaGreatDoor
set_option linter.unusedVariables false
set_option linter.unusedSimpArgs false

theorem erase_liveP {D : Fl} {k : Nat} (h : hasB D (k : Int) = true) (hd : D.dead = false) (hz : D.fuse ≠ 0) :
    eraseE D k = 0 ∧ eraseF D k = { D with pages := D.pages.set k (List.replicate (D.pages.getD k []).length 255), wear := D.wear.set k (wornN (D.wear.getD k 0)), fuse := if 0 < D.fuse then D.fuse - 1 else D.fuse } := by
  constructor
  · unfold eraseE; simp [h, hd, hz]
  · unfold eraseF; simp only [h, hd, Int.toNat_natCast]; rw [if_neg (by simp), if_neg (by simp), if_neg hz]
theorem erase_tornP {D : Fl} {k : Nat} (h : hasB D (k : Int) = true) (hd : D.dead = false) (hz : D.fuse = 0) :
    eraseE D k = 8 ∧ eraseF D k = { D with pages := D.pages.set k (betweenL (D.pages.getD k []) (List.replicate (D.pages.getD k []).length 255) D.torn), dead := true } := by
  constructor
  · unfold eraseE; simp [h, hd, hz]
  · unfold eraseF; simp only [h, hd, Int.toNat_natCast]; rw [if_neg (by simp), if_neg (by simp), if_pos hz]
theorem wake_mayP {F : Fl} {fuse : Int} {torn : List UInt8} (ht : torn.length ≤ 64) (h : mayB F = true) : mayB { F with fuse := fuse, torn := torn, dead := false } = true := by
  simp only [mayB, Bool.and_eq_true, decide_eq_true_eq] at h ⊢
  refine ⟨h.1, ?_⟩
  first | omega | exact_mod_cast ht
theorem pair_len (f : UInt8 → UInt8 → UInt8) : ∀ a b : List UInt8, (pairL f a b).length = a.length
  | [], _ => rfl
  | x :: r, [] => rfl
  | x :: r, y :: q => by simp [pairL, pair_len f r q]
theorem pair_drop (f : UInt8 → UInt8 → UInt8) : ∀ (k : Nat) (a b : List UInt8), a.length = b.length → (pairL f a b).drop k = pairL f (a.drop k) (b.drop k)
  | 0, _, _, _ => rfl
  | k + 1, [], [], _ => rfl
  | k + 1, x :: r, y :: q, h => by simp [pairL, pair_drop f k r q (by simpa using h)]
theorem pair_take (f : UInt8 → UInt8 → UInt8) : ∀ (k : Nat) (a b : List UInt8), a.length = b.length → (pairL f a b).take k = pairL f (a.take k) (b.take k)
  | 0, _, _, _ => rfl
  | k + 1, [], [], _ => rfl
  | k + 1, x :: r, y :: q, h => by simp [pairL, pair_take f k r q (by simpa using h)]
theorem or_byte (x m : UInt8) : x ^^^ ((x ^^^ 255) &&& m) = x ||| m := by
  apply byte_ext
  intro i hi
  have h1 : (255 : UInt8).toBitVec.getLsbD i = true := by
    have : ∀ j : Fin 8, (255 : UInt8).toBitVec.getLsbD j.val = true := by decide
    exact this ⟨i, hi⟩
  simp only [UInt8.toBitVec_and, UInt8.toBitVec_xor, UInt8.toBitVec_or, BitVec.getLsbD_and, BitVec.getLsbD_xor, BitVec.getLsbD_or, h1]
  cases x.toBitVec.getLsbD i <;> cases m.toBitVec.getLsbD i <;> rfl
theorem erased_part : ∀ p m : List UInt8, m.length = p.length → pairL (· ^^^ ·) p (pairL (· &&& ·) (pairL (· ^^^ ·) p (List.replicate p.length 255)) m) = pairL (· ||| ·) p m
  | [], [], _ => rfl
  | x :: p, y :: m, h => by
    have ih := erased_part p m (by simpa using h)
    simp only [List.length_cons, List.replicate_succ, pairL]
    rw [ih, or_byte]
theorem length_between (was would torn : List UInt8) : (betweenL was would torn).length = was.length := by unfold betweenL; rw [pair_len]
theorem slot_erased (p t : List UInt8) (n : Int) (j : Nat) : ∃ some : List UInt8, slotL (betweenL p (List.replicate p.length 255) t) n j = pairL (· ||| ·) (slotL p n j) some := by
  have hl : (maskL t p.length).length = p.length := length_maskL _ _
  refine ⟨((maskL t p.length).drop (j * szN n)).take (szN n), ?_⟩
  unfold slotL betweenL
  rw [erased_part p _ hl, pair_drop _ _ _ _ hl.symm, pair_take _ _ _ _ (by simp [hl])]
theorem erased_same (p t : List UInt8) (n : Int) (j : Nat) (h1 : readE (slotL (betweenL p (List.replicate p.length 255) t) n j) = 0) (h2 : readE (slotL p n j) = 0) : readS (slotL (betweenL p (List.replicate p.length 255) t) n j) = readS (slotL p n j) := by
  obtain ⟨some, hs⟩ := slot_erased p t n j
  rcases readE_cases (slotL p n j) with ⟨_, hu⟩ | ⟨h, _⟩
  · rw [hs, ← hu] at h1
    have := part_reads _ some h1
    rw [hs, ← hu, this, readS_rec]
  · rw [h2] at h; cases h
theorem roomN_len_eq {s t : List UInt8} (h : s.length = t.length) (n : Int) : roomN s n = roomN t n := by unfold roomN; rw [h]
theorem slot_ones (L : Nat) (n : Int) (j : Nat) : ∃ z, slotL (List.replicate L 255) n j = List.replicate z 255 := ⟨min (szN n) (L - j * szN n), by simp [slotL, List.drop_replicate, List.take_replicate]⟩
theorem ones_next (L : Nat) (n : Int) : nextN (List.replicate L 255) n = 0 := by
  unfold nextN
  generalize roomN (List.replicate L 255) n = r
  induction r with
  | zero => simp [tend]
  | succ r ih =>
    rw [tend_succ]
    obtain ⟨z, hz⟩ := slot_ones L n r
    have h : nextP (List.replicate z 255) = false := by simp [nextP, clearL_ones]
    rw [hz, h]
    simpa using ih
theorem ones_bad (L : Nat) (n : Int) : badN (List.replicate L 255) n = 0 := by
  unfold badN
  generalize roomN (List.replicate L 255) n = r
  induction r with
  | zero => simp [tcnt]
  | succ r ih =>
    rw [tcnt_succ]
    obtain ⟨z, hz⟩ := slot_ones L n r
    have h : badP (List.replicate z 255) = false := by simp [badP, clearL_ones]
    rw [hz, h]
    simpa using ih
theorem ones_recs (L : Nat) (n : Int) : recordsL (List.replicate L 255) n = [] := by
  unfold recordsL
  generalize roomN (List.replicate L 255) n = r
  induction r with
  | zero => simp [recsOf]
  | succ r ih =>
    rw [recsOf_succ, ih]
    obtain ⟨z, hz⟩ := slot_ones L n r
    rw [hz]
    simp [recOf, readE_ones]
end Go.Proofs.YtipiioggdalkoaaGreatDoor
end
section
namespace Go.Proofs.YtipiioggdalkoaaGreatDoor
set_option linter.unusedVariables false
set_option linter.unusedSimpArgs false

theorem clear_no_rec {t : List UInt8} (h : clearL t = true) : recOf t = [] := by
  have hr : isRec t = false := by
    cases hr : isRec t with
    | true => rw [rec_not_clear hr] at h; cases h
    | false => rfl
  have hl := recOf_len t
  rw [hr] at hl
  exact List.eq_nil_of_length_eq_zero (by simpa using hl)
theorem recs_same (s q : List UInt8) (n : Int) : ∀ r, (∀ j, j < r → slotL q n j = slotL s n j) → recsOf q n (List.range r) = recsOf s n (List.range r)
  | 0, _ => rfl
  | r + 1, h => by rw [recsOf_succ, recsOf_succ, recs_same s q n r (fun j hj => h j (by omega)), h r (by omega)]
theorem recs_cut (s : List UInt8) (n : Int) (i : Nat) : ∀ r, i ≤ r → (∀ j, i ≤ j → j < r → clearL (slotL s n j) = true) → recsOf s n (List.range r) = recsOf s n (List.range i)
  | 0, h, _ => by rw [show i = 0 by omega]
  | r + 1, h, hc => by
    by_cases e : i = r + 1
    · rw [e]
    · rw [recsOf_succ, recs_cut s n i r (by omega) (fun j a b => hc j a (by omega)), clear_no_rec (hc r (by omega) (by omega)), List.append_nil]
theorem cnt_same (p q : Nat → Bool) : ∀ r, (∀ j, j < r → q j = p j) → tcnt q (List.range r) = tcnt p (List.range r)
  | 0, _ => rfl
  | r + 1, h => by rw [tcnt_succ, tcnt_succ, cnt_same p q r (fun j hj => h j (by omega)), h r (by omega)]
theorem cnt_cut (p : Nat → Bool) (i : Nat) : ∀ r, i ≤ r → (∀ j, i ≤ j → j < r → p j = false) → tcnt p (List.range r) = tcnt p (List.range i)
  | 0, h, _ => by rw [show i = 0 by omega]
  | r + 1, h, hc => by
    by_cases e : i = r + 1
    · rw [e]
    · rw [tcnt_succ, cnt_cut p i r (by omega) (fun j a b => hc j a (by omega)), hc r (by omega) (by omega)]
      simp
theorem end_same (p q : Nat → Bool) : ∀ r, (∀ j, j < r → q j = p j) → tend q (List.range r) = tend p (List.range r)
  | 0, _ => rfl
  | r + 1, h => by rw [tend_succ, tend_succ, end_same p q r (fun j hj => h j (by omega)), h r (by omega)]
theorem end_cut (p : Nat → Bool) (i : Nat) : ∀ r, i ≤ r → (∀ j, i ≤ j → j < r → p j = false) → tend p (List.range r) = tend p (List.range i)
  | 0, h, _ => by rw [show i = 0 by omega]
  | r + 1, h, hc => by
    by_cases e : i = r + 1
    · rw [e]
    · rw [tend_succ, end_cut p i r (by omega) (fun j a b => hc j a (by omega)), hc r (by omega) (by omega)]
      simp
/-- One place of a page is another: what that does to the records, the bad ones, and Next. -/
theorem places (p q : List UInt8) (n : Int) (i : Nat) (hl : q.length = p.length) (hi : nextN p n = i) (hr : i < roomN p n) (ho : ∀ j, j ≠ i → j < roomN p n → slotL q n j = slotL p n j) :
    recordsL q n = recordsL p n ++ recOf (slotL q n i) ∧ badN q n = badN p n + (if badP (slotL q n i) = true then 1 else 0) ∧ nextN q n = if nextP (slotL q n i) = true then i + 1 else i := by
  have hc : ∀ j, i ≤ j → j < roomN p n → clearL (slotL p n j) = true := fun j a b => next_clear p n (by omega) b
  have hcq : ∀ j, i + 1 ≤ j → j < roomN p n → clearL (slotL q n j) = true := fun j a b => by rw [ho j (by omega) b]; exact hc j (by omega) b
  have hrq : roomN q n = roomN p n := roomN_len_eq hl n
  have hs : ∀ j, j < i → slotL q n j = slotL p n j := fun j h => ho j (by omega) (by omega)
  refine ⟨?_, ?_, ?_⟩
  · unfold recordsL
    rw [hrq, recs_cut q n (i + 1) _ (by omega) hcq, recsOf_succ, recs_same p q n i hs, recs_cut p n i _ (by omega) hc]
  · unfold badN
    rw [hrq, cnt_cut (fun j => badP (slotL q n j)) (i + 1) _ (by omega) (fun j a b => by simp [badP, hcq j a b]), tcnt_succ, cnt_same (fun j => badP (slotL p n j)) (fun j => badP (slotL q n j)) i (fun j h => by simp only [hs j h]),
      cnt_cut (fun j => badP (slotL p n j)) i (roomN p n) (by omega) (fun j a b => by simp [badP, hc j a b])]
  · have h1 : nextN p n = tend (fun j => nextP (slotL p n j)) (List.range i) := by
      unfold nextN
      exact end_cut (fun j => nextP (slotL p n j)) i _ (by omega) (fun j a b => by simp [nextP, hc j a b])
    unfold nextN
    rw [hrq, end_cut (fun j => nextP (slotL q n j)) (i + 1) _ (by omega) (fun j a b => by simp [nextP, hcq j a b]), tend_succ, end_same (fun j => nextP (slotL p n j)) (fun j => nextP (slotL q n j)) i (fun j h => by simp only [hs j h]), ← h1, hi]

theorem pair_out (f : UInt8 → UInt8 → UInt8) : ∀ (a b : List UInt8) (x : Nat), b.length ≤ x → (pairL f a b)[x]? = a[x]?
  | [], _, _, _ => rfl
  | u :: r, [], _, _ => rfl
  | u :: r, v :: q, 0, h => by simp at h
  | u :: r, v :: q, x + 1, h => by simp only [pairL, List.getElem?_cons_succ]; exact pair_out f r q x (by simpa using h)
theorem pair_cutS (f : UInt8 → UInt8 → UInt8) : ∀ (a b : List UInt8) (z : Nat), b.length ≤ z → (pairL f a b).take z = pairL f (a.take z) b
  | [], _, _, _ => by simp [pairL]
  | u :: r, [], z, _ => by rw [pairL_nil, pairL_nil]
  | u :: r, v :: q, 0, h => by simp at h
  | u :: r, v :: q, z + 1, h => by simp only [pairL, List.take_succ_cons]; rw [pair_cutS f r q z (by simpa using h)]
theorem pair_get (f : UInt8 → UInt8 → UInt8) : ∀ (a b : List UInt8) (x : Nat), a.length = b.length → (pairL f a b)[x]? = (a[x]?).bind fun u => (b[x]?).map (f u)
  | [], _, _, _ => by simp [pairL]
  | u :: r, [], _, h => by simp at h
  | u :: r, v :: q, 0, h => by simp [pairL]
  | u :: r, v :: q, x + 1, h => by simp only [pairL, List.getElem?_cons_succ]; exact pair_get f r q x (by simpa using h)
theorem prog_out (p s : List UInt8) (k y : Nat) (hk : k + s.length ≤ p.length) (h : y < k ∨ k + s.length ≤ y) : (progL p k s)[y]? = p[y]? := by
  unfold progL
  have hl : (p.take k).length = k := by simp; omega
  rcases h with h | h
  · rw [List.getElem?_append_left (by omega), List.getElem?_take_of_lt h]
  · rw [List.getElem?_append_right (by omega), hl, pair_out _ _ _ _ (by omega), List.getElem?_drop, show k + (y - k) = y by omega]
theorem xor_same (u m : UInt8) : u ^^^ ((u ^^^ u) &&& m) = u := by simp
theorem between_out (p q t : List UInt8) (y : Nat) (hl : q.length = p.length) (h : q[y]? = p[y]?) : (betweenL p q t)[y]? = p[y]? := by
  unfold betweenL
  have h1 : (pairL (· ^^^ ·) p q).length = p.length := length_pairL _ _ _
  have h2 : (maskL t p.length).length = p.length := length_maskL _ _
  rw [pair_get _ _ _ _ (by rw [length_pairL, h1]), pair_get _ _ _ _ (by rw [h1, h2]), pair_get _ _ _ _ hl.symm, h]
  cases hp : p[y]? with
  | none => rfl
  | some u =>
    have hy : y < p.length := (List.getElem?_eq_some_iff.1 hp).1
    have hm : (maskL t p.length)[y]? = some ((maskL t p.length)[y]'(by omega)) := List.getElem?_eq_getElem _
    rw [hm]
    simp
theorem slot_far (p q : List UInt8) (n : Int) (i j : Nat) (hj : j ≠ i) (h : ∀ y, y < i * szN n ∨ i * szN n + szN n ≤ y → q[y]? = p[y]?) : slotL q n j = slotL p n j := by
  apply List.ext_getElem?
  intro x
  unfold slotL
  rw [List.getElem?_take, List.getElem?_take]
  by_cases hx : x < szN n
  · rw [if_pos hx, if_pos hx, List.getElem?_drop, List.getElem?_drop]
    apply h
    rcases Nat.lt_or_gt_of_ne hj with e | e
    · left
      have := Nat.mul_le_mul_right (szN n) (show j + 1 ≤ i from e)
      rw [Nat.add_mul, Nat.one_mul] at this
      omega
    · right
      have := Nat.mul_le_mul_right (szN n) (show i + 1 ≤ j from e)
      rw [Nat.add_mul, Nat.one_mul] at this
      omega
  · rw [if_neg hx, if_neg hx]
theorem full_and (x : UInt8) : (255 : UInt8) &&& x = x := by
  apply byte_ext
  intro i hi
  have h1 : (255 : UInt8).toBitVec.getLsbD i = true := by
    have : ∀ j : Fin 8, (255 : UInt8).toBitVec.getLsbD j.val = true := by decide
    exact this ⟨i, hi⟩
  simp only [UInt8.toBitVec_and, BitVec.getLsbD_and, h1, Bool.true_and]
theorem ones_and : ∀ s : List UInt8, pairL (· &&& ·) (List.replicate s.length 255) s = s
  | [] => rfl
  | x :: s => by
    simp only [List.length_cons, List.replicate_succ, pairL]
    rw [ones_and s, full_and]
theorem torn_byte (r m : UInt8) : (255 : UInt8) ^^^ (((255 : UInt8) ^^^ r) &&& m) = r ||| ~~~m := by
  apply byte_ext
  intro i hi
  have h1 : (255 : UInt8).toBitVec.getLsbD i = true := by
    have : ∀ j : Fin 8, (255 : UInt8).toBitVec.getLsbD j.val = true := by decide
    exact this ⟨i, hi⟩
  simp only [UInt8.toBitVec_and, UInt8.toBitVec_xor, UInt8.toBitVec_or, UInt8.toBitVec_not, BitVec.getLsbD_and, BitVec.getLsbD_xor, BitVec.getLsbD_or, BitVec.getLsbD_not, h1, hi, decide_true, Bool.true_and]
  cases r.toBitVec.getLsbD i <;> cases m.toBitVec.getLsbD i <;> rfl
theorem torn_part : ∀ s m : List UInt8, m.length = s.length → ∃ some : List UInt8, pairL (· ^^^ ·) (List.replicate s.length 255) (pairL (· &&& ·) (pairL (· ^^^ ·) (List.replicate s.length 255) s) m) = pairL (· ||| ·) s some
  | [], [], _ => ⟨[], rfl⟩
  | x :: s, y :: m, h => by
    obtain ⟨some, ih⟩ := torn_part s m (by simpa using h)
    refine ⟨(~~~y) :: some, ?_⟩
    simp only [List.length_cons, List.replicate_succ, pairL]
    rw [ih, torn_byte]
theorem slot_near (p s : List UInt8) (n : Int) (i : Nat) (hs : s.length = szN n) (hk : i * szN n + szN n ≤ p.length) (hc : clearL (slotL p n i) = true) : slotL p n i = List.replicate s.length 255 ∧ slotL (progL p (i * szN n) s) n i = s := by
  have hz : (slotL p n i).length = s.length := by unfold slotL; simp; omega
  have h1 : slotL p n i = List.replicate s.length 255 := by
    rw [clear_iff, decide_eq_true_eq, hz] at hc
    exact hc
  refine ⟨h1, ?_⟩
  have hl : (p.take (i * szN n)).length = i * szN n := by simp; omega
  have h2 : slotL (progL p (i * szN n) s) n i = pairL (· &&& ·) (slotL p n i) s := by
    unfold slotL progL
    rw [List.drop_append_of_le_length (by omega), List.drop_of_length_le (by omega), List.nil_append, pair_cutS _ _ _ _ (by omega)]
  rw [h2, h1, ones_and]
theorem szN_rec (pl : List UInt8) (h : pl.length ≤ 1000) : (recL pl).length = szN (lenI pl) := by
  rw [length_recL]
  unfold szN sizeN lenI
  split <;> omega
/-- An append that was done. -/
theorem keep_math (p pl : List UInt8) (h : pl.length ≤ 1000) (hr : nextN p (lenI pl) < roomN p (lenI pl)) :
    recordsL (progL p (nextN p (lenI pl) * szN (lenI pl)) (recL pl)) (lenI pl) = recordsL p (lenI pl) ++ [pl] ∧ badN (progL p (nextN p (lenI pl) * szN (lenI pl)) (recL pl)) (lenI pl) = badN p (lenI pl)
      ∧ nextN (progL p (nextN p (lenI pl) * szN (lenI pl)) (recL pl)) (lenI pl) = nextN p (lenI pl) + 1 := by
  have hz := szN_rec pl h
  have hc := next_clear p (lenI pl) (Nat.le_refl _) hr
  obtain ⟨i, hi⟩ : ∃ i, nextN p (lenI pl) = i := ⟨_, rfl⟩
  rw [hi] at hr hc ⊢
  have hk : i * szN (lenI pl) + szN (lenI pl) ≤ p.length := by
    have h1 := roomN_le p (lenI pl)
    have h2 := Nat.mul_le_mul_right (szN (lenI pl)) (show i + 1 ≤ roomN p (lenI pl) from hr)
    rw [Nat.add_mul, Nat.one_mul] at h2
    omega
  have hn := (slot_near p (recL pl) (lenI pl) i hz hk hc).2
  have hp := places p (progL p (i * szN (lenI pl)) (recL pl)) (lenI pl) i (length_progL _ _ _) hi hr (fun j a b => slot_far p _ _ i j a (fun y hy => prog_out p _ _ y (by omega) (by rw [hz]; exact hy)))
  rw [hn] at hp
  have e1 : recOf (recL pl) = [pl] := by unfold recOf; rw [readE_rec, readS_rec]; rfl
  have e2 : badP (recL pl) = false := by simp [badP, isRec, readE_rec]
  have e3 : nextP (recL pl) = true := by simp [nextP, clearL_rec]
  rw [e1, e2, e3] at hp
  simpa using hp
/-- One that was not. -/
theorem dies_math (p pl t : List UInt8) (h : pl.length ≤ 1000) (hr : nextN p (lenI pl) < roomN p (lenI pl)) :
    (recordsL (betweenL p (progL p (nextN p (lenI pl) * szN (lenI pl)) (recL pl)) t) (lenI pl) = recordsL p (lenI pl) ∨ recordsL (betweenL p (progL p (nextN p (lenI pl) * szN (lenI pl)) (recL pl)) t) (lenI pl) = recordsL p (lenI pl) ++ [pl])
      ∧ badN (betweenL p (progL p (nextN p (lenI pl) * szN (lenI pl)) (recL pl)) t) (lenI pl) ≤ badN p (lenI pl) + 1
      ∧ (nextN (betweenL p (progL p (nextN p (lenI pl) * szN (lenI pl)) (recL pl)) t) (lenI pl) = nextN p (lenI pl) ∨ nextN (betweenL p (progL p (nextN p (lenI pl) * szN (lenI pl)) (recL pl)) t) (lenI pl) = nextN p (lenI pl) + 1) := by
  have hz := szN_rec pl h
  have hc := next_clear p (lenI pl) (Nat.le_refl _) hr
  obtain ⟨i, hi⟩ : ∃ i, nextN p (lenI pl) = i := ⟨_, rfl⟩
  rw [hi] at hr hc ⊢
  have hk : i * szN (lenI pl) + szN (lenI pl) ≤ p.length := by
    have h1 := roomN_le p (lenI pl)
    have h2 := Nat.mul_le_mul_right (szN (lenI pl)) (show i + 1 ≤ roomN p (lenI pl) from hr)
    rw [Nat.add_mul, Nat.one_mul] at h2
    omega
  obtain ⟨hn1, hn2⟩ := slot_near p (recL pl) (lenI pl) i hz hk hc
  obtain ⟨q, hq⟩ : ∃ q, progL p (i * szN (lenI pl)) (recL pl) = q := ⟨_, rfl⟩
  have hql : q.length = p.length := by rw [← hq]; exact length_progL _ _ _
  have hout : ∀ y, y < i * szN (lenI pl) ∨ i * szN (lenI pl) + szN (lenI pl) ≤ y → q[y]? = p[y]? := fun y hy => by rw [← hq]; exact prog_out p _ _ y (by omega) (by rw [hz]; exact hy)
  rw [hq] at hn2 ⊢
  have hp := places p (betweenL p q t) (lenI pl) i (length_between _ _ _) hi hr (fun j a b => slot_far p _ _ i j a (fun y hy => between_out p q t y hql (hout y hy)))
  have hml : (maskL t p.length).length = p.length := length_maskL _ _
  have hx : (pairL (· ^^^ ·) p q).length = p.length := length_pairL _ _ _
  obtain ⟨m, hm, hslot⟩ : ∃ m : List UInt8, m.length = (recL pl).length ∧ slotL (betweenL p q t) (lenI pl) i = pairL (· ^^^ ·) (slotL p (lenI pl) i) (pairL (· &&& ·) (pairL (· ^^^ ·) (slotL p (lenI pl) i) (slotL q (lenI pl) i)) m) := by
    refine ⟨((maskL t p.length).drop (i * szN (lenI pl))).take (szN (lenI pl)), by simp [hml]; omega, ?_⟩
    unfold slotL betweenL
    rw [pair_drop _ _ _ _ (by rw [length_pairL, hx]), pair_take _ _ _ _ (by simp [length_pairL, hx]), pair_drop _ _ _ _ (by rw [hx, hml]), pair_take _ _ _ _ (by simp [hx, hml]), pair_drop _ _ _ _ hql.symm, pair_take _ _ _ _ (by simp [hql])]
  obtain ⟨some, hs⟩ := torn_part (recL pl) m hm
  rw [hslot, hn1, hn2, hs] at hp
  obtain ⟨p1, p2, p3⟩ := hp
  refine ⟨?_, ?_, ?_⟩
  · rcases readE_cases (pairL (· ||| ·) (recL pl) some) with ⟨h0, _⟩ | ⟨h0, _⟩
    · right
      rw [p1, part_reads _ _ h0]
      unfold recOf
      rw [readE_rec, readS_rec]
      rfl
    · left
      rw [p1]
      unfold recOf
      rw [h0]
      simp
  · rw [p2]; split <;> omega
  · rw [p3]; split
    · exact .inr rfl
    · exact .inl rfl
end Go.Proofs.YtipiioggdalkoaaGreatDoor
end
section
namespace Go.Proofs.YtipiioggdalkoaaGreatDoor
open Go.RowKit Go.ChangeShapes Go.WideShapes
set_option linter.unusedVariables false
set_option linter.unusedSimpArgs false

theorem spot_none {w : World} {a : Addr} {v : Value} (h : w.cell? a = some v) : a = ⟨a.block, a.off, none⟩ := by
  obtain ⟨b, o, s⟩ := a
  cases s with
  | none => rfl
  | some s =>
    simp only [World.cell?] at h
    split at h <;> simp at h
theorem add_plain (b o i : Nat) : (⟨b, o, none⟩ : Addr).add i = ⟨b, o + i, none⟩ := by
  by_cases e : i = 0
  · subst e; simp [Addr.add]
  · simp [Addr.add, e]
/-- A row that came in. -/
theorem cells_came {w : World} {a : Addr} {len cap : Nat} (cs : List Value) (hl : cs.length = len) (hc : ∀ (i : Nat) (x : Value), cs[i]? = some x → w.cell? (a.add i) = some x) : isCells cs (.slice (some a) len cap) w := by
  cases cs with
  | nil => subst hl; exact .inr (.inl ⟨a, cap, rfl, rfl⟩)
  | cons x cs =>
    have h0 := hc 0 x rfl
    have e0 : a.add 0 = a := by simp [Addr.add]
    rw [e0] at h0
    have ha := spot_none h0
    rw [ha] at hc ⊢
    subst hl
    refine .inr (.inr ⟨a.block, a.off, cap, rfl, ?_, fun j y hy => ?_⟩)
    · simp only [World.cell?] at h0
      split at h0
      · rename_i h; exact (Array.getElem?_eq_some_iff.1 h).1
      · simp at h0
    · have := hc j y hy
      rwa [add_plain] at this

section
variable {W : World} {H : Type} {enc : TypeId × Value → H} {base : Nat} {spare : Nat → Bool} {held : Bool} {n : Nat}
theorem open_pages {v : Value} {y : DataW H × List MemPlace} (g : DataW.trod enc Tryz.prog W base spare held n 26 [v] = some y) :
    ∃ l : List (List UInt8), isCells (l.map strC) v W ∧ l.length ≤ maxLen ∧ (∀ s ∈ l, s.length ≤ maxLen) ∧ ((∀ m ∈ y.1.weights Tryz.prog 26, m ≤ reachBytes) → l.length * 16 ≤ reachBytes) := by
  have hby : Tryz.prog.bytesOf 9 = 16 := by kernel_rfl
  rcases open_strings Tryz.underlying26 Tryz.underlying9 (by kernel_rfl) g with ⟨hc, _⟩ | ⟨a, len, cap, ss, hc, _, hl, hm, hz, hx0, hcell, hs⟩
  · injection hc with hc _
    subst hc
    exact ⟨[], .inl ⟨rfl, rfl⟩, Nat.zero_le _, (fun s hs => by simp at hs), fun _ => Nat.zero_le _⟩
  · injection hc with hc _
    subst hc
    have hle : len ≤ ss.length := by rw [hz]; split <;> omega
    refine ⟨(ss.take len).map fun s => s.data.toList, cells_came _ (by simp; omega) (fun i x hx => ?_), by simp; omega, fun s h => ?_, fun hw => ?_⟩
    · have hi : i < len := by have := (List.getElem?_eq_some_iff.1 hx).1; simp at this; omega
      rw [hcell i (by omega)]
      rw [List.getElem?_map, List.getElem?_map, List.getElem?_take, if_pos hi, List.getElem?_eq_getElem (by omega : i < ss.length)] at hx
      simp only [Option.map_some, Option.some.injEq] at hx
      rw [← hx]
      have e : ss.getD i ByteArray.empty = ss[i]'(by omega) := by simp [List.getD_eq_getElem?_getD, show i < ss.length by omega]
      rw [e]
      show some (Value.string (ss[i]'(by omega))) = some (.string ⟨(ss[i]'(by omega)).data.toList.toArray⟩)
      rw [← str_eta]
    · obtain ⟨b, hb, rfl⟩ := List.mem_map.1 h
      have := hs b (List.mem_of_mem_take hb)
      simpa using this
    · subst hx0
      have := hw ((ss.take len).length * 16 + (ss.drop len).length * 16) (by simp only [DataW.weights, Tryz.underlying26, hby, strs, List.length_map]; rw [← Nat.add_mul]; exact List.mem_cons_self ..)
      simp only [List.length_map, List.length_take, List.length_drop] at this ⊢
      omega
theorem open_wear {v : Value} {y : DataW H × List MemPlace} (g : DataW.trod enc Tryz.prog W base spare held n 29 [v] = some y) :
    ∃ l : List Int, isCells (l.map intC) v W ∧ l.length ≤ maxLen ∧ (∀ x ∈ l, (Lit.int .i64 x).wf = true) ∧ ((∀ m ∈ y.1.weights Tryz.prog 29, m ≤ reachBytes) → l.length * 8 ≤ reachBytes) := by
  have hby : Tryz.prog.bytesOf 3 = 8 := by kernel_rfl
  rcases open_ints Tryz.underlying29 Tryz.underlying3 (by kernel_rfl) g with ⟨hc, _⟩ | ⟨a, len, cap, zs, hc, _, hl, hm, hz, hx0, hcell, hs⟩
  · injection hc with hc _
    subst hc
    exact ⟨[], .inl ⟨rfl, rfl⟩, Nat.zero_le _, (fun s hs => by simp at hs), fun _ => Nat.zero_le _⟩
  · injection hc with hc _
    subst hc
    have hle : len ≤ zs.length := by rw [hz]; split <;> omega
    refine ⟨zs.take len, cells_came _ (by simp; omega) (fun i x hx => ?_), by simp; omega, (fun s h => hs s (List.mem_of_mem_take h)), fun hw => ?_⟩
    case refine_2 =>
      subst hx0
      have := hw ((zs.take len).length * 8 + (zs.drop len).length * 8) (by simp only [DataW.weights, Tryz.underlying29, hby, lits, List.length_map]; rw [← Nat.add_mul]; exact List.mem_cons_self ..)
      simp only [List.length_take, List.length_drop] at this ⊢
      omega
    have hi : i < len := by have := (List.getElem?_eq_some_iff.1 hx).1; simp at this; omega
    rw [hcell i (by omega)]
    rw [List.getElem?_map, List.getElem?_take, if_pos hi, List.getElem?_eq_getElem (by omega : i < zs.length)] at hx
    simp only [Option.map_some, Option.some.injEq] at hx
    rw [← hx]
    simp [List.getD_eq_getElem?_getD, show i < zs.length by omega, intC]
end
theorem wf_i64 {x : Int} (h : (Lit.int .i64 x).wf = true) : -9223372036854775808 ≤ x ∧ x ≤ 9223372036854775807 := by
  unfold Lit.wf at h
  rw [Bool.and_eq_true] at h
  exact ⟨of_decide_eq_true h.1, of_decide_eq_true h.2⟩
/-- What a device that came in is. -/
structure Came (F : Fl) : Prop where
  fuse : (Lit.int .i64 F.fuse).wf = true
  torn : F.torn.length ≤ maxLen
  wear : ∀ x ∈ F.wear, (Lit.int .i64 x).wf = true
  pages : ∀ s ∈ F.pages, s.length ≤ maxLen
  nw : F.wear.length ≤ maxLen
  np : F.pages.length ≤ maxLen
set_option maxRecDepth 100000 in
theorem open_flash {W : World} {H : Type} {enc : TypeId × Value → H} {base b0 : Nat} {spare : Nat → Bool} {held : Bool} {v : Value} {d : DataW H} {p : List MemPlace} (hv : Value.okWide Tryz.prog W .any b0 31 v)
    (h : DataW.Trod enc Tryz.prog W base spare held 31 v d p) : ∃ F : Fl, isFl F v W ∧ Came F ∧ ((∀ m ∈ d.weights Tryz.prog 31, m ≤ reachBytes) → F.pages.length * 16 ≤ reachBytes ∧ F.wear.length * 8 ≤ reachBytes) := by
  obtain ⟨⟨l⟩, rfl, hsz⟩ := okWide_struct Tryz.underlying31 hv
  have hl : l.length = 5 := hsz.trans (by kernel_rfl)
  match l, hl with
  | [v0, v1, v2, v3, v4], _ =>
    obtain ⟨fuel, hf⟩ := h
    obtain ⟨xs, n, _, hxe, _, hxl, hg⟩ := DataW.trod_struct Tryz.underlying31 hf
    have at_ : ∀ i, i < 5 → ∃ y, xs[i]? = some y := fun i hi => ⟨_, List.getElem?_eq_getElem (by rw [hxl]; exact hi)⟩
    have c1 : Tryz.prog.cellsOf 26 = 1 := by kernel_rfl
    have c2 : Tryz.prog.cellsOf 29 = 1 := by kernel_rfl
    have c3 : Tryz.prog.cellsOf 3 = 1 := by kernel_rfl
    have c4 : Tryz.prog.cellsOf 9 = 1 := by kernel_rfl
    have c5 : Tryz.prog.cellsOf 4 = 1 := by kernel_rfl
    obtain ⟨y0, e0⟩ := at_ 0 (by decide)
    obtain ⟨y1, e1⟩ := at_ 1 (by decide)
    obtain ⟨y2, e2⟩ := at_ 2 (by decide)
    obtain ⟨y3, e3⟩ := at_ 3 (by decide)
    obtain ⟨y4, e4⟩ := at_ 4 (by decide)
    have g0 := hg 0 _ rfl
    have g1 := hg 1 _ rfl
    have g2 := hg 2 _ rfl
    have g3 := hg 3 _ rfl
    have g4 := hg 4 _ rfl
    simp only [Value.cells, c1, c2, c3, c4, c5, List.drop_zero, List.drop_succ_cons, List.take_succ_cons, List.take_zero] at g0 g1 g2 g3 g4
    rw [e0] at g0
    rw [e1] at g1
    rw [e2] at g2
    rw [e3] at g3
    rw [e4] at g4
    obtain ⟨pages, hp, hpn, hps, hpw⟩ := open_pages g0
    obtain ⟨wear, hw, hwn, hws, hww⟩ := open_wear g1
    obtain ⟨fuse, h2, _, hfu⟩ := DataW.trod_int Tryz.underlying3 g2
    obtain ⟨torn, h3, _, hto⟩ := DataW.trod_string Tryz.underlying9 g3
    obtain ⟨dead, h4, _⟩ := DataW.trod_bool Tryz.underlying4 g4
    injection h2 with h2 _
    injection h3 with h3 _
    injection h4 with h4 _
    subst h2 h3 h4
    refine ⟨⟨pages, wear, fuse, torn.data.toList, dead⟩, ⟨v0, v1, ?_, hp, hw⟩, ⟨hfu, by simpa using hto, hws, hps, hwn, hpn⟩, fun hall => ?_⟩
    case refine_2 =>
      injection hxe with hd _
      subst hd
      refine ⟨hpw fun m hm => hall m ?_, hww fun m hm => hall m ?_⟩
      · simp only [DataW.weights, Tryz.underlying31]
        exact DataW.weights_mem_each (j := 0) rfl (by rw [List.getElem?_map, e0]; rfl) m hm
      · simp only [DataW.weights, Tryz.underlying31]
        exact DataW.weights_mem_each (j := 1) rfl (by rw [List.getElem?_map, e1]; rfl) m hm
    show Value.agg #[v0, v1, .int .i64 fuse, .string torn, .bool dead] = .agg #[v0, v1, .int .i64 fuse, .string ⟨torn.data.toList.toArray⟩, .bool dead]
    rw [← str_eta]
end Go.Proofs.YtipiioggdalkoaaGreatDoor
end
section
namespace Go.Proofs.YtipiioggdalkoaaGreatDoor
open Go.RowKit
set_option linter.unusedVariables false

def encB (l : List UInt8) : List Value := l.map fun b => .int .u8 (b.toNat : Int)
theorem length_encB (l : List UInt8) : (encB l).length = l.length := by simp [encB]
theorem encB_snoc (l : List UInt8) (x : UInt8) : encB l ++ [.int .u8 (x.toNat : Int)] = encB (l ++ [x]) := by simp [encB]

/-- The slice v holds just the bytes l, in a block of the call's own. -/
def OwnB (w : World) (base : Nat) (e : TypeId) (v : Value) (l : List UInt8) : Prop := w.ownsRow base e 1 v l.length (encB l)

theorem OwnB.nil (w : World) (base : Nat) (e : TypeId) : OwnB w base e (.slice none 0 0) [] := World.ownsRow_nil _ _ _ _
theorem OwnB.back {P : Program} {w : World} {base : Nat} {e : TypeId} {v : Value} {l : List UInt8} (h : OwnB w base e v l) (src dst : TypeId)
    (hs : P.underlying src = some (.slice e)) (he : P.underlying e = some (.int .u8)) (hd : P.underlying dst = some .string) :
    (convert src dst v).run P w = .ok (.string ⟨l.toArray⟩) w := by
  obtain ⟨h1, ⟨rfl, h0⟩ | ⟨g, cap, cur, rfl, _, hh, _, _, hcs, ht⟩⟩ := h
  · have : l = [] := List.eq_nil_of_length_eq_zero h0
    subst this
    exact run_convert_bytes_nil (w := w) src e hs he 0 0 dst hd
  · refine run_convert_bytes_back w src dst e ⟨g, 0, none⟩ cap l hs he hd (fun j hj => ?_)
    have hc : w.cell? ⟨g, j, none⟩ = cur[j]? := cell_of_row w g j cur e (0, 0) hh
    have hj2 : cur.toList[j]? = some (.int .u8 (l[j].toNat : Int)) := by
      have := congrArg (fun x => x[j]?) ht
      simp only [Nat.mul_one] at this
      rw [List.getElem?_take_of_lt hj] at this
      rw [this]
      simp [encB, hj]
    have e1 : (⟨g, 0, none⟩ : Addr).add j = ⟨g, j, none⟩ := by
      by_cases e0 : j = 0
      · subst e0; simp [Addr.add]
      · simp [Addr.add, e0]
    rw [e1, hc, ← Array.getElem?_toList, hj2]
theorem OwnB.size_le {w : World} {base : Nat} {e : TypeId} {v : Value} {l : List UInt8} (h : OwnB w base e v l) : ∀ k, v.ownBlock = some k → base ≤ k := by
  intro k hk
  obtain ⟨_, ⟨rfl, _⟩ | ⟨g, cap, cur, rfl, hb, _⟩⟩ := h
  · simp [Value.ownBlock] at hk
  · simp only [Value.ownBlock, Option.some.injEq] at hk
    omega
end Go.Proofs.YtipiioggdalkoaaGreatDoor
end
