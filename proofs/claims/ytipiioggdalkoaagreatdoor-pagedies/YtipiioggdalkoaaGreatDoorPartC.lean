/- Joined texts: contracts of the program's functions, and the mathematics that they lean on. -/
import Derived.Test.YtipiioggdalkoaaGreatDoorPartB
import Derived.Handy
import Derived.Laws.CopyRow
import Derived.Shelf.Strings.Builder1
import Derived.Shelf.Strings.Builder2
import Derived.Shelf.Strings.BuilderF
import Derived.Shelf.Strings.Prefix
import Derived.Shelf.Bits.Mul64
import Derived.Shelf.Strings.Repeat
import Derived.Shelf.Slices.Equal
import Derived.Ground.Names2Prog
import Derived.Shelf.Slices.Clone
import Derived.Test.YtipiioggdalkoaaGreatDoorProg
import Derived.Laws.CopyOwn
import Derived.RangeFuncBox
import Derived.Maps.AppendAt
section
namespace Go.Proofs.YtipiioggdalkoaaGreatDoor
open Go.RowKit
set_option linter.unusedVariables false
set_option linter.unusedSimpArgs false
attribute [local irreducible] set5

/-- A fact that the walk does not look at. -/
structure Kept (p : Prop) : Prop where
  out : p
theorem has_facts (F : Fl) (k : Nat) (h : hasB F (k : Int) = true) : k < F.pages.length ∧ F.pages.length ≤ 6 ∧ F.wear.length = F.pages.length ∧ F.torn.length ≤ 64 ∧ (∀ x ∈ F.pages, 1 ≤ x.length ∧ x.length ≤ 8192 ∧ x.length = (F.pages.headD []).length) ∧ ∀ x ∈ F.wear, 0 ≤ x ∧ x ≤ 2147483647 := by
  unfold hasB mayB oneSize okWear at h
  simp only [Bool.and_eq_true, decide_eq_true_eq, List.all_eq_true] at h
  obtain ⟨⟨⟨⟨⟨⟨h1, h2⟩, ⟨⟨h3, h4⟩, h5⟩⟩, h6, h7⟩, h8⟩, h9⟩, h10⟩ := h
  refine ⟨by omega, by omega, h6, by omega, fun x hx => ?_, fun x hx => h7 x hx⟩
  have := h5 x hx
  omega
/-- Where a device is copied first. -/
theorem ti_start (F : Fl) (w w1 : World) (vp vw vp' vw' : Value) (hp : isCells (F.pages.map strC) vp w) (hq : isCells (F.wear.map intC) vw w)
    (hb1 : Below (((w.alloc (.cells #[vp, vw, .int .i64 F.fuse, strC F.torn, .bool F.dead] 31)).alloc (.cells #[.slice none 0 0, .slice none 0 0, .int .i64 0, .string ⟨#[]⟩, .bool false] 31))).heap.size ((w.alloc (.cells #[vp, vw, .int .i64 F.fuse, strC F.torn, .bool F.dead] 31)).alloc (.cells #[.slice none 0 0, .slice none 0 0, .int .i64 0, .string ⟨#[]⟩, .bool false] 31)) w1)
    (ho1 : isOwn ((w.alloc (.cells #[vp, vw, .int .i64 F.fuse, strC F.torn, .bool F.dead] 31)).alloc (.cells #[.slice none 0 0, .slice none 0 0, .int .i64 0, .string ⟨#[]⟩, .bool false] 31)).heap.size 9 (F.pages.map strC) vp' w1)
    (ho2 : isOwn ((w.alloc (.cells #[vp, vw, .int .i64 F.fuse, strC F.torn, .bool F.dead] 31)).alloc (.cells #[.slice none 0 0, .slice none 0 0, .int .i64 0, .string ⟨#[]⟩, .bool false] 31)).heap.size 3 (F.wear.map intC) vw' w1) :
    TI w (set5 (w1.alloc (.cells #[.slice none 0 0, .slice none 0 0, .int .i64 0, .string ⟨#[]⟩, .bool false] 31)) w1.heap.size vp' vw' (.int .i64 F.fuse) (strC F.torn) (.bool F.dead)) (w.heap.size + 2) w1.heap.size w.heap.size (w.heap.size + 1) w1.heap.size F F vp vw vp' vw' := by
  have hb0 : Below w.heap.size w ((w.alloc (.cells #[vp, vw, .int .i64 F.fuse, strC F.torn, .bool F.dead] 31)).alloc (.cells #[.slice none 0 0, .slice none 0 0, .int .i64 0, .string ⟨#[]⟩, .bool false] 31)) := ((Below.refl _ _).alloc (Nat.le_refl _) _).alloc (by simp) _
  have hbn := (Below.refl (w.alloc (.cells #[vp, vw, .int .i64 F.fuse, strC F.torn, .bool F.dead] 31)).heap.size (w.alloc (.cells #[vp, vw, .int .i64 F.fuse, strC F.torn, .bool F.dead] 31))).alloc (Nat.le_refl _) (.cells #[.slice none 0 0, .slice none 0 0, .int .i64 0, .string ⟨#[]⟩, .bool false] 31)
  have hbz := (Below.refl w1.heap.size w1).alloc (Nat.le_refl _) (.cells #[.slice none 0 0, .slice none 0 0, .int .i64 0, .string ⟨#[]⟩, .bool false] 31)
  have hs1 : w.heap.size + 2 ≤ w1.heap.size := by have := hb1.size; simp at this; omega
  have hsz : ((w.alloc (.cells #[vp, vw, .int .i64 F.fuse, strC F.torn, .bool F.dead] 31)).alloc (.cells #[.slice none 0 0, .slice none 0 0, .int .i64 0, .string ⟨#[]⟩, .bool false] 31)).heap.size = w.heap.size + 2 := by simp
  have c3 := (((cells5_new w 31 vp vw (.int .i64 F.fuse) (strC F.torn) (.bool F.dead)).keep hbn (by simp)).keep hb1 (by simp <;> omega)).keep hbz (by omega)
  have c6 := ((cells5_at (w.alloc (.cells #[vp, vw, .int .i64 F.fuse, strC F.torn, .bool F.dead] 31)) 31 (.slice none 0 0) (.slice none 0 0) (.int .i64 0) (.string ⟨#[]⟩) (.bool false) (w.heap.size + 1) (by simp)).keep hb1 (by simp <;> omega)).keep hbz (by omega)
  have f6 := ((free5_at (w.alloc (.cells #[vp, vw, .int .i64 F.fuse, strC F.torn, .bool F.dead] 31)) #[.slice none 0 0, .slice none 0 0, .int .i64 0, .string ⟨#[]⟩, .bool false] 31 (w.heap.size + 1) (by simp)).keep hb1 (by simp <;> omega)).keep hbz (by omega)
  have c8 := (cells5_new w1 31 (.slice none 0 0) (.slice none 0 0) (.int .i64 0) (.string ⟨#[]⟩) (.bool false))
  have f8 := free5_new w1 #[.slice none 0 0, .slice none 0 0, .int .i64 0, .string ⟨#[]⟩, .bool false] 31
  rw [hsz] at ho1 ho2
  have hbt : ∀ {e : TypeId} {cs : List Value} {v : Value}, isOwn (w.heap.size + 2) e cs v w1 → isBtw (w.heap.size + 2) w1.heap.size e cs v (set5 (w1.alloc (.cells #[.slice none 0 0, .slice none 0 0, .int .i64 0, .string ⟨#[]⟩, .bool false] 31)) w1.heap.size vp' vw' (.int .i64 F.fuse) (strC F.torn) (.bool F.dead)) := by
    intro e cs v h
    have h' := (isBtw_own h).grow hbz
    unfold set5
    exact ((((h'.out (p := ⟨w1.heap.size, 0, none⟩) (.inr (Nat.le_refl _)) _).out (p := ⟨w1.heap.size, 1, none⟩) (.inr (Nat.le_refl _)) _).out (p := ⟨w1.heap.size, 2, none⟩) (.inr (Nat.le_refl _)) _).out (p := ⟨w1.heap.size, 3, none⟩) (.inr (Nat.le_refl _)) _).out (p := ⟨w1.heap.size, 4, none⟩) (.inr (Nat.le_refl _)) _
  exact {
    below := below_set5 ((hb0.trans (hb1.mono hb0.size)).alloc (by omega) _) (by omega) _ _ _ _ _
    o3 := ⟨Nat.le_refl _, by omega⟩
    o6 := ⟨by omega, by omega⟩
    o36 := by omega
    o8 := ⟨by omega, hs1, Nat.le_refl _⟩
    c3 := c3.apart5 _ _ _ _ _ (by omega)
    c6 := ⟨_, _, _, _, _, c6.apart5 _ _ _ _ _ (by omega)⟩
    f6 := f6.set5_ _ _ _ _ _ _
    c8 := c8.set5_ _ _ _ _ _
    f8 := f8.set5_ _ _ _ _ _ _
    p := hp
    q := hq
    p' := hbt ho1
    q' := hbt ho2 }
theorem ti_end {w0 W : World} {lo hi g3 g6 g8 : Nat} {F G : Fl} {vp vw vp' vw' : Value} (h : TI w0 W lo hi g3 g6 g8 F G vp vw vp' vw') :
    isFlN w0.heap.size G (.agg #[vp', vw', .int .i64 G.fuse, strC G.torn, .bool G.dead]) (set5 W g6 vp' vw' (.int .i64 G.fuse) (strC G.torn) (.bool G.dead)) ∧ Below w0.heap.size w0 (set5 W g6 vp' vw' (.int .i64 G.fuse) (strC G.torn) (.bool G.dead)) ∧
      Cells5 (set5 W g6 vp' vw' (.int .i64 G.fuse) (strC G.torn) (.bool G.dead)) g6 vp' vw' (.int .i64 G.fuse) (strC G.torn) (.bool G.dead) := by
  have o6 := h.o6
  obtain ⟨o0, o1, o2, o3, o4, c6⟩ := h.c6
  have hbt : ∀ {e : TypeId} {cs : List Value} {v : Value}, isBtw lo hi e cs v W → isBtw lo hi e cs v (set5 W g6 vp' vw' (.int .i64 G.fuse) (strC G.torn) (.bool G.dead)) := by
    intro e cs v h'
    unfold set5
    exact ((((h'.out (p := ⟨g6, 0, none⟩) (.inl o6.2) _).out (p := ⟨g6, 1, none⟩) (.inl o6.2) _).out (p := ⟨g6, 2, none⟩) (.inl o6.2) _).out (p := ⟨g6, 3, none⟩) (.inl o6.2) _).out (p := ⟨g6, 4, none⟩) (.inl o6.2) _
  have o8 := h.o8
  have hs8 := h.c8.1
  exact ⟨⟨vp', vw', rfl, (hbt h.p').weak (by omega) (by rw [size_set5]; omega), (hbt h.q').weak (by omega) (by rw [size_set5]; omega)⟩, below_set5 h.below o6.1 _ _ _ _ _, c6.set5_ _ _ _ _ _⟩

set_option maxRecDepth 100000 in
set_option maxHeartbeats 2000000 in
theorem take_eno (F : Fl) (v : Value) (w : World) (hv : isFl F v w) (h1 : F.pages.length ≤ 1000000) (h2 : F.wear.length ≤ 1000000) (page : Int) (hhas : hasB F page = false) :
    Calls Tryz.prog 54 #[v, .int .i64 page, (.iface 64 (.agg #[]))] w fun e w' => ∃ v', e = .returned (.tuple #[v', .int .i64 1]) ∧ isFlN w.heap.size F v' w' ∧ Below w.heap.size w w' := by
  obtain ⟨vp, vw, rfl, hp, hq⟩ := hv
  have hb0 : Below w.heap.size w ((w.alloc (.cells #[vp, vw, .int .i64 F.fuse, strC F.torn, .bool F.dead] 31)).alloc (.cells #[.slice none 0 0, .slice none 0 0, .int .i64 0, .string ⟨#[]⟩, .bool false] 31)) := ((Below.refl _ _).alloc (Nat.le_refl _) _).alloc (by simp) _
  have HP := Lib.hid hp
  have HQ := Lib.hid hq
  have HB0 := Lib.hid hb0
  clear hp hq hb0
  go_enter Tryz.func54, Tryz.ntmps54
  go_wp2_with fail
  refine (copied_any F _ _ ⟨vp, vw, rfl, stable_cells _ _ _ _ HP.out HB0.out, stable_cells _ _ _ _ HQ.out HB0.out⟩ (by omega) (by omega)).mono ?_
  rintro e w1 ⟨vp', vw', rfl, ho1, ho2, hb1⟩
  have TI0 := Lib.hid (ti_start F w w1 vp vw vp' vw' HP.out HQ.out hb1 ho1 ho2)
  have HC8 := Lib.hid (cells5_new w1 31 (.slice none 0 0) (.slice none 0 0) (.int .i64 0) (.string ⟨#[]⟩) (.bool false))
  have HF8 := Lib.hid (free5_new w1 #[.slice none 0 0, .slice none 0 0, .int .i64 0, .string ⟨#[]⟩, .bool false] 31)
  have oo1 := (ho1.one).2
  have oo2 := (ho2.one).2
  clear ho1 ho2 hb1 HB0
  go_wp2_with (refine wpList_store5 rfl (.tmp 8) (.tmp 12) rfl w1.heap.size vp' vw' (.int .i64 F.fuse) (strC F.torn) (.bool F.dead) rfl rfl HC8.out HF8.out oo1 oo2 rfl rfl rfl ?_)
  have T := TI0.out
  clear TI0 HC8 HF8
  generalize set5 (w1.alloc (.cells #[.slice none 0 0, .slice none 0 0, .int .i64 0, .string ⟨#[]⟩, .bool false] 31)) w1.heap.size vp' vw' (.int .i64 F.fuse) (strC F.torn) (.bool F.dead) = W at *
  generalize w1.heap.size = g8 at *
  refine take2_eno _ _ _ rfl w.heap.size F vp vw page rfl rfl rfl T.c3 T.fl (by omega) (by omega) hhas ?_
  intro act W2 hdf hsz hkeep hn30 hbT
  have hk1 : act.tmps.getD 1 undef = (.int .i64 page) := hkeep 1 (by kernel_rfl)
  have hk2 : act.tmps.getD 2 undef = (.iface 64 (.agg #[])) := hkeep 2 (by kernel_rfl)
  have hk3 : act.tmps.getD 3 undef = (.pointer (some ⟨w.heap.size, 0, none⟩)) := hkeep 3 (by kernel_rfl)
  have hk6 : act.tmps.getD 6 undef = (.pointer (some ⟨w.heap.size + 1, 0, none⟩)) := hkeep 6 (by kernel_rfl)
  have hk8 : act.tmps.getD 8 undef = (.pointer (some ⟨g8, 0, none⟩)) := hkeep 8 (by kernel_rfl)
  obtain ⟨tm, df⟩ := act
  obtain rfl : df = [] := hdf
  clear hkeep
  obtain ⟨f, rfl, hk1, hk2, hk3, hk6, hk8, hn30⟩ : ∃ f : Nat → Value, tm = ((List.range 84).map f).toArray ∧ f 1 = (.int .i64 page) ∧ f 2 = (.iface 64 (.agg #[])) ∧ f 3 = (.pointer (some ⟨w.heap.size, 0, none⟩)) ∧ f 6 = (.pointer (some ⟨w.heap.size + 1, 0, none⟩)) ∧ f 8 = (.pointer (some ⟨g8, 0, none⟩)) ∧ f 30 = (.bool true) := ⟨fun i => tm.getD i undef, arr_eta tm hsz, hk1, hk2, hk3, hk6, hk8, hn30⟩
  rewrite [show ((List.range 84).map f).toArray = #[f 0, f 1, f 2, f 3, f 4, f 5, f 6, f 7, f 8, f 9, f 10, f 11, f 12, f 13, f 14, f 15, f 16, f 17, f 18, f 19, f 20, f 21, f 22, f 23, f 24, f 25, f 26, f 27, f 28, f 29, f 30, f 31, f 32, f 33, f 34, f 35, f 36, f 37, f 38, f 39, f 40, f 41, f 42, f 43, f 44, f 45, f 46, f 47, f 48, f 49, f 50, f 51, f 52, f 53, f 54, f 55, f 56, f 57, f 58, f 59, f 60, f 61, f 62, f 63, f 64, f 65, f 66, f 67, f 68, f 69, f 70, f 71, f 72, f 73, f 74, f 75, f 76, f 77, f 78, f 79, f 80, f 81, f 82, f 83] from rfl]
  rewrite [hk1, hk2, hk3, hk6, hk8, hn30]
  dsimp only
  clear hsz hk1 hk2 hk3 hk6 hk8 hn30
  replace T := T.grow hbT
  clear hbT
  obtain ⟨o0, o1, o2, o3, o4, c6⟩ := T.c6
  have HC6 := Kept.mk c6
  have HF6 := Kept.mk T.f6
  obtain ⟨hfl, hB5, hr5⟩ := ti_end T
  have HFL := Kept.mk hfl
  have HR5 := Kept.mk hr5
  obtain ⟨_, k0, k1, k2, k3, k4⟩ := T.c8
  clear T c6 hfl hr5
  go_wp2_with (refine wpList_store5 rfl (.tmp 6) (.tmp 31) rfl (w.heap.size + 1) _ _ _ _ _ rfl rfl HC6.out HF6.out oo1 oo2 rfl rfl rfl ?_)
  exact bodyPost_ret (results2 rfl _ _ (w.heap.size + 1) _ _ _ _ _ (.int .i64 1) rfl rfl HR5.out) rfl ⟨_, rfl, HFL.out, hB5⟩

set_option maxRecDepth 100000 in
set_option maxHeartbeats 2000000 in
theorem take_pno (F : Fl) (v : Value) (w : World) (hv : isFl F v w) (h1 : F.pages.length ≤ 1000000) (h2 : F.wear.length ≤ 1000000) (at_ : Int) (s : List UInt8) (hs : s.length ≤ 1000000) (page : Int) (hhas : hasB F page = false) :
    Calls Tryz.prog 54 #[v, .int .i64 page, (.iface 77 (.agg #[.int .i64 at_, .string ⟨s.toArray⟩]))] w fun e w' => ∃ v', e = .returned (.tuple #[v', .int .i64 1]) ∧ isFlN w.heap.size F v' w' ∧ Below w.heap.size w w' := by
  obtain ⟨vp, vw, rfl, hp, hq⟩ := hv
  have hb0 : Below w.heap.size w ((w.alloc (.cells #[vp, vw, .int .i64 F.fuse, strC F.torn, .bool F.dead] 31)).alloc (.cells #[.slice none 0 0, .slice none 0 0, .int .i64 0, .string ⟨#[]⟩, .bool false] 31)) := ((Below.refl _ _).alloc (Nat.le_refl _) _).alloc (by simp) _
  have HP := Lib.hid hp
  have HQ := Lib.hid hq
  have HB0 := Lib.hid hb0
  clear hp hq hb0
  go_enter Tryz.func54, Tryz.ntmps54
  go_wp2_with fail
  refine (copied_any F _ _ ⟨vp, vw, rfl, stable_cells _ _ _ _ HP.out HB0.out, stable_cells _ _ _ _ HQ.out HB0.out⟩ (by omega) (by omega)).mono ?_
  rintro e w1 ⟨vp', vw', rfl, ho1, ho2, hb1⟩
  have TI0 := Lib.hid (ti_start F w w1 vp vw vp' vw' HP.out HQ.out hb1 ho1 ho2)
  have HC8 := Lib.hid (cells5_new w1 31 (.slice none 0 0) (.slice none 0 0) (.int .i64 0) (.string ⟨#[]⟩) (.bool false))
  have HF8 := Lib.hid (free5_new w1 #[.slice none 0 0, .slice none 0 0, .int .i64 0, .string ⟨#[]⟩, .bool false] 31)
  have oo1 := (ho1.one).2
  have oo2 := (ho2.one).2
  clear ho1 ho2 hb1 HB0
  go_wp2_with (refine wpList_store5 rfl (.tmp 8) (.tmp 12) rfl w1.heap.size vp' vw' (.int .i64 F.fuse) (strC F.torn) (.bool F.dead) rfl rfl HC8.out HF8.out oo1 oo2 rfl rfl rfl ?_)
  have T := TI0.out
  clear TI0 HC8 HF8
  generalize set5 (w1.alloc (.cells #[.slice none 0 0, .slice none 0 0, .int .i64 0, .string ⟨#[]⟩, .bool false] 31)) w1.heap.size vp' vw' (.int .i64 F.fuse) (strC F.torn) (.bool F.dead) = W at *
  generalize w1.heap.size = g8 at *
  refine take2_pno _ _ _ rfl w.heap.size F vp vw at_ s hs page rfl rfl rfl T.c3 T.fl (by omega) (by omega) hhas ?_
  intro act W2 hdf hsz hkeep hn30 hbT
  have hk1 : act.tmps.getD 1 undef = (.int .i64 page) := hkeep 1 (by kernel_rfl)
  have hk2 : act.tmps.getD 2 undef = (.iface 77 (.agg #[.int .i64 at_, .string ⟨s.toArray⟩])) := hkeep 2 (by kernel_rfl)
  have hk3 : act.tmps.getD 3 undef = (.pointer (some ⟨w.heap.size, 0, none⟩)) := hkeep 3 (by kernel_rfl)
  have hk6 : act.tmps.getD 6 undef = (.pointer (some ⟨w.heap.size + 1, 0, none⟩)) := hkeep 6 (by kernel_rfl)
  have hk8 : act.tmps.getD 8 undef = (.pointer (some ⟨g8, 0, none⟩)) := hkeep 8 (by kernel_rfl)
  obtain ⟨tm, df⟩ := act
  obtain rfl : df = [] := hdf
  clear hkeep
  obtain ⟨f, rfl, hk1, hk2, hk3, hk6, hk8, hn30⟩ : ∃ f : Nat → Value, tm = ((List.range 84).map f).toArray ∧ f 1 = (.int .i64 page) ∧ f 2 = (.iface 77 (.agg #[.int .i64 at_, .string ⟨s.toArray⟩])) ∧ f 3 = (.pointer (some ⟨w.heap.size, 0, none⟩)) ∧ f 6 = (.pointer (some ⟨w.heap.size + 1, 0, none⟩)) ∧ f 8 = (.pointer (some ⟨g8, 0, none⟩)) ∧ f 30 = (.bool true) := ⟨fun i => tm.getD i undef, arr_eta tm hsz, hk1, hk2, hk3, hk6, hk8, hn30⟩
  rewrite [show ((List.range 84).map f).toArray = #[f 0, f 1, f 2, f 3, f 4, f 5, f 6, f 7, f 8, f 9, f 10, f 11, f 12, f 13, f 14, f 15, f 16, f 17, f 18, f 19, f 20, f 21, f 22, f 23, f 24, f 25, f 26, f 27, f 28, f 29, f 30, f 31, f 32, f 33, f 34, f 35, f 36, f 37, f 38, f 39, f 40, f 41, f 42, f 43, f 44, f 45, f 46, f 47, f 48, f 49, f 50, f 51, f 52, f 53, f 54, f 55, f 56, f 57, f 58, f 59, f 60, f 61, f 62, f 63, f 64, f 65, f 66, f 67, f 68, f 69, f 70, f 71, f 72, f 73, f 74, f 75, f 76, f 77, f 78, f 79, f 80, f 81, f 82, f 83] from rfl]
  rewrite [hk1, hk2, hk3, hk6, hk8, hn30]
  dsimp only
  clear hsz hk1 hk2 hk3 hk6 hk8 hn30
  replace T := T.grow hbT
  clear hbT
  obtain ⟨o0, o1, o2, o3, o4, c6⟩ := T.c6
  have HC6 := Kept.mk c6
  have HF6 := Kept.mk T.f6
  obtain ⟨hfl, hB5, hr5⟩ := ti_end T
  have HFL := Kept.mk hfl
  have HR5 := Kept.mk hr5
  obtain ⟨_, k0, k1, k2, k3, k4⟩ := T.c8
  clear T c6 hfl hr5
  go_wp2_with (refine wpList_store5 rfl (.tmp 6) (.tmp 31) rfl (w.heap.size + 1) _ _ _ _ _ rfl rfl HC6.out HF6.out oo1 oo2 rfl rfl rfl ?_)
  exact bodyPost_ret (results2 rfl _ _ (w.heap.size + 1) _ _ _ _ _ (.int .i64 1) rfl rfl HR5.out) rfl ⟨_, rfl, HFL.out, hB5⟩

set_option maxRecDepth 100000 in
set_option maxHeartbeats 2000000 in
theorem take_edead (F : Fl) (v : Value) (w : World) (hv : isFl F v w) (k : Nat) (hdead : F.dead = true) (hhas : hasB F (k : Int) = true) :
    Calls Tryz.prog 54 #[v, .int .i64 (k : Int), (.iface 64 (.agg #[]))] w fun e w' => ∃ v', e = .returned (.tuple #[v', .int .i64 8]) ∧ isFlN w.heap.size F v' w' ∧ Below w.heap.size w w' := by
  have HDD := Kept.mk hdead
  clear hdead
  have HHF := Kept.mk (has_facts F k hhas)
  obtain ⟨hk, h6, hwl, htl, hpg, hwr⟩ := HHF.out
  obtain ⟨was, hwas⟩ : ∃ was, F.pages[k]? = some was := ⟨_, List.getElem?_eq_getElem hk⟩
  obtain ⟨wn, hwn⟩ : ∃ wn, F.wear[k]? = some wn := ⟨_, List.getElem?_eq_getElem (by omega)⟩
  have hwm : was.length ≤ 8192 := (hpg _ (List.mem_of_getElem? hwas)).2.1
  have hn01 := hwr wn (List.mem_of_getElem? hwn)
  obtain ⟨vp, vw, rfl, hp, hq⟩ := hv
  obtain ⟨b, off, cap, hvp, hb, hc⟩ := hp.some_ (by rw [List.length_map]; omega)
  obtain ⟨b2, off2, cap2, hvw, hb2, hc2⟩ := hq.some_ (by rw [List.length_map]; omega)
  rw [List.length_map] at hvp hvw
  subst hvp hvw
  have hcell : w.cell? ⟨b, off + k, none⟩ = some (.string ⟨was.toArray⟩) := hc k _ (by simp [hwas, strC])
  have hcell2 : w.cell? ⟨b2, off2 + k, none⟩ = some (.int .i64 wn) := hc2 k _ (by simp [hwn, intC])
  have hkw : k < F.wear.length := by omega
  have hwl6 : F.wear.length ≤ 6 := by omega
  have HWL := Kept.mk hwl
  clear hwl
  have hget1 : F.pages.getD k [] = was := by simp [List.getD_eq_getElem?_getD, hwas]
  have hget2 : F.wear.getD k 0 = wn := by simp [List.getD_eq_getElem?_getD, hwn]
  try rw [hget1]
  try rw [hget2]
  clear hget1 hget2
  have HW := Kept.mk hwas
  have HWN := Kept.mk hwn
  have HC1 := Kept.mk hcell
  have HC2 := Kept.mk hcell2
  have hb0 : Below w.heap.size w ((w.alloc (.cells #[.slice (some ⟨b, off, none⟩) F.pages.length cap, .slice (some ⟨b2, off2, none⟩) F.wear.length cap2, .int .i64 F.fuse, strC F.torn, .bool F.dead] 31)).alloc (.cells #[.slice none 0 0, .slice none 0 0, .int .i64 0, .string ⟨#[]⟩, .bool false] 31)) := ((Below.refl _ _).alloc (Nat.le_refl _) _).alloc (by simp) _
  have HP := Kept.mk hp
  have HQ := Kept.mk hq
  have HB0 := Kept.mk hb0
  clear hp hq hb0 hc hc2 hcell hcell2 hwas hwn hpg hwr
  go_enter Tryz.func54, Tryz.ntmps54
  go_wp2_with fail
  refine (copied_any F _ _ ⟨.slice (some ⟨b, off, none⟩) F.pages.length cap, .slice (some ⟨b2, off2, none⟩) F.wear.length cap2, rfl, stable_cells _ _ _ _ HP.out HB0.out, stable_cells _ _ _ _ HQ.out HB0.out⟩ (by omega) (by omega)).mono ?_
  rintro e w1 ⟨vp', vw', rfl, ho1, ho2, hb1⟩
  have TI0 := Lib.hid (ti_start F w w1 (.slice (some ⟨b, off, none⟩) F.pages.length cap) (.slice (some ⟨b2, off2, none⟩) F.wear.length cap2) vp' vw' HP.out HQ.out hb1 ho1 ho2)
  have HC8 := Lib.hid (cells5_new w1 31 (.slice none 0 0) (.slice none 0 0) (.int .i64 0) (.string ⟨#[]⟩) (.bool false))
  have HF8 := Lib.hid (free5_new w1 #[.slice none 0 0, .slice none 0 0, .int .i64 0, .string ⟨#[]⟩, .bool false] 31)
  have oo1 := (ho1.one).2
  have oo2 := (ho2.one).2
  clear ho1 ho2 hb1 HB0
  go_wp2_with (refine wpList_store5 rfl (.tmp 8) (.tmp 12) rfl w1.heap.size vp' vw' (.int .i64 F.fuse) (strC F.torn) (.bool F.dead) rfl rfl HC8.out HF8.out oo1 oo2 rfl rfl rfl ?_)
  have T := TI0.out
  clear TI0 HC8 HF8
  generalize set5 (w1.alloc (.cells #[.slice none 0 0, .slice none 0 0, .int .i64 0, .string ⟨#[]⟩, .bool false] 31)) w1.heap.size vp' vw' (.int .i64 F.fuse) (strC F.torn) (.bool F.dead) = W at *
  generalize w1.heap.size = g8 at *
  refine take2_eyes _ _ _ rfl w.heap.size F _ k b off F.pages.length cap was hk ((T.below.cell (p := ⟨b, off + k, none⟩) hb).trans HC1.out) (Nat.lt_of_lt_of_le hb T.below.size) (by omega) rfl rfl rfl T.c3 T.fl (by omega) (by omega) hhas ?_
  intro act W2 hdf hsz hkeep hn30 hbT
  have hk1 : act.tmps.getD 1 undef = (.int .i64 (k : Int)) := hkeep 1 (by kernel_rfl)
  have hk2 : act.tmps.getD 2 undef = (.iface 64 (.agg #[])) := hkeep 2 (by kernel_rfl)
  have hk3 : act.tmps.getD 3 undef = (.pointer (some ⟨w.heap.size, 0, none⟩)) := hkeep 3 (by kernel_rfl)
  have hk6 : act.tmps.getD 6 undef = (.pointer (some ⟨w.heap.size + 1, 0, none⟩)) := hkeep 6 (by kernel_rfl)
  have hk8 : act.tmps.getD 8 undef = (.pointer (some ⟨g8, 0, none⟩)) := hkeep 8 (by kernel_rfl)
  obtain ⟨tm, df⟩ := act
  obtain rfl : df = [] := hdf
  clear hkeep
  obtain ⟨f, rfl, hk1, hk2, hk3, hk6, hk8, hn30⟩ : ∃ f : Nat → Value, tm = ((List.range 84).map f).toArray ∧ f 1 = (.int .i64 (k : Int)) ∧ f 2 = (.iface 64 (.agg #[])) ∧ f 3 = (.pointer (some ⟨w.heap.size, 0, none⟩)) ∧ f 6 = (.pointer (some ⟨w.heap.size + 1, 0, none⟩)) ∧ f 8 = (.pointer (some ⟨g8, 0, none⟩)) ∧ f 30 = (.bool false) := ⟨fun i => tm.getD i undef, arr_eta tm hsz, hk1, hk2, hk3, hk6, hk8, hn30⟩
  rewrite [show ((List.range 84).map f).toArray = #[f 0, f 1, f 2, f 3, f 4, f 5, f 6, f 7, f 8, f 9, f 10, f 11, f 12, f 13, f 14, f 15, f 16, f 17, f 18, f 19, f 20, f 21, f 22, f 23, f 24, f 25, f 26, f 27, f 28, f 29, f 30, f 31, f 32, f 33, f 34, f 35, f 36, f 37, f 38, f 39, f 40, f 41, f 42, f 43, f 44, f 45, f 46, f 47, f 48, f 49, f 50, f 51, f 52, f 53, f 54, f 55, f 56, f 57, f 58, f 59, f 60, f 61, f 62, f 63, f 64, f 65, f 66, f 67, f 68, f 69, f 70, f 71, f 72, f 73, f 74, f 75, f 76, f 77, f 78, f 79, f 80, f 81, f 82, f 83] from rfl]
  rewrite [hk1, hk2, hk3, hk6, hk8, hn30]
  dsimp only
  clear hsz hk1 hk2 hk3 hk6 hk8 hn30
  replace T := T.grow hbT
  clear hbT
  have b4 : W2.cell? ⟨w.heap.size, 4, none⟩ = some (.bool true) := by rw [← HDD.out]; exact T.c3.2.2.2.2.2
  obtain ⟨o0, o1, o2, o3, o4, c6⟩ := T.c6
  have HC6 := Kept.mk c6
  have HF6 := Kept.mk T.f6
  obtain ⟨hfl, hB5, hr5⟩ := ti_end T
  have HFL := Kept.mk hfl
  have HR5 := Kept.mk hr5
  obtain ⟨_, k0, k1, k2, k3, k4⟩ := T.c8
  clear T c6 hfl hr5
  go_wp2_with (refine wpList_store5 rfl (.tmp 6) (.tmp 34) rfl (w.heap.size + 1) _ _ _ _ _ rfl rfl HC6.out HF6.out oo1 oo2 rfl rfl rfl ?_)
  exact bodyPost_ret (results2 rfl _ _ (w.heap.size + 1) _ _ _ _ _ (.int .i64 8) rfl rfl HR5.out) rfl ⟨_, rfl, HFL.out, hB5⟩

set_option maxRecDepth 100000 in
set_option maxHeartbeats 2000000 in
theorem take_etorn (F : Fl) (v : Value) (w : World) (hv : isFl F v w) (k : Nat) (hdead : F.dead = false) (hfuse : F.fuse = 0) (hhas : hasB F (k : Int) = true) :
    Calls Tryz.prog 54 #[v, .int .i64 (k : Int), (.iface 64 (.agg #[]))] w fun e w' => ∃ v', e = .returned (.tuple #[v', .int .i64 8]) ∧ isFlN w.heap.size { F with pages := F.pages.set k (betweenL (F.pages.getD k []) (List.replicate (F.pages.getD k []).length 255) F.torn), dead := true } v' w' ∧ Below w.heap.size w w' := by
  have HDD := Kept.mk hdead
  clear hdead
  have HFU := Kept.mk hfuse
  clear hfuse
  have HHF := Kept.mk (has_facts F k hhas)
  obtain ⟨hk, h6, hwl, htl, hpg, hwr⟩ := HHF.out
  obtain ⟨was, hwas⟩ : ∃ was, F.pages[k]? = some was := ⟨_, List.getElem?_eq_getElem hk⟩
  obtain ⟨wn, hwn⟩ : ∃ wn, F.wear[k]? = some wn := ⟨_, List.getElem?_eq_getElem (by omega)⟩
  have hwm : was.length ≤ 8192 := (hpg _ (List.mem_of_getElem? hwas)).2.1
  have hn01 := hwr wn (List.mem_of_getElem? hwn)
  obtain ⟨vp, vw, rfl, hp, hq⟩ := hv
  obtain ⟨b, off, cap, hvp, hb, hc⟩ := hp.some_ (by rw [List.length_map]; omega)
  obtain ⟨b2, off2, cap2, hvw, hb2, hc2⟩ := hq.some_ (by rw [List.length_map]; omega)
  rw [List.length_map] at hvp hvw
  subst hvp hvw
  have hcell : w.cell? ⟨b, off + k, none⟩ = some (.string ⟨was.toArray⟩) := hc k _ (by simp [hwas, strC])
  have hcell2 : w.cell? ⟨b2, off2 + k, none⟩ = some (.int .i64 wn) := hc2 k _ (by simp [hwn, intC])
  have hkw : k < F.wear.length := by omega
  have hwl6 : F.wear.length ≤ 6 := by omega
  have HWL := Kept.mk hwl
  clear hwl
  have hget1 : F.pages.getD k [] = was := by simp [List.getD_eq_getElem?_getD, hwas]
  have hget2 : F.wear.getD k 0 = wn := by simp [List.getD_eq_getElem?_getD, hwn]
  try rw [hget1]
  try rw [hget2]
  clear hget1 hget2
  have HW := Kept.mk hwas
  have HWN := Kept.mk hwn
  have HC1 := Kept.mk hcell
  have HC2 := Kept.mk hcell2
  have hb0 : Below w.heap.size w ((w.alloc (.cells #[.slice (some ⟨b, off, none⟩) F.pages.length cap, .slice (some ⟨b2, off2, none⟩) F.wear.length cap2, .int .i64 F.fuse, strC F.torn, .bool F.dead] 31)).alloc (.cells #[.slice none 0 0, .slice none 0 0, .int .i64 0, .string ⟨#[]⟩, .bool false] 31)) := ((Below.refl _ _).alloc (Nat.le_refl _) _).alloc (by simp) _
  have HP := Kept.mk hp
  have HQ := Kept.mk hq
  have HB0 := Kept.mk hb0
  clear hp hq hb0 hc hc2 hcell hcell2 hwas hwn hpg hwr
  go_enter Tryz.func54, Tryz.ntmps54
  go_wp2_with fail
  refine (copied_any F _ _ ⟨.slice (some ⟨b, off, none⟩) F.pages.length cap, .slice (some ⟨b2, off2, none⟩) F.wear.length cap2, rfl, stable_cells _ _ _ _ HP.out HB0.out, stable_cells _ _ _ _ HQ.out HB0.out⟩ (by omega) (by omega)).mono ?_
  rintro e w1 ⟨vp', vw', rfl, ho1, ho2, hb1⟩
  have TI0 := Lib.hid (ti_start F w w1 (.slice (some ⟨b, off, none⟩) F.pages.length cap) (.slice (some ⟨b2, off2, none⟩) F.wear.length cap2) vp' vw' HP.out HQ.out hb1 ho1 ho2)
  have HC8 := Lib.hid (cells5_new w1 31 (.slice none 0 0) (.slice none 0 0) (.int .i64 0) (.string ⟨#[]⟩) (.bool false))
  have HF8 := Lib.hid (free5_new w1 #[.slice none 0 0, .slice none 0 0, .int .i64 0, .string ⟨#[]⟩, .bool false] 31)
  have oo1 := (ho1.one).2
  have oo2 := (ho2.one).2
  clear ho1 ho2 hb1 HB0
  go_wp2_with (refine wpList_store5 rfl (.tmp 8) (.tmp 12) rfl w1.heap.size vp' vw' (.int .i64 F.fuse) (strC F.torn) (.bool F.dead) rfl rfl HC8.out HF8.out oo1 oo2 rfl rfl rfl ?_)
  have T := TI0.out
  clear TI0 HC8 HF8
  generalize set5 (w1.alloc (.cells #[.slice none 0 0, .slice none 0 0, .int .i64 0, .string ⟨#[]⟩, .bool false] 31)) w1.heap.size vp' vw' (.int .i64 F.fuse) (strC F.torn) (.bool F.dead) = W at *
  generalize w1.heap.size = g8 at *
  refine take2_eyes _ _ _ rfl w.heap.size F _ k b off F.pages.length cap was hk ((T.below.cell (p := ⟨b, off + k, none⟩) hb).trans HC1.out) (Nat.lt_of_lt_of_le hb T.below.size) (by omega) rfl rfl rfl T.c3 T.fl (by omega) (by omega) hhas ?_
  intro act W2 hdf hsz hkeep hn30 hbT
  have hk1 : act.tmps.getD 1 undef = (.int .i64 (k : Int)) := hkeep 1 (by kernel_rfl)
  have hk2 : act.tmps.getD 2 undef = (.iface 64 (.agg #[])) := hkeep 2 (by kernel_rfl)
  have hk3 : act.tmps.getD 3 undef = (.pointer (some ⟨w.heap.size, 0, none⟩)) := hkeep 3 (by kernel_rfl)
  have hk6 : act.tmps.getD 6 undef = (.pointer (some ⟨w.heap.size + 1, 0, none⟩)) := hkeep 6 (by kernel_rfl)
  have hk8 : act.tmps.getD 8 undef = (.pointer (some ⟨g8, 0, none⟩)) := hkeep 8 (by kernel_rfl)
  obtain ⟨tm, df⟩ := act
  obtain rfl : df = [] := hdf
  clear hkeep
  obtain ⟨f, rfl, hk1, hk2, hk3, hk6, hk8, hn30⟩ : ∃ f : Nat → Value, tm = ((List.range 84).map f).toArray ∧ f 1 = (.int .i64 (k : Int)) ∧ f 2 = (.iface 64 (.agg #[])) ∧ f 3 = (.pointer (some ⟨w.heap.size, 0, none⟩)) ∧ f 6 = (.pointer (some ⟨w.heap.size + 1, 0, none⟩)) ∧ f 8 = (.pointer (some ⟨g8, 0, none⟩)) ∧ f 30 = (.bool false) := ⟨fun i => tm.getD i undef, arr_eta tm hsz, hk1, hk2, hk3, hk6, hk8, hn30⟩
  rewrite [show ((List.range 84).map f).toArray = #[f 0, f 1, f 2, f 3, f 4, f 5, f 6, f 7, f 8, f 9, f 10, f 11, f 12, f 13, f 14, f 15, f 16, f 17, f 18, f 19, f 20, f 21, f 22, f 23, f 24, f 25, f 26, f 27, f 28, f 29, f 30, f 31, f 32, f 33, f 34, f 35, f 36, f 37, f 38, f 39, f 40, f 41, f 42, f 43, f 44, f 45, f 46, f 47, f 48, f 49, f 50, f 51, f 52, f 53, f 54, f 55, f 56, f 57, f 58, f 59, f 60, f 61, f 62, f 63, f 64, f 65, f 66, f 67, f 68, f 69, f 70, f 71, f 72, f 73, f 74, f 75, f 76, f 77, f 78, f 79, f 80, f 81, f 82, f 83] from rfl]
  rewrite [hk1, hk2, hk3, hk6, hk8, hn30]
  dsimp only
  clear hsz hk1 hk2 hk3 hk6 hk8 hn30
  replace T := T.grow hbT
  clear hbT
  have b4 : W2.cell? ⟨w.heap.size, 4, none⟩ = some (.bool false) := by rw [← HDD.out]; exact T.c3.2.2.2.2.2
  have b0 := T.c3.2.1
  have bw := (T.below.cell (p := ⟨b, off + k, none⟩) hb).trans HC1.out
  go_wp2_with fail
  refine (ePage_any was _ (by omega)).mono ?_
  rintro e W3 ⟨rfl, hb3⟩
  replace T := T.grow hb3
  clear hb3 b4 b0 bw
  have b2' : W3.cell? ⟨w.heap.size, 2, none⟩ = some (.int .i64 0) := by rw [← HFU.out]; exact T.c3.2.2.2.1
  obtain ⟨gp, capp, _, hvp, _⟩ := T.p'.some_ (by rw [List.length_map]; omega)
  rw [List.length_map] at hvp
  subst hvp
  go_wp2_with fail
  refine take9 _ _ w _ rfl (w.heap.size + 2) g8 w.heap.size (w.heap.size + 1) g8 k gp F.pages.length capp F F _ _ vw' was (List.replicate was.length 255) rfl rfl rfl rfl rfl T hk hk (by omega) (by simp; omega) (by omega) ?_
  clear T b2'
  intro act W4 hdf hsz hkeep T
  have hk1 : act.tmps.getD 1 undef = (.int .i64 (k : Int)) := hkeep 1 (by kernel_rfl)
  have hk2 : act.tmps.getD 2 undef = (.iface 64 (.agg #[])) := hkeep 2 (by kernel_rfl)
  have hk3 : act.tmps.getD 3 undef = (.pointer (some ⟨w.heap.size, 0, none⟩)) := hkeep 3 (by kernel_rfl)
  have hk6 : act.tmps.getD 6 undef = (.pointer (some ⟨w.heap.size + 1, 0, none⟩)) := hkeep 6 (by kernel_rfl)
  have hk8 : act.tmps.getD 8 undef = (.pointer (some ⟨g8, 0, none⟩)) := hkeep 8 (by kernel_rfl)
  obtain ⟨tm, df⟩ := act
  obtain rfl : df = [] := hdf
  clear hkeep
  obtain ⟨f, rfl, hk1, hk2, hk3, hk6, hk8⟩ : ∃ f : Nat → Value, tm = ((List.range 84).map f).toArray ∧ f 1 = (.int .i64 (k : Int)) ∧ f 2 = (.iface 64 (.agg #[])) ∧ f 3 = (.pointer (some ⟨w.heap.size, 0, none⟩)) ∧ f 6 = (.pointer (some ⟨w.heap.size + 1, 0, none⟩)) ∧ f 8 = (.pointer (some ⟨g8, 0, none⟩)) := ⟨fun i => tm.getD i undef, arr_eta tm hsz, hk1, hk2, hk3, hk6, hk8⟩
  rewrite [show ((List.range 84).map f).toArray = #[f 0, f 1, f 2, f 3, f 4, f 5, f 6, f 7, f 8, f 9, f 10, f 11, f 12, f 13, f 14, f 15, f 16, f 17, f 18, f 19, f 20, f 21, f 22, f 23, f 24, f 25, f 26, f 27, f 28, f 29, f 30, f 31, f 32, f 33, f 34, f 35, f 36, f 37, f 38, f 39, f 40, f 41, f 42, f 43, f 44, f 45, f 46, f 47, f 48, f 49, f 50, f 51, f 52, f 53, f 54, f 55, f 56, f 57, f 58, f 59, f 60, f 61, f 62, f 63, f 64, f 65, f 66, f 67, f 68, f 69, f 70, f 71, f 72, f 73, f 74, f 75, f 76, f 77, f 78, f 79, f 80, f 81, f 82, f 83] from rfl]
  rewrite [hk1, hk2, hk3, hk6, hk8]
  dsimp only
  clear hsz hk1 hk2 hk3 hk6 hk8
  obtain ⟨o0, o1, o2, o3, o4, c6⟩ := T.c6
  have HC6 := Kept.mk c6
  have HF6 := Kept.mk T.f6
  obtain ⟨hfl, hB5, hr5⟩ := ti_end T
  have HFL := Kept.mk hfl
  have HR5 := Kept.mk hr5
  obtain ⟨_, k0, k1, k2, k3, k4⟩ := T.c8
  clear T c6 hfl hr5
  go_wp2_with (refine wpList_store5 rfl (.tmp 6) (.tmp 56) rfl (w.heap.size + 1) _ _ _ _ _ rfl rfl HC6.out HF6.out oo1 oo2 rfl rfl rfl ?_)
  exact bodyPost_ret (results2 rfl _ _ (w.heap.size + 1) _ _ _ _ _ (.int .i64 8) rfl rfl HR5.out) rfl ⟨_, rfl, HFL.out, hB5⟩

set_option maxRecDepth 100000 in
set_option maxHeartbeats 2000000 in
theorem take_edone (F : Fl) (v : Value) (w : World) (hv : isFl F v w) (k : Nat) (hdead : F.dead = false) (hfuse : F.fuse < 0) (hhas : hasB F (k : Int) = true) :
    Calls Tryz.prog 54 #[v, .int .i64 (k : Int), (.iface 64 (.agg #[]))] w fun e w' => ∃ v', e = .returned (.tuple #[v', .int .i64 0]) ∧ isFlN w.heap.size { F with pages := F.pages.set k (List.replicate (F.pages.getD k []).length 255), wear := F.wear.set k (wornN (F.wear.getD k 0)) } v' w' ∧ Below w.heap.size w w' := by
  have HDD := Kept.mk hdead
  clear hdead
  have HFU := Kept.mk hfuse
  clear hfuse
  have HHF := Kept.mk (has_facts F k hhas)
  obtain ⟨hk, h6, hwl, htl, hpg, hwr⟩ := HHF.out
  obtain ⟨was, hwas⟩ : ∃ was, F.pages[k]? = some was := ⟨_, List.getElem?_eq_getElem hk⟩
  obtain ⟨wn, hwn⟩ : ∃ wn, F.wear[k]? = some wn := ⟨_, List.getElem?_eq_getElem (by omega)⟩
  have hwm : was.length ≤ 8192 := (hpg _ (List.mem_of_getElem? hwas)).2.1
  have hn01 := hwr wn (List.mem_of_getElem? hwn)
  obtain ⟨vp, vw, rfl, hp, hq⟩ := hv
  obtain ⟨b, off, cap, hvp, hb, hc⟩ := hp.some_ (by rw [List.length_map]; omega)
  obtain ⟨b2, off2, cap2, hvw, hb2, hc2⟩ := hq.some_ (by rw [List.length_map]; omega)
  rw [List.length_map] at hvp hvw
  subst hvp hvw
  have hcell : w.cell? ⟨b, off + k, none⟩ = some (.string ⟨was.toArray⟩) := hc k _ (by simp [hwas, strC])
  have hcell2 : w.cell? ⟨b2, off2 + k, none⟩ = some (.int .i64 wn) := hc2 k _ (by simp [hwn, intC])
  have hkw : k < F.wear.length := by omega
  have hwl6 : F.wear.length ≤ 6 := by omega
  have HWL := Kept.mk hwl
  clear hwl
  have hget1 : F.pages.getD k [] = was := by simp [List.getD_eq_getElem?_getD, hwas]
  have hget2 : F.wear.getD k 0 = wn := by simp [List.getD_eq_getElem?_getD, hwn]
  try rw [hget1]
  try rw [hget2]
  clear hget1 hget2
  have HW := Kept.mk hwas
  have HWN := Kept.mk hwn
  have HC1 := Kept.mk hcell
  have HC2 := Kept.mk hcell2
  have hb0 : Below w.heap.size w ((w.alloc (.cells #[.slice (some ⟨b, off, none⟩) F.pages.length cap, .slice (some ⟨b2, off2, none⟩) F.wear.length cap2, .int .i64 F.fuse, strC F.torn, .bool F.dead] 31)).alloc (.cells #[.slice none 0 0, .slice none 0 0, .int .i64 0, .string ⟨#[]⟩, .bool false] 31)) := ((Below.refl _ _).alloc (Nat.le_refl _) _).alloc (by simp) _
  have HP := Kept.mk hp
  have HQ := Kept.mk hq
  have HB0 := Kept.mk hb0
  clear hp hq hb0 hc hc2 hcell hcell2 hwas hwn hpg hwr
  go_enter Tryz.func54, Tryz.ntmps54
  go_wp2_with fail
  refine (copied_any F _ _ ⟨.slice (some ⟨b, off, none⟩) F.pages.length cap, .slice (some ⟨b2, off2, none⟩) F.wear.length cap2, rfl, stable_cells _ _ _ _ HP.out HB0.out, stable_cells _ _ _ _ HQ.out HB0.out⟩ (by omega) (by omega)).mono ?_
  rintro e w1 ⟨vp', vw', rfl, ho1, ho2, hb1⟩
  have TI0 := Lib.hid (ti_start F w w1 (.slice (some ⟨b, off, none⟩) F.pages.length cap) (.slice (some ⟨b2, off2, none⟩) F.wear.length cap2) vp' vw' HP.out HQ.out hb1 ho1 ho2)
  have HC8 := Lib.hid (cells5_new w1 31 (.slice none 0 0) (.slice none 0 0) (.int .i64 0) (.string ⟨#[]⟩) (.bool false))
  have HF8 := Lib.hid (free5_new w1 #[.slice none 0 0, .slice none 0 0, .int .i64 0, .string ⟨#[]⟩, .bool false] 31)
  have oo1 := (ho1.one).2
  have oo2 := (ho2.one).2
  clear ho1 ho2 hb1 HB0
  go_wp2_with (refine wpList_store5 rfl (.tmp 8) (.tmp 12) rfl w1.heap.size vp' vw' (.int .i64 F.fuse) (strC F.torn) (.bool F.dead) rfl rfl HC8.out HF8.out oo1 oo2 rfl rfl rfl ?_)
  have T := TI0.out
  clear TI0 HC8 HF8
  generalize set5 (w1.alloc (.cells #[.slice none 0 0, .slice none 0 0, .int .i64 0, .string ⟨#[]⟩, .bool false] 31)) w1.heap.size vp' vw' (.int .i64 F.fuse) (strC F.torn) (.bool F.dead) = W at *
  generalize w1.heap.size = g8 at *
  refine take2_eyes _ _ _ rfl w.heap.size F _ k b off F.pages.length cap was hk ((T.below.cell (p := ⟨b, off + k, none⟩) hb).trans HC1.out) (Nat.lt_of_lt_of_le hb T.below.size) (by omega) rfl rfl rfl T.c3 T.fl (by omega) (by omega) hhas ?_
  intro act W2 hdf hsz hkeep hn30 hbT
  have hk1 : act.tmps.getD 1 undef = (.int .i64 (k : Int)) := hkeep 1 (by kernel_rfl)
  have hk2 : act.tmps.getD 2 undef = (.iface 64 (.agg #[])) := hkeep 2 (by kernel_rfl)
  have hk3 : act.tmps.getD 3 undef = (.pointer (some ⟨w.heap.size, 0, none⟩)) := hkeep 3 (by kernel_rfl)
  have hk6 : act.tmps.getD 6 undef = (.pointer (some ⟨w.heap.size + 1, 0, none⟩)) := hkeep 6 (by kernel_rfl)
  have hk8 : act.tmps.getD 8 undef = (.pointer (some ⟨g8, 0, none⟩)) := hkeep 8 (by kernel_rfl)
  obtain ⟨tm, df⟩ := act
  obtain rfl : df = [] := hdf
  clear hkeep
  obtain ⟨f, rfl, hk1, hk2, hk3, hk6, hk8, hn30⟩ : ∃ f : Nat → Value, tm = ((List.range 84).map f).toArray ∧ f 1 = (.int .i64 (k : Int)) ∧ f 2 = (.iface 64 (.agg #[])) ∧ f 3 = (.pointer (some ⟨w.heap.size, 0, none⟩)) ∧ f 6 = (.pointer (some ⟨w.heap.size + 1, 0, none⟩)) ∧ f 8 = (.pointer (some ⟨g8, 0, none⟩)) ∧ f 30 = (.bool false) := ⟨fun i => tm.getD i undef, arr_eta tm hsz, hk1, hk2, hk3, hk6, hk8, hn30⟩
  rewrite [show ((List.range 84).map f).toArray = #[f 0, f 1, f 2, f 3, f 4, f 5, f 6, f 7, f 8, f 9, f 10, f 11, f 12, f 13, f 14, f 15, f 16, f 17, f 18, f 19, f 20, f 21, f 22, f 23, f 24, f 25, f 26, f 27, f 28, f 29, f 30, f 31, f 32, f 33, f 34, f 35, f 36, f 37, f 38, f 39, f 40, f 41, f 42, f 43, f 44, f 45, f 46, f 47, f 48, f 49, f 50, f 51, f 52, f 53, f 54, f 55, f 56, f 57, f 58, f 59, f 60, f 61, f 62, f 63, f 64, f 65, f 66, f 67, f 68, f 69, f 70, f 71, f 72, f 73, f 74, f 75, f 76, f 77, f 78, f 79, f 80, f 81, f 82, f 83] from rfl]
  rewrite [hk1, hk2, hk3, hk6, hk8, hn30]
  dsimp only
  clear hsz hk1 hk2 hk3 hk6 hk8 hn30
  replace T := T.grow hbT
  clear hbT
  have b4 : W2.cell? ⟨w.heap.size, 4, none⟩ = some (.bool false) := by rw [← HDD.out]; exact T.c3.2.2.2.2.2
  have b0 := T.c3.2.1
  have bw := (T.below.cell (p := ⟨b, off + k, none⟩) hb).trans HC1.out
  go_wp2_with fail
  refine (ePage_any was _ (by omega)).mono ?_
  rintro e W3 ⟨rfl, hb3⟩
  replace T := T.grow hb3
  clear hb3 b4 b0 bw
  have b2' : W3.cell? ⟨w.heap.size, 2, none⟩ = some (.int .i64 F.fuse) := T.c3.2.2.2.1
  obtain ⟨gp, capp, _, hvp, _⟩ := T.p'.some_ (by rw [List.length_map]; omega)
  obtain ⟨gw, capw, _, hvw, _⟩ := T.q'.some_ (by rw [List.length_map]; omega)
  rw [List.length_map] at hvp hvw
  subst hvp hvw
  have hf0 : (F.fuse == 0) = false := by have := HFU.out; simp; omega
  go_wp2_with fail
  refine take11_e _ _ w _ rfl (w.heap.size + 2) g8 w.heap.size (w.heap.size + 1) g8 k gp F.pages.length capp gw F.wear.length capw b2 off2 F.wear.length cap2 F F _ (List.replicate was.length 255) wn rfl rfl rfl rfl rfl T hk hk hkw hkw hkw ((T.below.cell (p := ⟨b2, off2 + k, none⟩) hb2).trans HC2.out) hb2 hn01.1 hn01.2 ?_
  clear T b2'
  intro act W4 hdf hsz hkeep T
  have hk1 : act.tmps.getD 1 undef = (.int .i64 (k : Int)) := hkeep 1 (by kernel_rfl)
  have hk2 : act.tmps.getD 2 undef = (.iface 64 (.agg #[])) := hkeep 2 (by kernel_rfl)
  have hk3 : act.tmps.getD 3 undef = (.pointer (some ⟨w.heap.size, 0, none⟩)) := hkeep 3 (by kernel_rfl)
  have hk6 : act.tmps.getD 6 undef = (.pointer (some ⟨w.heap.size + 1, 0, none⟩)) := hkeep 6 (by kernel_rfl)
  have hk8 : act.tmps.getD 8 undef = (.pointer (some ⟨g8, 0, none⟩)) := hkeep 8 (by kernel_rfl)
  obtain ⟨tm, df⟩ := act
  obtain rfl : df = [] := hdf
  clear hkeep
  obtain ⟨f, rfl, hk1, hk2, hk3, hk6, hk8⟩ : ∃ f : Nat → Value, tm = ((List.range 84).map f).toArray ∧ f 1 = (.int .i64 (k : Int)) ∧ f 2 = (.iface 64 (.agg #[])) ∧ f 3 = (.pointer (some ⟨w.heap.size, 0, none⟩)) ∧ f 6 = (.pointer (some ⟨w.heap.size + 1, 0, none⟩)) ∧ f 8 = (.pointer (some ⟨g8, 0, none⟩)) := ⟨fun i => tm.getD i undef, arr_eta tm hsz, hk1, hk2, hk3, hk6, hk8⟩
  rewrite [show ((List.range 84).map f).toArray = #[f 0, f 1, f 2, f 3, f 4, f 5, f 6, f 7, f 8, f 9, f 10, f 11, f 12, f 13, f 14, f 15, f 16, f 17, f 18, f 19, f 20, f 21, f 22, f 23, f 24, f 25, f 26, f 27, f 28, f 29, f 30, f 31, f 32, f 33, f 34, f 35, f 36, f 37, f 38, f 39, f 40, f 41, f 42, f 43, f 44, f 45, f 46, f 47, f 48, f 49, f 50, f 51, f 52, f 53, f 54, f 55, f 56, f 57, f 58, f 59, f 60, f 61, f 62, f 63, f 64, f 65, f 66, f 67, f 68, f 69, f 70, f 71, f 72, f 73, f 74, f 75, f 76, f 77, f 78, f 79, f 80, f 81, f 82, f 83] from rfl]
  rewrite [hk1, hk2, hk3, hk6, hk8]
  dsimp only
  clear hsz hk1 hk2 hk3 hk6 hk8
  have b2' : W4.cell? ⟨w.heap.size, 2, none⟩ = some (.int .i64 F.fuse) := T.c3.2.2.2.1
  have hfd : decide (0 < F.fuse) = false := by have := HFU.out; simp; omega
  obtain ⟨o0, o1, o2, o3, o4, c6⟩ := T.c6
  have HC6 := Kept.mk c6
  have HF6 := Kept.mk T.f6
  obtain ⟨hfl, hB5, hr5⟩ := ti_end T
  have HFL := Kept.mk hfl
  have HR5 := Kept.mk hr5
  obtain ⟨_, k0, k1, k2, k3, k4⟩ := T.c8
  clear T c6 hfl hr5
  go_wp2_with (refine wpList_store5 rfl (.tmp 6) (.tmp 83) rfl (w.heap.size + 1) _ _ _ _ _ rfl rfl HC6.out HF6.out oo1 oo2 rfl rfl rfl ?_)
  exact bodyPost_ret (results2 rfl _ _ (w.heap.size + 1) _ _ _ _ _ (.int .i64 0) rfl rfl HR5.out) rfl ⟨_, rfl, HFL.out, hB5⟩

set_option maxRecDepth 100000 in
set_option maxHeartbeats 2000000 in
theorem take_eburn (F : Fl) (v : Value) (w : World) (hv : isFl F v w) (k : Nat) (hdead : F.dead = false) (hfuse : 0 < F.fuse) (hfz : F.fuse ≤ 9223372036854775807) (hhas : hasB F (k : Int) = true) :
    Calls Tryz.prog 54 #[v, .int .i64 (k : Int), (.iface 64 (.agg #[]))] w fun e w' => ∃ v', e = .returned (.tuple #[v', .int .i64 0]) ∧ isFlN w.heap.size { F with pages := F.pages.set k (List.replicate (F.pages.getD k []).length 255), wear := F.wear.set k (wornN (F.wear.getD k 0)), fuse := F.fuse - 1 } v' w' ∧ Below w.heap.size w w' := by
  have HDD := Kept.mk hdead
  clear hdead
  have HFU := Kept.mk hfuse
  clear hfuse
  have HFZ := Kept.mk hfz
  clear hfz
  have HHF := Kept.mk (has_facts F k hhas)
  obtain ⟨hk, h6, hwl, htl, hpg, hwr⟩ := HHF.out
  obtain ⟨was, hwas⟩ : ∃ was, F.pages[k]? = some was := ⟨_, List.getElem?_eq_getElem hk⟩
  obtain ⟨wn, hwn⟩ : ∃ wn, F.wear[k]? = some wn := ⟨_, List.getElem?_eq_getElem (by omega)⟩
  have hwm : was.length ≤ 8192 := (hpg _ (List.mem_of_getElem? hwas)).2.1
  have hn01 := hwr wn (List.mem_of_getElem? hwn)
  obtain ⟨vp, vw, rfl, hp, hq⟩ := hv
  obtain ⟨b, off, cap, hvp, hb, hc⟩ := hp.some_ (by rw [List.length_map]; omega)
  obtain ⟨b2, off2, cap2, hvw, hb2, hc2⟩ := hq.some_ (by rw [List.length_map]; omega)
  rw [List.length_map] at hvp hvw
  subst hvp hvw
  have hcell : w.cell? ⟨b, off + k, none⟩ = some (.string ⟨was.toArray⟩) := hc k _ (by simp [hwas, strC])
  have hcell2 : w.cell? ⟨b2, off2 + k, none⟩ = some (.int .i64 wn) := hc2 k _ (by simp [hwn, intC])
  have hkw : k < F.wear.length := by omega
  have hwl6 : F.wear.length ≤ 6 := by omega
  have HWL := Kept.mk hwl
  clear hwl
  have hget1 : F.pages.getD k [] = was := by simp [List.getD_eq_getElem?_getD, hwas]
  have hget2 : F.wear.getD k 0 = wn := by simp [List.getD_eq_getElem?_getD, hwn]
  try rw [hget1]
  try rw [hget2]
  clear hget1 hget2
  have HW := Kept.mk hwas
  have HWN := Kept.mk hwn
  have HC1 := Kept.mk hcell
  have HC2 := Kept.mk hcell2
  have hb0 : Below w.heap.size w ((w.alloc (.cells #[.slice (some ⟨b, off, none⟩) F.pages.length cap, .slice (some ⟨b2, off2, none⟩) F.wear.length cap2, .int .i64 F.fuse, strC F.torn, .bool F.dead] 31)).alloc (.cells #[.slice none 0 0, .slice none 0 0, .int .i64 0, .string ⟨#[]⟩, .bool false] 31)) := ((Below.refl _ _).alloc (Nat.le_refl _) _).alloc (by simp) _
  have HP := Kept.mk hp
  have HQ := Kept.mk hq
  have HB0 := Kept.mk hb0
  clear hp hq hb0 hc hc2 hcell hcell2 hwas hwn hpg hwr
  go_enter Tryz.func54, Tryz.ntmps54
  go_wp2_with fail
  refine (copied_any F _ _ ⟨.slice (some ⟨b, off, none⟩) F.pages.length cap, .slice (some ⟨b2, off2, none⟩) F.wear.length cap2, rfl, stable_cells _ _ _ _ HP.out HB0.out, stable_cells _ _ _ _ HQ.out HB0.out⟩ (by omega) (by omega)).mono ?_
  rintro e w1 ⟨vp', vw', rfl, ho1, ho2, hb1⟩
  have TI0 := Lib.hid (ti_start F w w1 (.slice (some ⟨b, off, none⟩) F.pages.length cap) (.slice (some ⟨b2, off2, none⟩) F.wear.length cap2) vp' vw' HP.out HQ.out hb1 ho1 ho2)
  have HC8 := Lib.hid (cells5_new w1 31 (.slice none 0 0) (.slice none 0 0) (.int .i64 0) (.string ⟨#[]⟩) (.bool false))
  have HF8 := Lib.hid (free5_new w1 #[.slice none 0 0, .slice none 0 0, .int .i64 0, .string ⟨#[]⟩, .bool false] 31)
  have oo1 := (ho1.one).2
  have oo2 := (ho2.one).2
  clear ho1 ho2 hb1 HB0
  go_wp2_with (refine wpList_store5 rfl (.tmp 8) (.tmp 12) rfl w1.heap.size vp' vw' (.int .i64 F.fuse) (strC F.torn) (.bool F.dead) rfl rfl HC8.out HF8.out oo1 oo2 rfl rfl rfl ?_)
  have T := TI0.out
  clear TI0 HC8 HF8
  generalize set5 (w1.alloc (.cells #[.slice none 0 0, .slice none 0 0, .int .i64 0, .string ⟨#[]⟩, .bool false] 31)) w1.heap.size vp' vw' (.int .i64 F.fuse) (strC F.torn) (.bool F.dead) = W at *
  generalize w1.heap.size = g8 at *
  refine take2_eyes _ _ _ rfl w.heap.size F _ k b off F.pages.length cap was hk ((T.below.cell (p := ⟨b, off + k, none⟩) hb).trans HC1.out) (Nat.lt_of_lt_of_le hb T.below.size) (by omega) rfl rfl rfl T.c3 T.fl (by omega) (by omega) hhas ?_
  intro act W2 hdf hsz hkeep hn30 hbT
  have hk1 : act.tmps.getD 1 undef = (.int .i64 (k : Int)) := hkeep 1 (by kernel_rfl)
  have hk2 : act.tmps.getD 2 undef = (.iface 64 (.agg #[])) := hkeep 2 (by kernel_rfl)
  have hk3 : act.tmps.getD 3 undef = (.pointer (some ⟨w.heap.size, 0, none⟩)) := hkeep 3 (by kernel_rfl)
  have hk6 : act.tmps.getD 6 undef = (.pointer (some ⟨w.heap.size + 1, 0, none⟩)) := hkeep 6 (by kernel_rfl)
  have hk8 : act.tmps.getD 8 undef = (.pointer (some ⟨g8, 0, none⟩)) := hkeep 8 (by kernel_rfl)
  obtain ⟨tm, df⟩ := act
  obtain rfl : df = [] := hdf
  clear hkeep
  obtain ⟨f, rfl, hk1, hk2, hk3, hk6, hk8, hn30⟩ : ∃ f : Nat → Value, tm = ((List.range 84).map f).toArray ∧ f 1 = (.int .i64 (k : Int)) ∧ f 2 = (.iface 64 (.agg #[])) ∧ f 3 = (.pointer (some ⟨w.heap.size, 0, none⟩)) ∧ f 6 = (.pointer (some ⟨w.heap.size + 1, 0, none⟩)) ∧ f 8 = (.pointer (some ⟨g8, 0, none⟩)) ∧ f 30 = (.bool false) := ⟨fun i => tm.getD i undef, arr_eta tm hsz, hk1, hk2, hk3, hk6, hk8, hn30⟩
  rewrite [show ((List.range 84).map f).toArray = #[f 0, f 1, f 2, f 3, f 4, f 5, f 6, f 7, f 8, f 9, f 10, f 11, f 12, f 13, f 14, f 15, f 16, f 17, f 18, f 19, f 20, f 21, f 22, f 23, f 24, f 25, f 26, f 27, f 28, f 29, f 30, f 31, f 32, f 33, f 34, f 35, f 36, f 37, f 38, f 39, f 40, f 41, f 42, f 43, f 44, f 45, f 46, f 47, f 48, f 49, f 50, f 51, f 52, f 53, f 54, f 55, f 56, f 57, f 58, f 59, f 60, f 61, f 62, f 63, f 64, f 65, f 66, f 67, f 68, f 69, f 70, f 71, f 72, f 73, f 74, f 75, f 76, f 77, f 78, f 79, f 80, f 81, f 82, f 83] from rfl]
  rewrite [hk1, hk2, hk3, hk6, hk8, hn30]
  dsimp only
  clear hsz hk1 hk2 hk3 hk6 hk8 hn30
  replace T := T.grow hbT
  clear hbT
  have b4 : W2.cell? ⟨w.heap.size, 4, none⟩ = some (.bool false) := by rw [← HDD.out]; exact T.c3.2.2.2.2.2
  have b0 := T.c3.2.1
  have bw := (T.below.cell (p := ⟨b, off + k, none⟩) hb).trans HC1.out
  go_wp2_with fail
  refine (ePage_any was _ (by omega)).mono ?_
  rintro e W3 ⟨rfl, hb3⟩
  replace T := T.grow hb3
  clear hb3 b4 b0 bw
  have b2' : W3.cell? ⟨w.heap.size, 2, none⟩ = some (.int .i64 F.fuse) := T.c3.2.2.2.1
  obtain ⟨gp, capp, _, hvp, _⟩ := T.p'.some_ (by rw [List.length_map]; omega)
  obtain ⟨gw, capw, _, hvw, _⟩ := T.q'.some_ (by rw [List.length_map]; omega)
  rw [List.length_map] at hvp hvw
  subst hvp hvw
  have hf0 : (F.fuse == 0) = false := by have := HFU.out; simp; omega
  go_wp2_with fail
  refine take11_e _ _ w _ rfl (w.heap.size + 2) g8 w.heap.size (w.heap.size + 1) g8 k gp F.pages.length capp gw F.wear.length capw b2 off2 F.wear.length cap2 F F _ (List.replicate was.length 255) wn rfl rfl rfl rfl rfl T hk hk hkw hkw hkw ((T.below.cell (p := ⟨b2, off2 + k, none⟩) hb2).trans HC2.out) hb2 hn01.1 hn01.2 ?_
  clear T b2'
  intro act W4 hdf hsz hkeep T
  have hk1 : act.tmps.getD 1 undef = (.int .i64 (k : Int)) := hkeep 1 (by kernel_rfl)
  have hk2 : act.tmps.getD 2 undef = (.iface 64 (.agg #[])) := hkeep 2 (by kernel_rfl)
  have hk3 : act.tmps.getD 3 undef = (.pointer (some ⟨w.heap.size, 0, none⟩)) := hkeep 3 (by kernel_rfl)
  have hk6 : act.tmps.getD 6 undef = (.pointer (some ⟨w.heap.size + 1, 0, none⟩)) := hkeep 6 (by kernel_rfl)
  have hk8 : act.tmps.getD 8 undef = (.pointer (some ⟨g8, 0, none⟩)) := hkeep 8 (by kernel_rfl)
  obtain ⟨tm, df⟩ := act
  obtain rfl : df = [] := hdf
  clear hkeep
  obtain ⟨f, rfl, hk1, hk2, hk3, hk6, hk8⟩ : ∃ f : Nat → Value, tm = ((List.range 84).map f).toArray ∧ f 1 = (.int .i64 (k : Int)) ∧ f 2 = (.iface 64 (.agg #[])) ∧ f 3 = (.pointer (some ⟨w.heap.size, 0, none⟩)) ∧ f 6 = (.pointer (some ⟨w.heap.size + 1, 0, none⟩)) ∧ f 8 = (.pointer (some ⟨g8, 0, none⟩)) := ⟨fun i => tm.getD i undef, arr_eta tm hsz, hk1, hk2, hk3, hk6, hk8⟩
  rewrite [show ((List.range 84).map f).toArray = #[f 0, f 1, f 2, f 3, f 4, f 5, f 6, f 7, f 8, f 9, f 10, f 11, f 12, f 13, f 14, f 15, f 16, f 17, f 18, f 19, f 20, f 21, f 22, f 23, f 24, f 25, f 26, f 27, f 28, f 29, f 30, f 31, f 32, f 33, f 34, f 35, f 36, f 37, f 38, f 39, f 40, f 41, f 42, f 43, f 44, f 45, f 46, f 47, f 48, f 49, f 50, f 51, f 52, f 53, f 54, f 55, f 56, f 57, f 58, f 59, f 60, f 61, f 62, f 63, f 64, f 65, f 66, f 67, f 68, f 69, f 70, f 71, f 72, f 73, f 74, f 75, f 76, f 77, f 78, f 79, f 80, f 81, f 82, f 83] from rfl]
  rewrite [hk1, hk2, hk3, hk6, hk8]
  dsimp only
  clear hsz hk1 hk2 hk3 hk6 hk8
  have b2' : W4.cell? ⟨w.heap.size, 2, none⟩ = some (.int .i64 F.fuse) := T.c3.2.2.2.1
  have hfd : decide (0 < F.fuse) = true := by have := HFU.out; simp; omega
  have hfb := HFZ.out
  have hfb1 := HFU.out
  have k2' : W4.cell? ⟨g8, 2, none⟩ = some (.int .i64 F.fuse) := T.c8.2.2.2.1
  have f2' := T.f8 2
  replace T := T.burn (F.fuse - 1)
  obtain ⟨o0, o1, o2, o3, o4, c6⟩ := T.c6
  have HC6 := Kept.mk c6
  have HF6 := Kept.mk T.f6
  obtain ⟨hfl, hB5, hr5⟩ := ti_end T
  have HFL := Kept.mk hfl
  have HR5 := Kept.mk hr5
  obtain ⟨_, k0, k1, k2, k3, k4⟩ := T.c8
  clear T c6 hfl hr5
  go_wp2_with (refine wpList_store5 rfl (.tmp 6) (.tmp 83) rfl (w.heap.size + 1) _ _ _ _ _ rfl rfl HC6.out HF6.out oo1 oo2 rfl rfl rfl ?_)
  exact bodyPost_ret (results2 rfl _ _ (w.heap.size + 1) _ _ _ _ _ (.int .i64 0) rfl rfl HR5.out) rfl ⟨_, rfl, HFL.out, hB5⟩

set_option maxRecDepth 100000 in
set_option maxHeartbeats 2000000 in
theorem take_pdead (F : Fl) (v : Value) (w : World) (hv : isFl F v w) (k : Nat) (at_ : Nat) (s : List UInt8) (hs : s.length ≤ 1000000) (hat : at_ + s.length ≤ (F.pages.getD k []).length) (hdead : F.dead = true) (hhas : hasB F (k : Int) = true) :
    Calls Tryz.prog 54 #[v, .int .i64 (k : Int), (.iface 77 (.agg #[.int .i64 (at_ : Int), .string ⟨s.toArray⟩]))] w fun e w' => ∃ v', e = .returned (.tuple #[v', .int .i64 8]) ∧ isFlN w.heap.size F v' w' ∧ Below w.heap.size w w' := by
  have HDD := Kept.mk hdead
  clear hdead
  have HHF := Kept.mk (has_facts F k hhas)
  obtain ⟨hk, h6, hwl, htl, hpg, hwr⟩ := HHF.out
  obtain ⟨was, hwas⟩ : ∃ was, F.pages[k]? = some was := ⟨_, List.getElem?_eq_getElem hk⟩
  obtain ⟨wn, hwn⟩ : ∃ wn, F.wear[k]? = some wn := ⟨_, List.getElem?_eq_getElem (by omega)⟩
  have hwm : was.length ≤ 8192 := (hpg _ (List.mem_of_getElem? hwas)).2.1
  have hn01 := hwr wn (List.mem_of_getElem? hwn)
  obtain ⟨vp, vw, rfl, hp, hq⟩ := hv
  obtain ⟨b, off, cap, hvp, hb, hc⟩ := hp.some_ (by rw [List.length_map]; omega)
  obtain ⟨b2, off2, cap2, hvw, hb2, hc2⟩ := hq.some_ (by rw [List.length_map]; omega)
  rw [List.length_map] at hvp hvw
  subst hvp hvw
  have hcell : w.cell? ⟨b, off + k, none⟩ = some (.string ⟨was.toArray⟩) := hc k _ (by simp [hwas, strC])
  have hcell2 : w.cell? ⟨b2, off2 + k, none⟩ = some (.int .i64 wn) := hc2 k _ (by simp [hwn, intC])
  have hkw : k < F.wear.length := by omega
  have hwl6 : F.wear.length ≤ 6 := by omega
  have HWL := Kept.mk hwl
  clear hwl
  have hget1 : F.pages.getD k [] = was := by simp [List.getD_eq_getElem?_getD, hwas]
  have hget2 : F.wear.getD k 0 = wn := by simp [List.getD_eq_getElem?_getD, hwn]
  try rw [hget1]
  try rw [hget2]
  have hatw : at_ + s.length ≤ was.length := by rw [← hget1]; exact hat
  have hfit : (decide (0 ≤ (at_ : Int)) && decide ((at_ : Int) ≤ (was.length : Int) - (s.length : Int))) = true := by simp; omega
  have HFIT := Kept.mk hfit
  clear hget1 hget2 hat hfit
  have HW := Kept.mk hwas
  have HWN := Kept.mk hwn
  have HC1 := Kept.mk hcell
  have HC2 := Kept.mk hcell2
  have hb0 : Below w.heap.size w ((w.alloc (.cells #[.slice (some ⟨b, off, none⟩) F.pages.length cap, .slice (some ⟨b2, off2, none⟩) F.wear.length cap2, .int .i64 F.fuse, strC F.torn, .bool F.dead] 31)).alloc (.cells #[.slice none 0 0, .slice none 0 0, .int .i64 0, .string ⟨#[]⟩, .bool false] 31)) := ((Below.refl _ _).alloc (Nat.le_refl _) _).alloc (by simp) _
  have HP := Kept.mk hp
  have HQ := Kept.mk hq
  have HB0 := Kept.mk hb0
  clear hp hq hb0 hc hc2 hcell hcell2 hwas hwn hpg hwr
  go_enter Tryz.func54, Tryz.ntmps54
  go_wp2_with fail
  refine (copied_any F _ _ ⟨.slice (some ⟨b, off, none⟩) F.pages.length cap, .slice (some ⟨b2, off2, none⟩) F.wear.length cap2, rfl, stable_cells _ _ _ _ HP.out HB0.out, stable_cells _ _ _ _ HQ.out HB0.out⟩ (by omega) (by omega)).mono ?_
  rintro e w1 ⟨vp', vw', rfl, ho1, ho2, hb1⟩
  have TI0 := Lib.hid (ti_start F w w1 (.slice (some ⟨b, off, none⟩) F.pages.length cap) (.slice (some ⟨b2, off2, none⟩) F.wear.length cap2) vp' vw' HP.out HQ.out hb1 ho1 ho2)
  have HC8 := Lib.hid (cells5_new w1 31 (.slice none 0 0) (.slice none 0 0) (.int .i64 0) (.string ⟨#[]⟩) (.bool false))
  have HF8 := Lib.hid (free5_new w1 #[.slice none 0 0, .slice none 0 0, .int .i64 0, .string ⟨#[]⟩, .bool false] 31)
  have oo1 := (ho1.one).2
  have oo2 := (ho2.one).2
  clear ho1 ho2 hb1 HB0
  go_wp2_with (refine wpList_store5 rfl (.tmp 8) (.tmp 12) rfl w1.heap.size vp' vw' (.int .i64 F.fuse) (strC F.torn) (.bool F.dead) rfl rfl HC8.out HF8.out oo1 oo2 rfl rfl rfl ?_)
  have T := TI0.out
  clear TI0 HC8 HF8
  generalize set5 (w1.alloc (.cells #[.slice none 0 0, .slice none 0 0, .int .i64 0, .string ⟨#[]⟩, .bool false] 31)) w1.heap.size vp' vw' (.int .i64 F.fuse) (strC F.torn) (.bool F.dead) = W at *
  generalize w1.heap.size = g8 at *
  refine take2_pyes _ _ _ rfl w.heap.size F _ (at_ : Int) s hs k b off F.pages.length cap was hk ((T.below.cell (p := ⟨b, off + k, none⟩) hb).trans HC1.out) (Nat.lt_of_lt_of_le hb T.below.size) (by omega) HFIT.out rfl rfl rfl T.c3 T.fl (by omega) (by omega) hhas ?_
  intro act W2 hdf hsz hkeep hn30 hbT
  have hk1 : act.tmps.getD 1 undef = (.int .i64 (k : Int)) := hkeep 1 (by kernel_rfl)
  have hk2 : act.tmps.getD 2 undef = (.iface 77 (.agg #[.int .i64 (at_ : Int), .string ⟨s.toArray⟩])) := hkeep 2 (by kernel_rfl)
  have hk3 : act.tmps.getD 3 undef = (.pointer (some ⟨w.heap.size, 0, none⟩)) := hkeep 3 (by kernel_rfl)
  have hk6 : act.tmps.getD 6 undef = (.pointer (some ⟨w.heap.size + 1, 0, none⟩)) := hkeep 6 (by kernel_rfl)
  have hk8 : act.tmps.getD 8 undef = (.pointer (some ⟨g8, 0, none⟩)) := hkeep 8 (by kernel_rfl)
  obtain ⟨tm, df⟩ := act
  obtain rfl : df = [] := hdf
  clear hkeep
  obtain ⟨f, rfl, hk1, hk2, hk3, hk6, hk8, hn30⟩ : ∃ f : Nat → Value, tm = ((List.range 84).map f).toArray ∧ f 1 = (.int .i64 (k : Int)) ∧ f 2 = (.iface 77 (.agg #[.int .i64 (at_ : Int), .string ⟨s.toArray⟩])) ∧ f 3 = (.pointer (some ⟨w.heap.size, 0, none⟩)) ∧ f 6 = (.pointer (some ⟨w.heap.size + 1, 0, none⟩)) ∧ f 8 = (.pointer (some ⟨g8, 0, none⟩)) ∧ f 30 = (.bool false) := ⟨fun i => tm.getD i undef, arr_eta tm hsz, hk1, hk2, hk3, hk6, hk8, hn30⟩
  rewrite [show ((List.range 84).map f).toArray = #[f 0, f 1, f 2, f 3, f 4, f 5, f 6, f 7, f 8, f 9, f 10, f 11, f 12, f 13, f 14, f 15, f 16, f 17, f 18, f 19, f 20, f 21, f 22, f 23, f 24, f 25, f 26, f 27, f 28, f 29, f 30, f 31, f 32, f 33, f 34, f 35, f 36, f 37, f 38, f 39, f 40, f 41, f 42, f 43, f 44, f 45, f 46, f 47, f 48, f 49, f 50, f 51, f 52, f 53, f 54, f 55, f 56, f 57, f 58, f 59, f 60, f 61, f 62, f 63, f 64, f 65, f 66, f 67, f 68, f 69, f 70, f 71, f 72, f 73, f 74, f 75, f 76, f 77, f 78, f 79, f 80, f 81, f 82, f 83] from rfl]
  rewrite [hk1, hk2, hk3, hk6, hk8, hn30]
  dsimp only
  clear hsz hk1 hk2 hk3 hk6 hk8 hn30
  replace T := T.grow hbT
  clear hbT
  have b4 : W2.cell? ⟨w.heap.size, 4, none⟩ = some (.bool true) := by rw [← HDD.out]; exact T.c3.2.2.2.2.2
  obtain ⟨o0, o1, o2, o3, o4, c6⟩ := T.c6
  have HC6 := Kept.mk c6
  have HF6 := Kept.mk T.f6
  obtain ⟨hfl, hB5, hr5⟩ := ti_end T
  have HFL := Kept.mk hfl
  have HR5 := Kept.mk hr5
  obtain ⟨_, k0, k1, k2, k3, k4⟩ := T.c8
  clear T c6 hfl hr5
  go_wp2_with (refine wpList_store5 rfl (.tmp 6) (.tmp 34) rfl (w.heap.size + 1) _ _ _ _ _ rfl rfl HC6.out HF6.out oo1 oo2 rfl rfl rfl ?_)
  exact bodyPost_ret (results2 rfl _ _ (w.heap.size + 1) _ _ _ _ _ (.int .i64 8) rfl rfl HR5.out) rfl ⟨_, rfl, HFL.out, hB5⟩

set_option maxRecDepth 100000 in
set_option maxHeartbeats 2000000 in
theorem take_ptorn (F : Fl) (v : Value) (w : World) (hv : isFl F v w) (k : Nat) (at_ : Nat) (s : List UInt8) (hs : s.length ≤ 1000000) (hat : at_ + s.length ≤ (F.pages.getD k []).length) (hdead : F.dead = false) (hfuse : F.fuse = 0) (hhas : hasB F (k : Int) = true) :
    Calls Tryz.prog 54 #[v, .int .i64 (k : Int), (.iface 77 (.agg #[.int .i64 (at_ : Int), .string ⟨s.toArray⟩]))] w fun e w' => ∃ v', e = .returned (.tuple #[v', .int .i64 8]) ∧ isFlN w.heap.size { F with pages := F.pages.set k (betweenL (F.pages.getD k []) (progL (F.pages.getD k []) at_ s) F.torn), dead := true } v' w' ∧ Below w.heap.size w w' := by
  have HDD := Kept.mk hdead
  clear hdead
  have HFU := Kept.mk hfuse
  clear hfuse
  have HHF := Kept.mk (has_facts F k hhas)
  obtain ⟨hk, h6, hwl, htl, hpg, hwr⟩ := HHF.out
  obtain ⟨was, hwas⟩ : ∃ was, F.pages[k]? = some was := ⟨_, List.getElem?_eq_getElem hk⟩
  obtain ⟨wn, hwn⟩ : ∃ wn, F.wear[k]? = some wn := ⟨_, List.getElem?_eq_getElem (by omega)⟩
  have hwm : was.length ≤ 8192 := (hpg _ (List.mem_of_getElem? hwas)).2.1
  have hn01 := hwr wn (List.mem_of_getElem? hwn)
  obtain ⟨vp, vw, rfl, hp, hq⟩ := hv
  obtain ⟨b, off, cap, hvp, hb, hc⟩ := hp.some_ (by rw [List.length_map]; omega)
  obtain ⟨b2, off2, cap2, hvw, hb2, hc2⟩ := hq.some_ (by rw [List.length_map]; omega)
  rw [List.length_map] at hvp hvw
  subst hvp hvw
  have hcell : w.cell? ⟨b, off + k, none⟩ = some (.string ⟨was.toArray⟩) := hc k _ (by simp [hwas, strC])
  have hcell2 : w.cell? ⟨b2, off2 + k, none⟩ = some (.int .i64 wn) := hc2 k _ (by simp [hwn, intC])
  have hkw : k < F.wear.length := by omega
  have hwl6 : F.wear.length ≤ 6 := by omega
  have HWL := Kept.mk hwl
  clear hwl
  have hget1 : F.pages.getD k [] = was := by simp [List.getD_eq_getElem?_getD, hwas]
  have hget2 : F.wear.getD k 0 = wn := by simp [List.getD_eq_getElem?_getD, hwn]
  try rw [hget1]
  try rw [hget2]
  have hatw : at_ + s.length ≤ was.length := by rw [← hget1]; exact hat
  have hfit : (decide (0 ≤ (at_ : Int)) && decide ((at_ : Int) ≤ (was.length : Int) - (s.length : Int))) = true := by simp; omega
  have HFIT := Kept.mk hfit
  clear hget1 hget2 hat hfit
  have HW := Kept.mk hwas
  have HWN := Kept.mk hwn
  have HC1 := Kept.mk hcell
  have HC2 := Kept.mk hcell2
  have hb0 : Below w.heap.size w ((w.alloc (.cells #[.slice (some ⟨b, off, none⟩) F.pages.length cap, .slice (some ⟨b2, off2, none⟩) F.wear.length cap2, .int .i64 F.fuse, strC F.torn, .bool F.dead] 31)).alloc (.cells #[.slice none 0 0, .slice none 0 0, .int .i64 0, .string ⟨#[]⟩, .bool false] 31)) := ((Below.refl _ _).alloc (Nat.le_refl _) _).alloc (by simp) _
  have HP := Kept.mk hp
  have HQ := Kept.mk hq
  have HB0 := Kept.mk hb0
  clear hp hq hb0 hc hc2 hcell hcell2 hwas hwn hpg hwr
  go_enter Tryz.func54, Tryz.ntmps54
  go_wp2_with fail
  refine (copied_any F _ _ ⟨.slice (some ⟨b, off, none⟩) F.pages.length cap, .slice (some ⟨b2, off2, none⟩) F.wear.length cap2, rfl, stable_cells _ _ _ _ HP.out HB0.out, stable_cells _ _ _ _ HQ.out HB0.out⟩ (by omega) (by omega)).mono ?_
  rintro e w1 ⟨vp', vw', rfl, ho1, ho2, hb1⟩
  have TI0 := Lib.hid (ti_start F w w1 (.slice (some ⟨b, off, none⟩) F.pages.length cap) (.slice (some ⟨b2, off2, none⟩) F.wear.length cap2) vp' vw' HP.out HQ.out hb1 ho1 ho2)
  have HC8 := Lib.hid (cells5_new w1 31 (.slice none 0 0) (.slice none 0 0) (.int .i64 0) (.string ⟨#[]⟩) (.bool false))
  have HF8 := Lib.hid (free5_new w1 #[.slice none 0 0, .slice none 0 0, .int .i64 0, .string ⟨#[]⟩, .bool false] 31)
  have oo1 := (ho1.one).2
  have oo2 := (ho2.one).2
  clear ho1 ho2 hb1 HB0
  go_wp2_with (refine wpList_store5 rfl (.tmp 8) (.tmp 12) rfl w1.heap.size vp' vw' (.int .i64 F.fuse) (strC F.torn) (.bool F.dead) rfl rfl HC8.out HF8.out oo1 oo2 rfl rfl rfl ?_)
  have T := TI0.out
  clear TI0 HC8 HF8
  generalize set5 (w1.alloc (.cells #[.slice none 0 0, .slice none 0 0, .int .i64 0, .string ⟨#[]⟩, .bool false] 31)) w1.heap.size vp' vw' (.int .i64 F.fuse) (strC F.torn) (.bool F.dead) = W at *
  generalize w1.heap.size = g8 at *
  refine take2_pyes _ _ _ rfl w.heap.size F _ (at_ : Int) s hs k b off F.pages.length cap was hk ((T.below.cell (p := ⟨b, off + k, none⟩) hb).trans HC1.out) (Nat.lt_of_lt_of_le hb T.below.size) (by omega) HFIT.out rfl rfl rfl T.c3 T.fl (by omega) (by omega) hhas ?_
  intro act W2 hdf hsz hkeep hn30 hbT
  have hk1 : act.tmps.getD 1 undef = (.int .i64 (k : Int)) := hkeep 1 (by kernel_rfl)
  have hk2 : act.tmps.getD 2 undef = (.iface 77 (.agg #[.int .i64 (at_ : Int), .string ⟨s.toArray⟩])) := hkeep 2 (by kernel_rfl)
  have hk3 : act.tmps.getD 3 undef = (.pointer (some ⟨w.heap.size, 0, none⟩)) := hkeep 3 (by kernel_rfl)
  have hk6 : act.tmps.getD 6 undef = (.pointer (some ⟨w.heap.size + 1, 0, none⟩)) := hkeep 6 (by kernel_rfl)
  have hk8 : act.tmps.getD 8 undef = (.pointer (some ⟨g8, 0, none⟩)) := hkeep 8 (by kernel_rfl)
  obtain ⟨tm, df⟩ := act
  obtain rfl : df = [] := hdf
  clear hkeep
  obtain ⟨f, rfl, hk1, hk2, hk3, hk6, hk8, hn30⟩ : ∃ f : Nat → Value, tm = ((List.range 84).map f).toArray ∧ f 1 = (.int .i64 (k : Int)) ∧ f 2 = (.iface 77 (.agg #[.int .i64 (at_ : Int), .string ⟨s.toArray⟩])) ∧ f 3 = (.pointer (some ⟨w.heap.size, 0, none⟩)) ∧ f 6 = (.pointer (some ⟨w.heap.size + 1, 0, none⟩)) ∧ f 8 = (.pointer (some ⟨g8, 0, none⟩)) ∧ f 30 = (.bool false) := ⟨fun i => tm.getD i undef, arr_eta tm hsz, hk1, hk2, hk3, hk6, hk8, hn30⟩
  rewrite [show ((List.range 84).map f).toArray = #[f 0, f 1, f 2, f 3, f 4, f 5, f 6, f 7, f 8, f 9, f 10, f 11, f 12, f 13, f 14, f 15, f 16, f 17, f 18, f 19, f 20, f 21, f 22, f 23, f 24, f 25, f 26, f 27, f 28, f 29, f 30, f 31, f 32, f 33, f 34, f 35, f 36, f 37, f 38, f 39, f 40, f 41, f 42, f 43, f 44, f 45, f 46, f 47, f 48, f 49, f 50, f 51, f 52, f 53, f 54, f 55, f 56, f 57, f 58, f 59, f 60, f 61, f 62, f 63, f 64, f 65, f 66, f 67, f 68, f 69, f 70, f 71, f 72, f 73, f 74, f 75, f 76, f 77, f 78, f 79, f 80, f 81, f 82, f 83] from rfl]
  rewrite [hk1, hk2, hk3, hk6, hk8, hn30]
  dsimp only
  clear hsz hk1 hk2 hk3 hk6 hk8 hn30
  replace T := T.grow hbT
  clear hbT
  have b4 : W2.cell? ⟨w.heap.size, 4, none⟩ = some (.bool false) := by rw [← HDD.out]; exact T.c3.2.2.2.2.2
  have b0 := T.c3.2.1
  have bw := (T.below.cell (p := ⟨b, off + k, none⟩) hb).trans HC1.out
  go_wp2_with fail
  refine (pPage_any at_ s was _ (by omega) (by omega) hs).mono ?_
  rintro e W3 ⟨rfl, hb3⟩
  replace T := T.grow hb3
  clear hb3 b4 b0 bw
  have b2' : W3.cell? ⟨w.heap.size, 2, none⟩ = some (.int .i64 0) := by rw [← HFU.out]; exact T.c3.2.2.2.1
  obtain ⟨gp, capp, _, hvp, _⟩ := T.p'.some_ (by rw [List.length_map]; omega)
  rw [List.length_map] at hvp
  subst hvp
  go_wp2_with fail
  refine take9 _ _ w _ rfl (w.heap.size + 2) g8 w.heap.size (w.heap.size + 1) g8 k gp F.pages.length capp F F _ _ vw' was (progL was at_ s) rfl rfl rfl rfl rfl T hk hk (by omega) (by rw [length_progL]; omega) (by omega) ?_
  clear T b2'
  intro act W4 hdf hsz hkeep T
  have hk1 : act.tmps.getD 1 undef = (.int .i64 (k : Int)) := hkeep 1 (by kernel_rfl)
  have hk2 : act.tmps.getD 2 undef = (.iface 77 (.agg #[.int .i64 (at_ : Int), .string ⟨s.toArray⟩])) := hkeep 2 (by kernel_rfl)
  have hk3 : act.tmps.getD 3 undef = (.pointer (some ⟨w.heap.size, 0, none⟩)) := hkeep 3 (by kernel_rfl)
  have hk6 : act.tmps.getD 6 undef = (.pointer (some ⟨w.heap.size + 1, 0, none⟩)) := hkeep 6 (by kernel_rfl)
  have hk8 : act.tmps.getD 8 undef = (.pointer (some ⟨g8, 0, none⟩)) := hkeep 8 (by kernel_rfl)
  obtain ⟨tm, df⟩ := act
  obtain rfl : df = [] := hdf
  clear hkeep
  obtain ⟨f, rfl, hk1, hk2, hk3, hk6, hk8⟩ : ∃ f : Nat → Value, tm = ((List.range 84).map f).toArray ∧ f 1 = (.int .i64 (k : Int)) ∧ f 2 = (.iface 77 (.agg #[.int .i64 (at_ : Int), .string ⟨s.toArray⟩])) ∧ f 3 = (.pointer (some ⟨w.heap.size, 0, none⟩)) ∧ f 6 = (.pointer (some ⟨w.heap.size + 1, 0, none⟩)) ∧ f 8 = (.pointer (some ⟨g8, 0, none⟩)) := ⟨fun i => tm.getD i undef, arr_eta tm hsz, hk1, hk2, hk3, hk6, hk8⟩
  rewrite [show ((List.range 84).map f).toArray = #[f 0, f 1, f 2, f 3, f 4, f 5, f 6, f 7, f 8, f 9, f 10, f 11, f 12, f 13, f 14, f 15, f 16, f 17, f 18, f 19, f 20, f 21, f 22, f 23, f 24, f 25, f 26, f 27, f 28, f 29, f 30, f 31, f 32, f 33, f 34, f 35, f 36, f 37, f 38, f 39, f 40, f 41, f 42, f 43, f 44, f 45, f 46, f 47, f 48, f 49, f 50, f 51, f 52, f 53, f 54, f 55, f 56, f 57, f 58, f 59, f 60, f 61, f 62, f 63, f 64, f 65, f 66, f 67, f 68, f 69, f 70, f 71, f 72, f 73, f 74, f 75, f 76, f 77, f 78, f 79, f 80, f 81, f 82, f 83] from rfl]
  rewrite [hk1, hk2, hk3, hk6, hk8]
  dsimp only
  clear hsz hk1 hk2 hk3 hk6 hk8
  obtain ⟨o0, o1, o2, o3, o4, c6⟩ := T.c6
  have HC6 := Kept.mk c6
  have HF6 := Kept.mk T.f6
  obtain ⟨hfl, hB5, hr5⟩ := ti_end T
  have HFL := Kept.mk hfl
  have HR5 := Kept.mk hr5
  obtain ⟨_, k0, k1, k2, k3, k4⟩ := T.c8
  clear T c6 hfl hr5
  go_wp2_with (refine wpList_store5 rfl (.tmp 6) (.tmp 56) rfl (w.heap.size + 1) _ _ _ _ _ rfl rfl HC6.out HF6.out oo1 oo2 rfl rfl rfl ?_)
  exact bodyPost_ret (results2 rfl _ _ (w.heap.size + 1) _ _ _ _ _ (.int .i64 8) rfl rfl HR5.out) rfl ⟨_, rfl, HFL.out, hB5⟩

set_option maxRecDepth 100000 in
set_option maxHeartbeats 2000000 in
theorem take_pdone (F : Fl) (v : Value) (w : World) (hv : isFl F v w) (k : Nat) (at_ : Nat) (s : List UInt8) (hs : s.length ≤ 1000000) (hat : at_ + s.length ≤ (F.pages.getD k []).length) (hdead : F.dead = false) (hfuse : F.fuse < 0) (hhas : hasB F (k : Int) = true) :
    Calls Tryz.prog 54 #[v, .int .i64 (k : Int), (.iface 77 (.agg #[.int .i64 (at_ : Int), .string ⟨s.toArray⟩]))] w fun e w' => ∃ v', e = .returned (.tuple #[v', .int .i64 0]) ∧ isFlN w.heap.size { F with pages := F.pages.set k (progL (F.pages.getD k []) at_ s), wear := F.wear.set k (F.wear.getD k 0) } v' w' ∧ Below w.heap.size w w' := by
  have HDD := Kept.mk hdead
  clear hdead
  have HFU := Kept.mk hfuse
  clear hfuse
  have HHF := Kept.mk (has_facts F k hhas)
  obtain ⟨hk, h6, hwl, htl, hpg, hwr⟩ := HHF.out
  obtain ⟨was, hwas⟩ : ∃ was, F.pages[k]? = some was := ⟨_, List.getElem?_eq_getElem hk⟩
  obtain ⟨wn, hwn⟩ : ∃ wn, F.wear[k]? = some wn := ⟨_, List.getElem?_eq_getElem (by omega)⟩
  have hwm : was.length ≤ 8192 := (hpg _ (List.mem_of_getElem? hwas)).2.1
  have hn01 := hwr wn (List.mem_of_getElem? hwn)
  obtain ⟨vp, vw, rfl, hp, hq⟩ := hv
  obtain ⟨b, off, cap, hvp, hb, hc⟩ := hp.some_ (by rw [List.length_map]; omega)
  obtain ⟨b2, off2, cap2, hvw, hb2, hc2⟩ := hq.some_ (by rw [List.length_map]; omega)
  rw [List.length_map] at hvp hvw
  subst hvp hvw
  have hcell : w.cell? ⟨b, off + k, none⟩ = some (.string ⟨was.toArray⟩) := hc k _ (by simp [hwas, strC])
  have hcell2 : w.cell? ⟨b2, off2 + k, none⟩ = some (.int .i64 wn) := hc2 k _ (by simp [hwn, intC])
  have hkw : k < F.wear.length := by omega
  have hwl6 : F.wear.length ≤ 6 := by omega
  have HWL := Kept.mk hwl
  clear hwl
  have hget1 : F.pages.getD k [] = was := by simp [List.getD_eq_getElem?_getD, hwas]
  have hget2 : F.wear.getD k 0 = wn := by simp [List.getD_eq_getElem?_getD, hwn]
  try rw [hget1]
  try rw [hget2]
  have hatw : at_ + s.length ≤ was.length := by rw [← hget1]; exact hat
  have hfit : (decide (0 ≤ (at_ : Int)) && decide ((at_ : Int) ≤ (was.length : Int) - (s.length : Int))) = true := by simp; omega
  have HFIT := Kept.mk hfit
  clear hget1 hget2 hat hfit
  have HW := Kept.mk hwas
  have HWN := Kept.mk hwn
  have HC1 := Kept.mk hcell
  have HC2 := Kept.mk hcell2
  have hb0 : Below w.heap.size w ((w.alloc (.cells #[.slice (some ⟨b, off, none⟩) F.pages.length cap, .slice (some ⟨b2, off2, none⟩) F.wear.length cap2, .int .i64 F.fuse, strC F.torn, .bool F.dead] 31)).alloc (.cells #[.slice none 0 0, .slice none 0 0, .int .i64 0, .string ⟨#[]⟩, .bool false] 31)) := ((Below.refl _ _).alloc (Nat.le_refl _) _).alloc (by simp) _
  have HP := Kept.mk hp
  have HQ := Kept.mk hq
  have HB0 := Kept.mk hb0
  clear hp hq hb0 hc hc2 hcell hcell2 hwas hwn hpg hwr
  go_enter Tryz.func54, Tryz.ntmps54
  go_wp2_with fail
  refine (copied_any F _ _ ⟨.slice (some ⟨b, off, none⟩) F.pages.length cap, .slice (some ⟨b2, off2, none⟩) F.wear.length cap2, rfl, stable_cells _ _ _ _ HP.out HB0.out, stable_cells _ _ _ _ HQ.out HB0.out⟩ (by omega) (by omega)).mono ?_
  rintro e w1 ⟨vp', vw', rfl, ho1, ho2, hb1⟩
  have TI0 := Lib.hid (ti_start F w w1 (.slice (some ⟨b, off, none⟩) F.pages.length cap) (.slice (some ⟨b2, off2, none⟩) F.wear.length cap2) vp' vw' HP.out HQ.out hb1 ho1 ho2)
  have HC8 := Lib.hid (cells5_new w1 31 (.slice none 0 0) (.slice none 0 0) (.int .i64 0) (.string ⟨#[]⟩) (.bool false))
  have HF8 := Lib.hid (free5_new w1 #[.slice none 0 0, .slice none 0 0, .int .i64 0, .string ⟨#[]⟩, .bool false] 31)
  have oo1 := (ho1.one).2
  have oo2 := (ho2.one).2
  clear ho1 ho2 hb1 HB0
  go_wp2_with (refine wpList_store5 rfl (.tmp 8) (.tmp 12) rfl w1.heap.size vp' vw' (.int .i64 F.fuse) (strC F.torn) (.bool F.dead) rfl rfl HC8.out HF8.out oo1 oo2 rfl rfl rfl ?_)
  have T := TI0.out
  clear TI0 HC8 HF8
  generalize set5 (w1.alloc (.cells #[.slice none 0 0, .slice none 0 0, .int .i64 0, .string ⟨#[]⟩, .bool false] 31)) w1.heap.size vp' vw' (.int .i64 F.fuse) (strC F.torn) (.bool F.dead) = W at *
  generalize w1.heap.size = g8 at *
  refine take2_pyes _ _ _ rfl w.heap.size F _ (at_ : Int) s hs k b off F.pages.length cap was hk ((T.below.cell (p := ⟨b, off + k, none⟩) hb).trans HC1.out) (Nat.lt_of_lt_of_le hb T.below.size) (by omega) HFIT.out rfl rfl rfl T.c3 T.fl (by omega) (by omega) hhas ?_
  intro act W2 hdf hsz hkeep hn30 hbT
  have hk1 : act.tmps.getD 1 undef = (.int .i64 (k : Int)) := hkeep 1 (by kernel_rfl)
  have hk2 : act.tmps.getD 2 undef = (.iface 77 (.agg #[.int .i64 (at_ : Int), .string ⟨s.toArray⟩])) := hkeep 2 (by kernel_rfl)
  have hk3 : act.tmps.getD 3 undef = (.pointer (some ⟨w.heap.size, 0, none⟩)) := hkeep 3 (by kernel_rfl)
  have hk6 : act.tmps.getD 6 undef = (.pointer (some ⟨w.heap.size + 1, 0, none⟩)) := hkeep 6 (by kernel_rfl)
  have hk8 : act.tmps.getD 8 undef = (.pointer (some ⟨g8, 0, none⟩)) := hkeep 8 (by kernel_rfl)
  obtain ⟨tm, df⟩ := act
  obtain rfl : df = [] := hdf
  clear hkeep
  obtain ⟨f, rfl, hk1, hk2, hk3, hk6, hk8, hn30⟩ : ∃ f : Nat → Value, tm = ((List.range 84).map f).toArray ∧ f 1 = (.int .i64 (k : Int)) ∧ f 2 = (.iface 77 (.agg #[.int .i64 (at_ : Int), .string ⟨s.toArray⟩])) ∧ f 3 = (.pointer (some ⟨w.heap.size, 0, none⟩)) ∧ f 6 = (.pointer (some ⟨w.heap.size + 1, 0, none⟩)) ∧ f 8 = (.pointer (some ⟨g8, 0, none⟩)) ∧ f 30 = (.bool false) := ⟨fun i => tm.getD i undef, arr_eta tm hsz, hk1, hk2, hk3, hk6, hk8, hn30⟩
  rewrite [show ((List.range 84).map f).toArray = #[f 0, f 1, f 2, f 3, f 4, f 5, f 6, f 7, f 8, f 9, f 10, f 11, f 12, f 13, f 14, f 15, f 16, f 17, f 18, f 19, f 20, f 21, f 22, f 23, f 24, f 25, f 26, f 27, f 28, f 29, f 30, f 31, f 32, f 33, f 34, f 35, f 36, f 37, f 38, f 39, f 40, f 41, f 42, f 43, f 44, f 45, f 46, f 47, f 48, f 49, f 50, f 51, f 52, f 53, f 54, f 55, f 56, f 57, f 58, f 59, f 60, f 61, f 62, f 63, f 64, f 65, f 66, f 67, f 68, f 69, f 70, f 71, f 72, f 73, f 74, f 75, f 76, f 77, f 78, f 79, f 80, f 81, f 82, f 83] from rfl]
  rewrite [hk1, hk2, hk3, hk6, hk8, hn30]
  dsimp only
  clear hsz hk1 hk2 hk3 hk6 hk8 hn30
  replace T := T.grow hbT
  clear hbT
  have b4 : W2.cell? ⟨w.heap.size, 4, none⟩ = some (.bool false) := by rw [← HDD.out]; exact T.c3.2.2.2.2.2
  have b0 := T.c3.2.1
  have bw := (T.below.cell (p := ⟨b, off + k, none⟩) hb).trans HC1.out
  go_wp2_with fail
  refine (pPage_any at_ s was _ (by omega) (by omega) hs).mono ?_
  rintro e W3 ⟨rfl, hb3⟩
  replace T := T.grow hb3
  clear hb3 b4 b0 bw
  have b2' : W3.cell? ⟨w.heap.size, 2, none⟩ = some (.int .i64 F.fuse) := T.c3.2.2.2.1
  obtain ⟨gp, capp, _, hvp, _⟩ := T.p'.some_ (by rw [List.length_map]; omega)
  obtain ⟨gw, capw, _, hvw, _⟩ := T.q'.some_ (by rw [List.length_map]; omega)
  rw [List.length_map] at hvp hvw
  subst hvp hvw
  have hf0 : (F.fuse == 0) = false := by have := HFU.out; simp; omega
  go_wp2_with fail
  refine take11_p _ _ w _ rfl (w.heap.size + 2) g8 w.heap.size (w.heap.size + 1) g8 k gp F.pages.length capp gw F.wear.length capw b2 off2 F.wear.length cap2 F F _ (progL was at_ s) wn (at_ : Int) s hs rfl rfl rfl rfl rfl T hk hk hkw hkw hkw ((T.below.cell (p := ⟨b2, off2 + k, none⟩) hb2).trans HC2.out) hb2 hn01.1 hn01.2 ?_
  clear T b2'
  intro act W4 hdf hsz hkeep T
  have hk1 : act.tmps.getD 1 undef = (.int .i64 (k : Int)) := hkeep 1 (by kernel_rfl)
  have hk2 : act.tmps.getD 2 undef = (.iface 77 (.agg #[.int .i64 (at_ : Int), .string ⟨s.toArray⟩])) := hkeep 2 (by kernel_rfl)
  have hk3 : act.tmps.getD 3 undef = (.pointer (some ⟨w.heap.size, 0, none⟩)) := hkeep 3 (by kernel_rfl)
  have hk6 : act.tmps.getD 6 undef = (.pointer (some ⟨w.heap.size + 1, 0, none⟩)) := hkeep 6 (by kernel_rfl)
  have hk8 : act.tmps.getD 8 undef = (.pointer (some ⟨g8, 0, none⟩)) := hkeep 8 (by kernel_rfl)
  obtain ⟨tm, df⟩ := act
  obtain rfl : df = [] := hdf
  clear hkeep
  obtain ⟨f, rfl, hk1, hk2, hk3, hk6, hk8⟩ : ∃ f : Nat → Value, tm = ((List.range 84).map f).toArray ∧ f 1 = (.int .i64 (k : Int)) ∧ f 2 = (.iface 77 (.agg #[.int .i64 (at_ : Int), .string ⟨s.toArray⟩])) ∧ f 3 = (.pointer (some ⟨w.heap.size, 0, none⟩)) ∧ f 6 = (.pointer (some ⟨w.heap.size + 1, 0, none⟩)) ∧ f 8 = (.pointer (some ⟨g8, 0, none⟩)) := ⟨fun i => tm.getD i undef, arr_eta tm hsz, hk1, hk2, hk3, hk6, hk8⟩
  rewrite [show ((List.range 84).map f).toArray = #[f 0, f 1, f 2, f 3, f 4, f 5, f 6, f 7, f 8, f 9, f 10, f 11, f 12, f 13, f 14, f 15, f 16, f 17, f 18, f 19, f 20, f 21, f 22, f 23, f 24, f 25, f 26, f 27, f 28, f 29, f 30, f 31, f 32, f 33, f 34, f 35, f 36, f 37, f 38, f 39, f 40, f 41, f 42, f 43, f 44, f 45, f 46, f 47, f 48, f 49, f 50, f 51, f 52, f 53, f 54, f 55, f 56, f 57, f 58, f 59, f 60, f 61, f 62, f 63, f 64, f 65, f 66, f 67, f 68, f 69, f 70, f 71, f 72, f 73, f 74, f 75, f 76, f 77, f 78, f 79, f 80, f 81, f 82, f 83] from rfl]
  rewrite [hk1, hk2, hk3, hk6, hk8]
  dsimp only
  clear hsz hk1 hk2 hk3 hk6 hk8
  have b2' : W4.cell? ⟨w.heap.size, 2, none⟩ = some (.int .i64 F.fuse) := T.c3.2.2.2.1
  have hfd : decide (0 < F.fuse) = false := by have := HFU.out; simp; omega
  obtain ⟨o0, o1, o2, o3, o4, c6⟩ := T.c6
  have HC6 := Kept.mk c6
  have HF6 := Kept.mk T.f6
  obtain ⟨hfl, hB5, hr5⟩ := ti_end T
  have HFL := Kept.mk hfl
  have HR5 := Kept.mk hr5
  obtain ⟨_, k0, k1, k2, k3, k4⟩ := T.c8
  clear T c6 hfl hr5
  go_wp2_with (refine wpList_store5 rfl (.tmp 6) (.tmp 83) rfl (w.heap.size + 1) _ _ _ _ _ rfl rfl HC6.out HF6.out oo1 oo2 rfl rfl rfl ?_)
  exact bodyPost_ret (results2 rfl _ _ (w.heap.size + 1) _ _ _ _ _ (.int .i64 0) rfl rfl HR5.out) rfl ⟨_, rfl, HFL.out, hB5⟩

set_option maxRecDepth 100000 in
set_option maxHeartbeats 2000000 in
theorem take_pburn (F : Fl) (v : Value) (w : World) (hv : isFl F v w) (k : Nat) (at_ : Nat) (s : List UInt8) (hs : s.length ≤ 1000000) (hat : at_ + s.length ≤ (F.pages.getD k []).length) (hdead : F.dead = false) (hfuse : 0 < F.fuse) (hfz : F.fuse ≤ 9223372036854775807) (hhas : hasB F (k : Int) = true) :
    Calls Tryz.prog 54 #[v, .int .i64 (k : Int), (.iface 77 (.agg #[.int .i64 (at_ : Int), .string ⟨s.toArray⟩]))] w fun e w' => ∃ v', e = .returned (.tuple #[v', .int .i64 0]) ∧ isFlN w.heap.size { F with pages := F.pages.set k (progL (F.pages.getD k []) at_ s), wear := F.wear.set k (F.wear.getD k 0), fuse := F.fuse - 1 } v' w' ∧ Below w.heap.size w w' := by
  have HDD := Kept.mk hdead
  clear hdead
  have HFU := Kept.mk hfuse
  clear hfuse
  have HFZ := Kept.mk hfz
  clear hfz
  have HHF := Kept.mk (has_facts F k hhas)
  obtain ⟨hk, h6, hwl, htl, hpg, hwr⟩ := HHF.out
  obtain ⟨was, hwas⟩ : ∃ was, F.pages[k]? = some was := ⟨_, List.getElem?_eq_getElem hk⟩
  obtain ⟨wn, hwn⟩ : ∃ wn, F.wear[k]? = some wn := ⟨_, List.getElem?_eq_getElem (by omega)⟩
  have hwm : was.length ≤ 8192 := (hpg _ (List.mem_of_getElem? hwas)).2.1
  have hn01 := hwr wn (List.mem_of_getElem? hwn)
  obtain ⟨vp, vw, rfl, hp, hq⟩ := hv
  obtain ⟨b, off, cap, hvp, hb, hc⟩ := hp.some_ (by rw [List.length_map]; omega)
  obtain ⟨b2, off2, cap2, hvw, hb2, hc2⟩ := hq.some_ (by rw [List.length_map]; omega)
  rw [List.length_map] at hvp hvw
  subst hvp hvw
  have hcell : w.cell? ⟨b, off + k, none⟩ = some (.string ⟨was.toArray⟩) := hc k _ (by simp [hwas, strC])
  have hcell2 : w.cell? ⟨b2, off2 + k, none⟩ = some (.int .i64 wn) := hc2 k _ (by simp [hwn, intC])
  have hkw : k < F.wear.length := by omega
  have hwl6 : F.wear.length ≤ 6 := by omega
  have HWL := Kept.mk hwl
  clear hwl
  have hget1 : F.pages.getD k [] = was := by simp [List.getD_eq_getElem?_getD, hwas]
  have hget2 : F.wear.getD k 0 = wn := by simp [List.getD_eq_getElem?_getD, hwn]
  try rw [hget1]
  try rw [hget2]
  have hatw : at_ + s.length ≤ was.length := by rw [← hget1]; exact hat
  have hfit : (decide (0 ≤ (at_ : Int)) && decide ((at_ : Int) ≤ (was.length : Int) - (s.length : Int))) = true := by simp; omega
  have HFIT := Kept.mk hfit
  clear hget1 hget2 hat hfit
  have HW := Kept.mk hwas
  have HWN := Kept.mk hwn
  have HC1 := Kept.mk hcell
  have HC2 := Kept.mk hcell2
  have hb0 : Below w.heap.size w ((w.alloc (.cells #[.slice (some ⟨b, off, none⟩) F.pages.length cap, .slice (some ⟨b2, off2, none⟩) F.wear.length cap2, .int .i64 F.fuse, strC F.torn, .bool F.dead] 31)).alloc (.cells #[.slice none 0 0, .slice none 0 0, .int .i64 0, .string ⟨#[]⟩, .bool false] 31)) := ((Below.refl _ _).alloc (Nat.le_refl _) _).alloc (by simp) _
  have HP := Kept.mk hp
  have HQ := Kept.mk hq
  have HB0 := Kept.mk hb0
  clear hp hq hb0 hc hc2 hcell hcell2 hwas hwn hpg hwr
  go_enter Tryz.func54, Tryz.ntmps54
  go_wp2_with fail
  refine (copied_any F _ _ ⟨.slice (some ⟨b, off, none⟩) F.pages.length cap, .slice (some ⟨b2, off2, none⟩) F.wear.length cap2, rfl, stable_cells _ _ _ _ HP.out HB0.out, stable_cells _ _ _ _ HQ.out HB0.out⟩ (by omega) (by omega)).mono ?_
  rintro e w1 ⟨vp', vw', rfl, ho1, ho2, hb1⟩
  have TI0 := Lib.hid (ti_start F w w1 (.slice (some ⟨b, off, none⟩) F.pages.length cap) (.slice (some ⟨b2, off2, none⟩) F.wear.length cap2) vp' vw' HP.out HQ.out hb1 ho1 ho2)
  have HC8 := Lib.hid (cells5_new w1 31 (.slice none 0 0) (.slice none 0 0) (.int .i64 0) (.string ⟨#[]⟩) (.bool false))
  have HF8 := Lib.hid (free5_new w1 #[.slice none 0 0, .slice none 0 0, .int .i64 0, .string ⟨#[]⟩, .bool false] 31)
  have oo1 := (ho1.one).2
  have oo2 := (ho2.one).2
  clear ho1 ho2 hb1 HB0
  go_wp2_with (refine wpList_store5 rfl (.tmp 8) (.tmp 12) rfl w1.heap.size vp' vw' (.int .i64 F.fuse) (strC F.torn) (.bool F.dead) rfl rfl HC8.out HF8.out oo1 oo2 rfl rfl rfl ?_)
  have T := TI0.out
  clear TI0 HC8 HF8
  generalize set5 (w1.alloc (.cells #[.slice none 0 0, .slice none 0 0, .int .i64 0, .string ⟨#[]⟩, .bool false] 31)) w1.heap.size vp' vw' (.int .i64 F.fuse) (strC F.torn) (.bool F.dead) = W at *
  generalize w1.heap.size = g8 at *
  refine take2_pyes _ _ _ rfl w.heap.size F _ (at_ : Int) s hs k b off F.pages.length cap was hk ((T.below.cell (p := ⟨b, off + k, none⟩) hb).trans HC1.out) (Nat.lt_of_lt_of_le hb T.below.size) (by omega) HFIT.out rfl rfl rfl T.c3 T.fl (by omega) (by omega) hhas ?_
  intro act W2 hdf hsz hkeep hn30 hbT
  have hk1 : act.tmps.getD 1 undef = (.int .i64 (k : Int)) := hkeep 1 (by kernel_rfl)
  have hk2 : act.tmps.getD 2 undef = (.iface 77 (.agg #[.int .i64 (at_ : Int), .string ⟨s.toArray⟩])) := hkeep 2 (by kernel_rfl)
  have hk3 : act.tmps.getD 3 undef = (.pointer (some ⟨w.heap.size, 0, none⟩)) := hkeep 3 (by kernel_rfl)
  have hk6 : act.tmps.getD 6 undef = (.pointer (some ⟨w.heap.size + 1, 0, none⟩)) := hkeep 6 (by kernel_rfl)
  have hk8 : act.tmps.getD 8 undef = (.pointer (some ⟨g8, 0, none⟩)) := hkeep 8 (by kernel_rfl)
  obtain ⟨tm, df⟩ := act
  obtain rfl : df = [] := hdf
  clear hkeep
  obtain ⟨f, rfl, hk1, hk2, hk3, hk6, hk8, hn30⟩ : ∃ f : Nat → Value, tm = ((List.range 84).map f).toArray ∧ f 1 = (.int .i64 (k : Int)) ∧ f 2 = (.iface 77 (.agg #[.int .i64 (at_ : Int), .string ⟨s.toArray⟩])) ∧ f 3 = (.pointer (some ⟨w.heap.size, 0, none⟩)) ∧ f 6 = (.pointer (some ⟨w.heap.size + 1, 0, none⟩)) ∧ f 8 = (.pointer (some ⟨g8, 0, none⟩)) ∧ f 30 = (.bool false) := ⟨fun i => tm.getD i undef, arr_eta tm hsz, hk1, hk2, hk3, hk6, hk8, hn30⟩
  rewrite [show ((List.range 84).map f).toArray = #[f 0, f 1, f 2, f 3, f 4, f 5, f 6, f 7, f 8, f 9, f 10, f 11, f 12, f 13, f 14, f 15, f 16, f 17, f 18, f 19, f 20, f 21, f 22, f 23, f 24, f 25, f 26, f 27, f 28, f 29, f 30, f 31, f 32, f 33, f 34, f 35, f 36, f 37, f 38, f 39, f 40, f 41, f 42, f 43, f 44, f 45, f 46, f 47, f 48, f 49, f 50, f 51, f 52, f 53, f 54, f 55, f 56, f 57, f 58, f 59, f 60, f 61, f 62, f 63, f 64, f 65, f 66, f 67, f 68, f 69, f 70, f 71, f 72, f 73, f 74, f 75, f 76, f 77, f 78, f 79, f 80, f 81, f 82, f 83] from rfl]
  rewrite [hk1, hk2, hk3, hk6, hk8, hn30]
  dsimp only
  clear hsz hk1 hk2 hk3 hk6 hk8 hn30
  replace T := T.grow hbT
  clear hbT
  have b4 : W2.cell? ⟨w.heap.size, 4, none⟩ = some (.bool false) := by rw [← HDD.out]; exact T.c3.2.2.2.2.2
  have b0 := T.c3.2.1
  have bw := (T.below.cell (p := ⟨b, off + k, none⟩) hb).trans HC1.out
  go_wp2_with fail
  refine (pPage_any at_ s was _ (by omega) (by omega) hs).mono ?_
  rintro e W3 ⟨rfl, hb3⟩
  replace T := T.grow hb3
  clear hb3 b4 b0 bw
  have b2' : W3.cell? ⟨w.heap.size, 2, none⟩ = some (.int .i64 F.fuse) := T.c3.2.2.2.1
  obtain ⟨gp, capp, _, hvp, _⟩ := T.p'.some_ (by rw [List.length_map]; omega)
  obtain ⟨gw, capw, _, hvw, _⟩ := T.q'.some_ (by rw [List.length_map]; omega)
  rw [List.length_map] at hvp hvw
  subst hvp hvw
  have hf0 : (F.fuse == 0) = false := by have := HFU.out; simp; omega
  go_wp2_with fail
  refine take11_p _ _ w _ rfl (w.heap.size + 2) g8 w.heap.size (w.heap.size + 1) g8 k gp F.pages.length capp gw F.wear.length capw b2 off2 F.wear.length cap2 F F _ (progL was at_ s) wn (at_ : Int) s hs rfl rfl rfl rfl rfl T hk hk hkw hkw hkw ((T.below.cell (p := ⟨b2, off2 + k, none⟩) hb2).trans HC2.out) hb2 hn01.1 hn01.2 ?_
  clear T b2'
  intro act W4 hdf hsz hkeep T
  have hk1 : act.tmps.getD 1 undef = (.int .i64 (k : Int)) := hkeep 1 (by kernel_rfl)
  have hk2 : act.tmps.getD 2 undef = (.iface 77 (.agg #[.int .i64 (at_ : Int), .string ⟨s.toArray⟩])) := hkeep 2 (by kernel_rfl)
  have hk3 : act.tmps.getD 3 undef = (.pointer (some ⟨w.heap.size, 0, none⟩)) := hkeep 3 (by kernel_rfl)
  have hk6 : act.tmps.getD 6 undef = (.pointer (some ⟨w.heap.size + 1, 0, none⟩)) := hkeep 6 (by kernel_rfl)
  have hk8 : act.tmps.getD 8 undef = (.pointer (some ⟨g8, 0, none⟩)) := hkeep 8 (by kernel_rfl)
  obtain ⟨tm, df⟩ := act
  obtain rfl : df = [] := hdf
  clear hkeep
  obtain ⟨f, rfl, hk1, hk2, hk3, hk6, hk8⟩ : ∃ f : Nat → Value, tm = ((List.range 84).map f).toArray ∧ f 1 = (.int .i64 (k : Int)) ∧ f 2 = (.iface 77 (.agg #[.int .i64 (at_ : Int), .string ⟨s.toArray⟩])) ∧ f 3 = (.pointer (some ⟨w.heap.size, 0, none⟩)) ∧ f 6 = (.pointer (some ⟨w.heap.size + 1, 0, none⟩)) ∧ f 8 = (.pointer (some ⟨g8, 0, none⟩)) := ⟨fun i => tm.getD i undef, arr_eta tm hsz, hk1, hk2, hk3, hk6, hk8⟩
  rewrite [show ((List.range 84).map f).toArray = #[f 0, f 1, f 2, f 3, f 4, f 5, f 6, f 7, f 8, f 9, f 10, f 11, f 12, f 13, f 14, f 15, f 16, f 17, f 18, f 19, f 20, f 21, f 22, f 23, f 24, f 25, f 26, f 27, f 28, f 29, f 30, f 31, f 32, f 33, f 34, f 35, f 36, f 37, f 38, f 39, f 40, f 41, f 42, f 43, f 44, f 45, f 46, f 47, f 48, f 49, f 50, f 51, f 52, f 53, f 54, f 55, f 56, f 57, f 58, f 59, f 60, f 61, f 62, f 63, f 64, f 65, f 66, f 67, f 68, f 69, f 70, f 71, f 72, f 73, f 74, f 75, f 76, f 77, f 78, f 79, f 80, f 81, f 82, f 83] from rfl]
  rewrite [hk1, hk2, hk3, hk6, hk8]
  dsimp only
  clear hsz hk1 hk2 hk3 hk6 hk8
  have b2' : W4.cell? ⟨w.heap.size, 2, none⟩ = some (.int .i64 F.fuse) := T.c3.2.2.2.1
  have hfd : decide (0 < F.fuse) = true := by have := HFU.out; simp; omega
  have hfb := HFZ.out
  have hfb1 := HFU.out
  have k2' : W4.cell? ⟨g8, 2, none⟩ = some (.int .i64 F.fuse) := T.c8.2.2.2.1
  have f2' := T.f8 2
  replace T := T.burn (F.fuse - 1)
  obtain ⟨o0, o1, o2, o3, o4, c6⟩ := T.c6
  have HC6 := Kept.mk c6
  have HF6 := Kept.mk T.f6
  obtain ⟨hfl, hB5, hr5⟩ := ti_end T
  have HFL := Kept.mk hfl
  have HR5 := Kept.mk hr5
  obtain ⟨_, k0, k1, k2, k3, k4⟩ := T.c8
  clear T c6 hfl hr5
  go_wp2_with (refine wpList_store5 rfl (.tmp 6) (.tmp 83) rfl (w.heap.size + 1) _ _ _ _ _ rfl rfl HC6.out HF6.out oo1 oo2 rfl rfl rfl ?_)
  exact bodyPost_ret (results2 rfl _ _ (w.heap.size + 1) _ _ _ _ _ (.int .i64 0) rfl rfl HR5.out) rfl ⟨_, rfl, HFL.out, hB5⟩

set_option maxRecDepth 100000 in
set_option maxHeartbeats 2000000 in
theorem take_pout (F : Fl) (v : Value) (w : World) (hv : isFl F v w) (k : Nat) (at_ : Int) (s : List UInt8) (hs : s.length ≤ 1000000) (hfits : (decide (0 ≤ at_) && decide (at_ ≤ ((F.pages.getD k []).length : Int) - (s.length : Int))) = false) (hhas : hasB F (k : Int) = true) :
    Calls Tryz.prog 54 #[v, .int .i64 (k : Int), (.iface 77 (.agg #[.int .i64 at_, .string ⟨s.toArray⟩]))] w fun e w' => ∃ v', e = .returned (.tuple #[v', .int .i64 1]) ∧ isFlN w.heap.size F v' w' ∧ Below w.heap.size w w' := by
  have HHF := Kept.mk (has_facts F k hhas)
  obtain ⟨hk, h6, hwl, htl, hpg, hwr⟩ := HHF.out
  obtain ⟨was, hwas⟩ : ∃ was, F.pages[k]? = some was := ⟨_, List.getElem?_eq_getElem hk⟩
  obtain ⟨wn, hwn⟩ : ∃ wn, F.wear[k]? = some wn := ⟨_, List.getElem?_eq_getElem (by omega)⟩
  have hwm : was.length ≤ 8192 := (hpg _ (List.mem_of_getElem? hwas)).2.1
  have hn01 := hwr wn (List.mem_of_getElem? hwn)
  obtain ⟨vp, vw, rfl, hp, hq⟩ := hv
  obtain ⟨b, off, cap, hvp, hb, hc⟩ := hp.some_ (by rw [List.length_map]; omega)
  obtain ⟨b2, off2, cap2, hvw, hb2, hc2⟩ := hq.some_ (by rw [List.length_map]; omega)
  rw [List.length_map] at hvp hvw
  subst hvp hvw
  have hcell : w.cell? ⟨b, off + k, none⟩ = some (.string ⟨was.toArray⟩) := hc k _ (by simp [hwas, strC])
  have hcell2 : w.cell? ⟨b2, off2 + k, none⟩ = some (.int .i64 wn) := hc2 k _ (by simp [hwn, intC])
  have hkw : k < F.wear.length := by omega
  have hwl6 : F.wear.length ≤ 6 := by omega
  have HWL := Kept.mk hwl
  clear hwl
  have hget1 : F.pages.getD k [] = was := by simp [List.getD_eq_getElem?_getD, hwas]
  have hget2 : F.wear.getD k 0 = wn := by simp [List.getD_eq_getElem?_getD, hwn]
  try rw [hget1]
  try rw [hget2]
  have hfit : (decide (0 ≤ at_) && decide (at_ ≤ (was.length : Int) - (s.length : Int))) = false := by rw [← hget1]; exact hfits
  have HFIT := Kept.mk hfit
  clear hget1 hget2 hfits hfit
  have HW := Kept.mk hwas
  have HWN := Kept.mk hwn
  have HC1 := Kept.mk hcell
  have HC2 := Kept.mk hcell2
  have hb0 : Below w.heap.size w ((w.alloc (.cells #[.slice (some ⟨b, off, none⟩) F.pages.length cap, .slice (some ⟨b2, off2, none⟩) F.wear.length cap2, .int .i64 F.fuse, strC F.torn, .bool F.dead] 31)).alloc (.cells #[.slice none 0 0, .slice none 0 0, .int .i64 0, .string ⟨#[]⟩, .bool false] 31)) := ((Below.refl _ _).alloc (Nat.le_refl _) _).alloc (by simp) _
  have HP := Kept.mk hp
  have HQ := Kept.mk hq
  have HB0 := Kept.mk hb0
  clear hp hq hb0 hc hc2 hcell hcell2 hwas hwn hpg hwr
  go_enter Tryz.func54, Tryz.ntmps54
  go_wp2_with fail
  refine (copied_any F _ _ ⟨.slice (some ⟨b, off, none⟩) F.pages.length cap, .slice (some ⟨b2, off2, none⟩) F.wear.length cap2, rfl, stable_cells _ _ _ _ HP.out HB0.out, stable_cells _ _ _ _ HQ.out HB0.out⟩ (by omega) (by omega)).mono ?_
  rintro e w1 ⟨vp', vw', rfl, ho1, ho2, hb1⟩
  have TI0 := Lib.hid (ti_start F w w1 (.slice (some ⟨b, off, none⟩) F.pages.length cap) (.slice (some ⟨b2, off2, none⟩) F.wear.length cap2) vp' vw' HP.out HQ.out hb1 ho1 ho2)
  have HC8 := Lib.hid (cells5_new w1 31 (.slice none 0 0) (.slice none 0 0) (.int .i64 0) (.string ⟨#[]⟩) (.bool false))
  have HF8 := Lib.hid (free5_new w1 #[.slice none 0 0, .slice none 0 0, .int .i64 0, .string ⟨#[]⟩, .bool false] 31)
  have oo1 := (ho1.one).2
  have oo2 := (ho2.one).2
  clear ho1 ho2 hb1 HB0
  go_wp2_with (refine wpList_store5 rfl (.tmp 8) (.tmp 12) rfl w1.heap.size vp' vw' (.int .i64 F.fuse) (strC F.torn) (.bool F.dead) rfl rfl HC8.out HF8.out oo1 oo2 rfl rfl rfl ?_)
  have T := TI0.out
  clear TI0 HC8 HF8
  generalize set5 (w1.alloc (.cells #[.slice none 0 0, .slice none 0 0, .int .i64 0, .string ⟨#[]⟩, .bool false] 31)) w1.heap.size vp' vw' (.int .i64 F.fuse) (strC F.torn) (.bool F.dead) = W at *
  generalize w1.heap.size = g8 at *
  refine take2_pout _ _ _ rfl w.heap.size F _ at_ s hs k b off F.pages.length cap was hk ((T.below.cell (p := ⟨b, off + k, none⟩) hb).trans HC1.out) (Nat.lt_of_lt_of_le hb T.below.size) (by omega) HFIT.out rfl rfl rfl T.c3 T.fl (by omega) (by omega) hhas ?_
  intro act W2 hdf hsz hkeep hn30 hbT
  have hk1 : act.tmps.getD 1 undef = (.int .i64 (k : Int)) := hkeep 1 (by kernel_rfl)
  have hk2 : act.tmps.getD 2 undef = (.iface 77 (.agg #[.int .i64 at_, .string ⟨s.toArray⟩])) := hkeep 2 (by kernel_rfl)
  have hk3 : act.tmps.getD 3 undef = (.pointer (some ⟨w.heap.size, 0, none⟩)) := hkeep 3 (by kernel_rfl)
  have hk6 : act.tmps.getD 6 undef = (.pointer (some ⟨w.heap.size + 1, 0, none⟩)) := hkeep 6 (by kernel_rfl)
  have hk8 : act.tmps.getD 8 undef = (.pointer (some ⟨g8, 0, none⟩)) := hkeep 8 (by kernel_rfl)
  obtain ⟨tm, df⟩ := act
  obtain rfl : df = [] := hdf
  clear hkeep
  obtain ⟨f, rfl, hk1, hk2, hk3, hk6, hk8, hn30⟩ : ∃ f : Nat → Value, tm = ((List.range 84).map f).toArray ∧ f 1 = (.int .i64 (k : Int)) ∧ f 2 = (.iface 77 (.agg #[.int .i64 at_, .string ⟨s.toArray⟩])) ∧ f 3 = (.pointer (some ⟨w.heap.size, 0, none⟩)) ∧ f 6 = (.pointer (some ⟨w.heap.size + 1, 0, none⟩)) ∧ f 8 = (.pointer (some ⟨g8, 0, none⟩)) ∧ f 30 = (.bool true) := ⟨fun i => tm.getD i undef, arr_eta tm hsz, hk1, hk2, hk3, hk6, hk8, hn30⟩
  rewrite [show ((List.range 84).map f).toArray = #[f 0, f 1, f 2, f 3, f 4, f 5, f 6, f 7, f 8, f 9, f 10, f 11, f 12, f 13, f 14, f 15, f 16, f 17, f 18, f 19, f 20, f 21, f 22, f 23, f 24, f 25, f 26, f 27, f 28, f 29, f 30, f 31, f 32, f 33, f 34, f 35, f 36, f 37, f 38, f 39, f 40, f 41, f 42, f 43, f 44, f 45, f 46, f 47, f 48, f 49, f 50, f 51, f 52, f 53, f 54, f 55, f 56, f 57, f 58, f 59, f 60, f 61, f 62, f 63, f 64, f 65, f 66, f 67, f 68, f 69, f 70, f 71, f 72, f 73, f 74, f 75, f 76, f 77, f 78, f 79, f 80, f 81, f 82, f 83] from rfl]
  rewrite [hk1, hk2, hk3, hk6, hk8, hn30]
  dsimp only
  clear hsz hk1 hk2 hk3 hk6 hk8 hn30
  replace T := T.grow hbT
  clear hbT
  obtain ⟨o0, o1, o2, o3, o4, c6⟩ := T.c6
  have HC6 := Kept.mk c6
  have HF6 := Kept.mk T.f6
  obtain ⟨hfl, hB5, hr5⟩ := ti_end T
  have HFL := Kept.mk hfl
  have HR5 := Kept.mk hr5
  obtain ⟨_, k0, k1, k2, k3, k4⟩ := T.c8
  clear T c6 hfl hr5
  go_wp2_with (refine wpList_store5 rfl (.tmp 6) (.tmp 31) rfl (w.heap.size + 1) _ _ _ _ _ rfl rfl HC6.out HF6.out oo1 oo2 rfl rfl rfl ?_)
  exact bodyPost_ret (results2 rfl _ _ (w.heap.size + 1) _ _ _ _ _ (.int .i64 1) rfl rfl HR5.out) rfl ⟨_, rfl, HFL.out, hB5⟩

/-- What an erase makes of a device, and what it tells. -/
def eraseF (F : Fl) (page : Int) : Fl :=
  if hasB F page = false then F else if F.dead = true then F else
  if F.fuse = 0 then { F with pages := F.pages.set page.toNat (betweenL (F.pages.getD page.toNat []) (List.replicate (F.pages.getD page.toNat []).length 255) F.torn), dead := true } else
  { F with pages := F.pages.set page.toNat (List.replicate (F.pages.getD page.toNat []).length 255), wear := F.wear.set page.toNat (wornN (F.wear.getD page.toNat 0)), fuse := if 0 < F.fuse then F.fuse - 1 else F.fuse }
def eraseE (F : Fl) (page : Int) : Int := if hasB F page = false then 1 else if F.dead = true then 8 else if F.fuse = 0 then 8 else 0
/-- What a program makes of it. -/
def fitsB (F : Fl) (page at_ : Int) (s : List UInt8) : Bool := decide (0 ≤ at_) && decide (at_ ≤ ((F.pages.getD page.toNat []).length : Int) - (s.length : Int))
def progF (F : Fl) (page at_ : Int) (s : List UInt8) : Fl :=
  if hasB F page = false then F else if fitsB F page at_ s = false then F else if F.dead = true then F else
  if F.fuse = 0 then { F with pages := F.pages.set page.toNat (betweenL (F.pages.getD page.toNat []) (progL (F.pages.getD page.toNat []) at_.toNat s) F.torn), dead := true } else
  { F with pages := F.pages.set page.toNat (progL (F.pages.getD page.toNat []) at_.toNat s), wear := F.wear.set page.toNat (F.wear.getD page.toNat 0), fuse := if 0 < F.fuse then F.fuse - 1 else F.fuse }
def progE (F : Fl) (page at_ : Int) (s : List UInt8) : Int := if hasB F page = false then 1 else if fitsB F page at_ s = false then 1 else if F.dead = true then 8 else if F.fuse = 0 then 8 else 0
theorem has_nat {F : Fl} {page : Int} (h : hasB F page = true) : ∃ k : Nat, page = (k : Int) := by
  unfold hasB at h
  simp only [Bool.and_eq_true, decide_eq_true_eq] at h
  exact Int.eq_ofNat_of_zero_le h.1.2
theorem take_e (F : Fl) (page : Int) (v : Value) (w : World) (hv : isFl F v w) (h1 : F.pages.length ≤ 1000000) (h2 : F.wear.length ≤ 1000000) (hfz : F.fuse ≤ 9223372036854775807) :
    Calls Tryz.prog 54 #[v, .int .i64 page, .iface 64 (.agg #[])] w fun e w' => ∃ v', e = .returned (.tuple #[v', .int .i64 (eraseE F page)]) ∧ isFlN w.heap.size (eraseF F page) v' w' ∧ Below w.heap.size w w' := by
  cases hh : hasB F page with
  | false =>
    rw [show eraseE F page = 1 by simp [eraseE, hh], show eraseF F page = F by simp [eraseF, hh]]
    exact take_eno F v w hv h1 h2 page hh
  | true =>
    obtain ⟨k, rfl⟩ := has_nat hh
    cases hd : F.dead with
    | true =>
      rw [show eraseE F k = 8 by simp [eraseE, hh, hd], show eraseF F k = F by simp [eraseF, hh, hd]]
      exact take_edead F v w hv k hd hh
    | false =>
      by_cases h0 : F.fuse = 0
      · rw [show eraseE F k = 8 by simp [eraseE, hh, hd, h0]]
        unfold eraseF
        rw [if_neg (by simp [hh]), if_neg (by simp [hd]), if_pos h0, Int.toNat_natCast]
        exact take_etorn F v w hv k hd h0 hh
      · rw [show eraseE F k = 0 by simp [eraseE, hh, hd, h0]]
        unfold eraseF
        rw [if_neg (by simp [hh]), if_neg (by simp [hd]), if_neg h0, Int.toNat_natCast]
        by_cases hp : 0 < F.fuse
        · rw [if_pos hp]
          exact take_eburn F v w hv k hd hp hfz hh
        · rw [if_neg hp]
          exact take_edone F v w hv k hd (by omega) hh
theorem take_p (F : Fl) (page at_ : Int) (s : List UInt8) (v : Value) (w : World) (hv : isFl F v w) (hs : s.length ≤ 1000000) (h1 : F.pages.length ≤ 1000000) (h2 : F.wear.length ≤ 1000000) (hfz : F.fuse ≤ 9223372036854775807) :
    Calls Tryz.prog 54 #[v, .int .i64 page, .iface 77 (.agg #[.int .i64 at_, .string ⟨s.toArray⟩])] w fun e w' => ∃ v', e = .returned (.tuple #[v', .int .i64 (progE F page at_ s)]) ∧ isFlN w.heap.size (progF F page at_ s) v' w' ∧ Below w.heap.size w w' := by
  cases hh : hasB F page with
  | false =>
    rw [show progE F page at_ s = 1 by simp [progE, hh], show progF F page at_ s = F by simp [progF, hh]]
    exact take_pno F v w hv h1 h2 at_ s hs page hh
  | true =>
    obtain ⟨k, rfl⟩ := has_nat hh
    cases hf : fitsB F k at_ s with
    | false =>
      rw [show progE F k at_ s = 1 by simp [progE, hh, hf], show progF F k at_ s = F by simp [progF, hh, hf]]
      unfold fitsB at hf
      rw [Int.toNat_natCast] at hf
      exact take_pout F v w hv k at_ s hs hf hh
    | true =>
      have hf' := hf
      unfold fitsB at hf'
      rw [Int.toNat_natCast] at hf'
      simp only [Bool.and_eq_true, decide_eq_true_eq] at hf'
      obtain ⟨n, rfl⟩ := Int.eq_ofNat_of_zero_le hf'.1
      cases hd : F.dead with
      | true =>
        rw [show progE F k n s = 8 by simp [progE, hh, hd, hf], show progF F k n s = F by simp [progF, hh, hd, hf]]
        exact take_pdead F v w hv k n s hs (by omega) hd hh
      | false =>
        by_cases h0 : F.fuse = 0
        · rw [show progE F k n s = 8 by simp [progE, hh, hd, h0, hf]]
          unfold progF
          rw [if_neg (by simp [hh]), if_neg (by simp [hf]), if_neg (by simp [hd]), if_pos h0, Int.toNat_natCast, Int.toNat_natCast]
          exact take_ptorn F v w hv k n s hs (by omega) hd h0 hh
        · rw [show progE F k n s = 0 by simp [progE, hh, hd, h0, hf]]
          unfold progF
          rw [if_neg (by simp [hh]), if_neg (by simp [hf]), if_neg (by simp [hd]), if_neg h0, Int.toNat_natCast, Int.toNat_natCast]
          by_cases hp : 0 < F.fuse
          · rw [if_pos hp]
            exact take_pburn F v w hv k n s hs (by omega) hd hp hfz hh
          · rw [if_neg hp]
            exact take_pdone F v w hv k n s hs (by omega) hd (by omega) hh
end Go.Proofs.YtipiioggdalkoaaGreatDoor
end
section
namespace Go.Proofs.YtipiioggdalkoaaGreatDoor
open Go.RowKit
set_option linter.unusedVariables false
set_option linter.unusedSimpArgs false
attribute [local irreducible] set5

/-- Where a result is laid down that was told by a callee. -/
theorem told {w W1 w1 : World} {B g : Nat} {G : Fl} {vp' vw' o0 o1 o2 o3 o4 : Value} (hB : g < B) (hW : W1.heap.size = B) (hbw : Below w.heap.size w W1) (hg : w.heap.size ≤ g) (hc : Cells5 W1 g o0 o1 o2 o3 o4) (hf : Free5 W1 g) (hb1 : Below W1.heap.size W1 w1)
    (hp : isBtw B w1.heap.size 9 (G.pages.map strC) vp' w1) (hq : isBtw B w1.heap.size 3 (G.wear.map intC) vw' w1) :
    Kept (Cells5 w1 g o0 o1 o2 o3 o4) ∧ Kept (Free5 w1 g) ∧ Kept (Cells5 (set5 w1 g vp' vw' (.int .i64 G.fuse) (strC G.torn) (.bool G.dead)) g vp' vw' (.int .i64 G.fuse) (strC G.torn) (.bool G.dead)) ∧
      Kept (isFlN w.heap.size G (.agg #[vp', vw', .int .i64 G.fuse, strC G.torn, .bool G.dead]) (set5 w1 g vp' vw' (.int .i64 G.fuse) (strC G.torn) (.bool G.dead))) ∧ Kept (Below w.heap.size w (set5 w1 g vp' vw' (.int .i64 G.fuse) (strC G.torn) (.bool G.dead))) := by
  have hc1 := hc.keep hb1 (by omega)
  refine ⟨⟨hc1⟩, ⟨hf.keep hb1 (by omega)⟩, ⟨hc1.set5_ _ _ _ _ _⟩, ⟨⟨vp', vw', rfl, ?_, ?_⟩⟩, ⟨below_set5 (hbw.trans (hb1.mono hbw.size)) hg _ _ _ _ _⟩⟩
  · have := (hp.out5 (g := g) (.inl hB) vp' vw' (.int .i64 G.fuse) (strC G.torn) (.bool G.dead)).weak (lo' := w.heap.size) (by omega) (Nat.le_refl _)
    rwa [← size_set5 w1 g vp' vw' (.int .i64 G.fuse) (strC G.torn) (.bool G.dead)] at this
  · have := (hq.out5 (g := g) (.inl hB) vp' vw' (.int .i64 G.fuse) (strC G.torn) (.bool G.dead)).weak (lo' := w.heap.size) (by omega) (Nat.le_refl _)
    rwa [← size_set5 w1 g vp' vw' (.int .i64 G.fuse) (strC G.torn) (.bool G.dead)] at this

set_option maxRecDepth 100000 in
set_option maxHeartbeats 1000000 in
theorem erase_any (F : Fl) (page : Int) (v : Value) (w : World) (hv : isFl F v w) (h1 : F.pages.length ≤ 1000000) (h2 : F.wear.length ≤ 1000000) (hfz : F.fuse ≤ 9223372036854775807) :
    Calls Tryz.prog 29 #[v, .int .i64 page] w fun e w' => ∃ v', e = .returned (.tuple #[v', .int .i64 (eraseE F page)]) ∧ isFlN w.heap.size (eraseF F page) v' w' ∧ Below w.heap.size w w' := by
  obtain ⟨G, hG⟩ : ∃ G, G = eraseF F page := ⟨_, rfl⟩
  obtain ⟨E, hE⟩ : ∃ E, E = eraseE F page := ⟨_, rfl⟩
  rw [← hG, ← hE]
  have HG := Kept.mk hG
  have HE := Kept.mk hE
  clear hG hE
  obtain ⟨vp, vw, rfl, hp, hq⟩ := hv
  have hb0 : Below w.heap.size w ((w.alloc (.cells #[vp, vw, .int .i64 F.fuse, strC F.torn, .bool F.dead] 31)).alloc (.cells #[.slice none 0 0, .slice none 0 0, .int .i64 0, .string ⟨#[]⟩, .bool false] 31)) := ((Below.refl _ _).alloc (Nat.le_refl _) _).alloc (by simp) _
  have HP := Kept.mk hp
  have HQ := Kept.mk hq
  have HB0 := Kept.mk hb0
  have HFZ := Kept.mk hfz
  clear hp hq hb0 hfz
  go_enter Tryz.func29, Tryz.ntmps29
  go_wp2_with fail
  refine (take_e F page _ _ ⟨vp, vw, rfl, stable_cells _ _ _ _ HP.out HB0.out, stable_cells _ _ _ _ HQ.out HB0.out⟩ h1 h2 HFZ.out).mono ?_
  rintro e w1 ⟨v', rfl, hf', hb1⟩
  rw [← HG.out] at hf'
  rewrite [← HE.out]
  obtain ⟨vp', vw', rfl, hp', hq'⟩ := hf'
  have oo1 := hp'.one
  have oo2 := hq'.one
  obtain ⟨K1, K2, K3, K4, K5⟩ := told (g := w.heap.size + 1) (by simp) rfl HB0.out (by omega) (cells5_at (w.alloc (.cells #[vp, vw, .int .i64 F.fuse, strC F.torn, .bool F.dead] 31)) 31 (.slice none 0 0) (.slice none 0 0) (.int .i64 0) (.string ⟨#[]⟩) (.bool false) (w.heap.size + 1) (by simp)) (free5_at (w.alloc (.cells #[vp, vw, .int .i64 F.fuse, strC F.torn, .bool F.dead] 31)) #[.slice none 0 0, .slice none 0 0, .int .i64 0, .string ⟨#[]⟩, .bool false] 31 (w.heap.size + 1) (by simp)) hb1 hp' hq'
  clear hp' hq' hb1
  go_wp2_with (refine wpList_store5 rfl (.tmp 4) (.tmp 11) rfl (w.heap.size + 1) vp' vw' (.int .i64 G.fuse) (strC G.torn) (.bool G.dead) rfl rfl K1.out K2.out oo1 oo2 rfl rfl rfl ?_)
  exact bodyPost_ret (results2 rfl _ _ (w.heap.size + 1) _ _ _ _ _ (.int .i64 E) rfl rfl K3.out) rfl ⟨_, rfl, K4.out, K5.out⟩

set_option maxRecDepth 100000 in
set_option maxHeartbeats 1000000 in
theorem program_any (F : Fl) (page at_ : Int) (s : List UInt8) (v : Value) (w : World) (hv : isFl F v w) (hs : s.length ≤ 1000000) (h1 : F.pages.length ≤ 1000000) (h2 : F.wear.length ≤ 1000000) (hfz : F.fuse ≤ 9223372036854775807) :
    Calls Tryz.prog 44 #[v, .int .i64 page, .int .i64 at_, .string ⟨s.toArray⟩] w fun e w' => ∃ v', e = .returned (.tuple #[v', .int .i64 (progE F page at_ s)]) ∧ isFlN w.heap.size (progF F page at_ s) v' w' ∧ Below w.heap.size w w' := by
  obtain ⟨G, hG⟩ : ∃ G, G = progF F page at_ s := ⟨_, rfl⟩
  obtain ⟨E, hE⟩ : ∃ E, E = progE F page at_ s := ⟨_, rfl⟩
  rw [← hG, ← hE]
  have HG := Kept.mk hG
  have HE := Kept.mk hE
  clear hG hE
  obtain ⟨vp, vw, rfl, hp, hq⟩ := hv
  have hb0 : Below w.heap.size w ((w.alloc (.cells #[vp, vw, .int .i64 F.fuse, strC F.torn, .bool F.dead] 31)).alloc (.cells #[.slice none 0 0, .slice none 0 0, .int .i64 0, .string ⟨#[]⟩, .bool false] 31)) := ((Below.refl _ _).alloc (Nat.le_refl _) _).alloc (by simp) _
  have HP := Kept.mk hp
  have HQ := Kept.mk hq
  have HB0 := Kept.mk hb0
  have HFZ := Kept.mk hfz
  clear hp hq hb0 hfz
  go_enter Tryz.func44, Tryz.ntmps44
  go_wp2_with fail
  refine (take_p F page at_ s _ _ ⟨vp, vw, rfl, stable_cells _ _ _ _ HP.out HB0.out, stable_cells _ _ _ _ HQ.out HB0.out⟩ hs h1 h2 HFZ.out).mono ?_
  rintro e w1 ⟨v', rfl, hf', hb1⟩
  rw [← HG.out] at hf'
  rewrite [← HE.out]
  obtain ⟨vp', vw', rfl, hp', hq'⟩ := hf'
  have oo1 := hp'.one
  have oo2 := hq'.one
  obtain ⟨K1, K2, K3, K4, K5⟩ := told (g := w.heap.size + 1) (by simp) rfl HB0.out (by omega) (cells5_at (w.alloc (.cells #[vp, vw, .int .i64 F.fuse, strC F.torn, .bool F.dead] 31)) 31 (.slice none 0 0) (.slice none 0 0) (.int .i64 0) (.string ⟨#[]⟩) (.bool false) (w.heap.size + 1) (by simp)) (free5_at (w.alloc (.cells #[vp, vw, .int .i64 F.fuse, strC F.torn, .bool F.dead] 31)) #[.slice none 0 0, .slice none 0 0, .int .i64 0, .string ⟨#[]⟩, .bool false] 31 (w.heap.size + 1) (by simp)) hb1 hp' hq'
  clear hp' hq' hb1
  go_wp2_with (refine wpList_store5 rfl (.tmp 8) (.tmp 17) rfl (w.heap.size + 1) vp' vw' (.int .i64 G.fuse) (strC G.torn) (.bool G.dead) rfl rfl K1.out K2.out oo1 oo2 rfl rfl rfl ?_)
  exact bodyPost_ret (results2 rfl _ _ (w.heap.size + 1) _ _ _ _ _ (.int .i64 E) rfl rfl K3.out) rfl ⟨_, rfl, K4.out, K5.out⟩
end Go.Proofs.YtipiioggdalkoaaGreatDoor
end
section
namespace Go.Proofs.YtipiioggdalkoaaGreatDoor
open Go.RowKit
set_option linter.unusedVariables false
set_option linter.unusedSimpArgs false

theorem below_drewN (w : World) (q : Nat) : Below w.heap.size w (w.drewN q) := ⟨rfl, rfl, rfl, Nat.le_refl _, fun _ _ => rfl⟩

set_option maxHeartbeats 400000 in
theorem unlike_s (n m : Nat) (a b : Option Addr) (c d : Nat) (w : World) (h : n ≠ m) (hn : n ≤ 1000000000) (hm : m ≤ 1000000000) :
    Calls Tryz.prog 51 #[.slice a n c, .slice b m d] w fun e w' => e = .returned (.bool false) ∧ Below w.heap.size w w' := by
  have h' : ((n : Int) != (m : Int)) = true := by simp [bne]; omega
  have h2 : ((n : Int) == (m : Int)) = false := by simp; omega
  go_enter Tryz.func51, Tryz.ntmps51
  go_wp2
  go_ret
  exact ⟨rfl, Below.refl _ _⟩

set_option maxHeartbeats 400000 in
theorem unlike_i (n m : Nat) (a b : Option Addr) (c d : Nat) (w : World) (h : n ≠ m) (hn : n ≤ 1000000000) (hm : m ≤ 1000000000) :
    Calls Tryz.prog 52 #[.slice a n c, .slice b m d] w fun e w' => e = .returned (.bool false) ∧ Below w.heap.size w w' := by
  have h' : ((n : Int) != (m : Int)) = true := by simp [bne]; omega
  have h2 : ((n : Int) == (m : Int)) = false := by simp; omega
  go_enter Tryz.func52, Tryz.ntmps52
  go_wp2
  go_ret
  exact ⟨rfl, Below.refl _ _⟩

theorem equal_s (l m : List (List UInt8)) (v u : Value) (w : World) (hv : isCells (l.map strC) v w) (hu : isCells (m.map strC) u w) (h1 : l.length ≤ 1000000000) (h2 : m.length ≤ 1000000000) :
    Calls Tryz.prog 51 #[v, u] w fun e w' => e = .returned (.bool (decide (l = m))) ∧ Below w.heap.size w w' := by
  by_cases hlen : l.length = m.length
  · by_cases h0 : l = []
    · subst h0
      obtain rfl : m = [] := List.eq_nil_of_length_eq_zero (by simpa using hlen.symm)
      obtain ⟨a, cap, rfl⟩ := hv.len
      obtain ⟨b, cap2, rfl⟩ := hu.len
      refine (Tryz.slices_Equal_string_empty a b cap 0 cap2 w (by omega)).mono ?_
      rintro e w' ⟨rfl, rfl⟩
      exact ⟨by simp, Below.refl _ _⟩
    · have hl0 : 0 < l.length := List.length_pos_iff.2 h0
      obtain ⟨b, off, cap, hv', hb, hc⟩ := hv.some_ (by simpa using hl0)
      obtain ⟨b2, off2, cap2, hu', hb2, hc2⟩ := hu.some_ (by rw [List.length_map]; omega)
      rw [List.length_map] at hv' hu'
      subst hv' hu'
      refine (Tryz.slices_Equal_string b off l.length cap b2 off2 m.length cap2 (l.map fun x => ⟨x.toArray⟩) (m.map fun x => ⟨x.toArray⟩) w (by simp) (by simp) (by omega) (by omega) (fun j hj => ?_) (fun j hj => ?_)).mono ?_
      · have hj' : j < l.length := by simpa using hj
        rw [hc j _ (get_map strC l j hj')]
        simp [strC, List.getD_eq_getElem?_getD, hj']
      · have hj' : j < m.length := by simpa using hj
        rw [hc2 j _ (get_map strC m j hj')]
        simp [strC, List.getD_eq_getElem?_getD, hj']
      · rintro e w' ⟨rfl, q, rfl⟩
        refine ⟨?_, below_drewN w q⟩
        rw [List.take_of_length_le (by simp), List.take_of_length_le (by simp)]
        congr 2
        rw [decide_eq_decide]
        constructor
        · intro h
          have := congrArg (List.map (fun (x : ByteArray) => x.data.toList)) h
          simpa [List.map_map, Function.comp_def] using this
        · rintro rfl; rfl
  · obtain ⟨a, cap, rfl⟩ := hv.len
    obtain ⟨b, cap2, rfl⟩ := hu.len
    rw [List.length_map, List.length_map]
    rw [show decide (l = m) = false by simp; rintro rfl; exact hlen rfl]
    exact unlike_s l.length m.length a b cap cap2 w hlen h1 h2
theorem equal_i (l m : List Int) (v u : Value) (w : World) (hv : isCells (l.map intC) v w) (hu : isCells (m.map intC) u w) (h1 : l.length ≤ 1000000000) (h2 : m.length ≤ 1000000000) :
    Calls Tryz.prog 52 #[v, u] w fun e w' => e = .returned (.bool (decide (l = m))) ∧ Below w.heap.size w w' := by
  by_cases hlen : l.length = m.length
  · by_cases h0 : l = []
    · subst h0
      obtain rfl : m = [] := List.eq_nil_of_length_eq_zero (by simpa using hlen.symm)
      obtain ⟨a, cap, rfl⟩ := hv.len
      obtain ⟨b, cap2, rfl⟩ := hu.len
      refine (Tryz.slices_Equal_int_empty a b cap 0 cap2 w (by omega)).mono ?_
      rintro e w' ⟨rfl, rfl⟩
      exact ⟨by simp, Below.refl _ _⟩
    · have hl0 : 0 < l.length := List.length_pos_iff.2 h0
      obtain ⟨b, off, cap, hv', hb, hc⟩ := hv.some_ (by simpa using hl0)
      obtain ⟨b2, off2, cap2, hu', hb2, hc2⟩ := hu.some_ (by rw [List.length_map]; omega)
      rw [List.length_map] at hv' hu'
      subst hv' hu'
      refine (Tryz.slices_Equal_int b off l.length cap b2 off2 m.length cap2 l m w (Nat.le_refl _) (Nat.le_refl _) (by omega) (by omega) (fun j hj => ?_) (fun j hj => ?_)).mono ?_
      · rw [hc j _ (get_map intC l j hj)]
        simp [intC, List.getD_eq_getElem?_getD, hj]
      · rw [hc2 j _ (get_map intC m j hj)]
        simp [intC, List.getD_eq_getElem?_getD, hj]
      · rintro e w' ⟨rfl, q, rfl⟩
        refine ⟨?_, below_drewN w q⟩
        rw [List.take_of_length_le (Nat.le_refl _), List.take_of_length_le (Nat.le_refl _)]
        congr 2
        by_cases h : l = m <;> simp [h]
  · obtain ⟨a, cap, rfl⟩ := hv.len
    obtain ⟨b, cap2, rfl⟩ := hu.len
    rw [List.length_map, List.length_map]
    rw [show decide (l = m) = false by simp; rintro rfl; exact hlen rfl]
    exact unlike_i l.length m.length a b cap cap2 w hlen h1 h2

def sameB (F G : Fl) : Bool := decide (F.pages = G.pages) && decide (F.wear = G.wear) && (F.fuse == G.fuse) && (F.torn == G.torn) && (F.dead == G.dead)
set_option maxRecDepth 20000 in
set_option maxHeartbeats 1000000 in
theorem same_any (F G : Fl) (v u : Value) (w : World) (hv : isFl F v w) (hu : isFl G u w) (h1 : F.pages.length ≤ 1000000) (h2 : F.wear.length ≤ 1000000) (h3 : G.pages.length ≤ 1000000) (h4 : G.wear.length ≤ 1000000) :
    Calls Tryz.prog 26 #[v, u] w fun e w' => e = .returned (.bool (sameB F G)) ∧ Below w.heap.size w w' := by
  obtain ⟨vp, vw, rfl, hp, hq⟩ := hv
  obtain ⟨up, uw, rfl, gp, gq⟩ := hu
  have hb0 : Below w.heap.size w ((w.alloc (.cells #[vp, vw, .int .i64 F.fuse, strC F.torn, .bool F.dead] 31)).alloc (.cells #[up, uw, .int .i64 G.fuse, strC G.torn, .bool G.dead] 31)) := ((Below.refl _ _).alloc (Nat.le_refl _) _).alloc (by simp) _
  have hbn := (Below.refl (w.alloc (.cells #[vp, vw, .int .i64 F.fuse, strC F.torn, .bool F.dead] 31)).heap.size (w.alloc (.cells #[vp, vw, .int .i64 F.fuse, strC F.torn, .bool F.dead] 31))).alloc (Nat.le_refl _) (.cells #[up, uw, .int .i64 G.fuse, strC G.torn, .bool G.dead] 31)
  have c1 := (cells5_new w 31 vp vw (.int .i64 F.fuse) (strC F.torn) (.bool F.dead)).keep hbn (by simp)
  have c2 := cells5_at (w.alloc (.cells #[vp, vw, .int .i64 F.fuse, strC F.torn, .bool F.dead] 31)) 31 up uw (.int .i64 G.fuse) (strC G.torn) (.bool G.dead) (w.heap.size + 1) (by simp)
  have HB0 := Kept.mk hb0
  have C1 := Kept.mk c1
  have C2 := Kept.mk c2
  have HP := Kept.mk hp
  have HQ := Kept.mk hq
  have GP := Kept.mk gp
  have GQ := Kept.mk gq
  have HS := Kept.mk (show sameB F G = (decide (F.pages = G.pages) && decide (F.wear = G.wear) && (F.fuse == G.fuse) && (F.torn == G.torn) && (F.dead == G.dead)) from rfl)
  clear hp hq gp gq c1 c2 hb0 hbn
  unfold strC
  go_enter Tryz.func26, Tryz.ntmps26
  go_wp2_with fail
  refine (equal_s F.pages G.pages _ _ _ (stable_cells _ _ _ _ HP.out HB0.out) (stable_cells _ _ _ _ GP.out HB0.out) (by omega) (by omega)).mono ?_
  rintro e w1 ⟨rfl, hb1⟩
  obtain ⟨_, k0, k1, k2, k3, k4⟩ := C1.out.keep hb1 (by simp <;> omega)
  obtain ⟨_, j0, j1, j2, j3, j4⟩ := C2.out.keep hb1 (by simp <;> omega)
  unfold strC at k3 j3
  have hB := Kept.mk (HB0.out.trans (hb1.mono HB0.out.size))
  have hs1 := hb1.size
  have HB1 := Kept.mk hb1
  clear hb1
  cases d1 : decide (F.pages = G.pages) with
  | false =>
    go_wp2
    go_ret
    exact ⟨by rw [HS.out, d1]; rfl, hB.out⟩
  | true =>
    go_wp2_with fail
    refine (equal_i F.wear G.wear _ _ _ (stable_cells _ _ _ _ HQ.out hB.out) (stable_cells _ _ _ _ GQ.out hB.out) (by omega) (by omega)).mono ?_
    rintro e w2 ⟨rfl, hb2⟩
    clear k0 k1 k2 k3 k4 j0 j1 j2 j3 j4
    obtain ⟨_, k0, k1, k2, k3, k4⟩ := (C1.out.keep HB1.out (by simp <;> omega)).keep hb2 (by simp at hs1 <;> omega)
    obtain ⟨_, j0, j1, j2, j3, j4⟩ := (C2.out.keep HB1.out (by simp <;> omega)).keep hb2 (by simp at hs1 <;> omega)
    unfold strC at k3 j3
    have hB2 := Kept.mk (hB.out.trans (hb2.mono hB.out.size))
    clear hb2
    cases d2 : decide (F.wear = G.wear) with
    | false =>
      go_wp2
      go_ret
      exact ⟨by rw [HS.out, d1, d2]; rfl, hB2.out⟩
    | true =>
      cases d3 : F.fuse == G.fuse with
      | false =>
        go_wp2
        go_ret
        exact ⟨by rw [HS.out, d1, d2, d3]; rfl, hB2.out⟩
      | true =>
        cases d4 : F.torn == G.torn with
        | false =>
          go_wp2
          go_ret
          exact ⟨by rw [HS.out, d1, d2, d3, d4]; rfl, hB2.out⟩
        | true =>
          go_wp2
          go_ret
          exact ⟨by rw [HS.out, d1, d2, d3, d4]; rfl, hB2.out⟩
end Go.Proofs.YtipiioggdalkoaaGreatDoor
end
section
namespace Go.Proofs.YtipiioggdalkoaaGreatDoor
open Go.RowKit
set_option linter.unusedVariables false
set_option linter.unusedSimpArgs false
attribute [local irreducible] set5

section
variable {w0 W : World} {lo hi g3 g6 g8 : Nat} {F G : Fl} {vp vw vp' vw' : Value}
theorem TI.tear (h : TI w0 W lo hi g3 g6 g8 F G vp vw vp' vw') (t : List UInt8) : TI w0 (W.setCell ⟨g8, 3, none⟩ (strC t)) lo hi g3 g6 g8 F { G with torn := t } vp vw vp' vw' := by
  have o3 := h.o3
  have o6 := h.o6
  have o8 := h.o8
  exact {
    below := h.below.setCell (p := ⟨g8, 3, none⟩) (by show _ ≤ g8; omega) _
    o3 := o3
    o6 := o6
    o36 := h.o36
    o8 := o8
    c3 := h.c3.apart _ (by omega)
    c6 := by obtain ⟨o0, o1, o2, o3', o4, hc⟩ := h.c6; exact ⟨o0, o1, o2, o3', o4, hc.apart _ (by omega)⟩
    f6 := h.f6.set _ _
    c8 := h.c8.set3 _
    f8 := h.f8.set _ _
    p := h.p
    q := h.q
    p' := h.p'.out (p := ⟨g8, 3, none⟩) (.inr (by show _ ≤ g8; omega)) _
    q' := h.q'.out (p := ⟨g8, 3, none⟩) (.inr (by show _ ≤ g8; omega)) _ }
end
def wakeB (F : Fl) (torn : List UInt8) : Bool := mayB F && decide ((torn.length : Int) ≤ 64)
def wakeF (F : Fl) (fuse : Int) (torn : List UInt8) : Fl := if wakeB F torn = true then { F with fuse := fuse, torn := torn, dead := false } else F
def wakeE (F : Fl) (torn : List UInt8) : Int := if wakeB F torn = true then 0 else 1

set_option maxRecDepth 100000 in
set_option maxHeartbeats 2000000 in
theorem wake_no1 (F : Fl) (fuse : Int) (torn : List UInt8) (v : Value) (w : World) (hv : isFl F v w) (h1 : F.pages.length * 16 ≤ 140737488355328) (h2 : F.wear.length * 8 ≤ 140737488355328) (hm : mayB F = false) :
    Calls Tryz.prog 25 #[v, .int .i64 fuse, .string ⟨torn.toArray⟩] w fun e w' => ∃ v', e = .returned (.tuple #[v', .int .i64 1]) ∧ isFlN w.heap.size F v' w' ∧ Below w.heap.size w w' := by
  have hsz : (⟨torn.toArray⟩ : ByteArray).size = torn.length := size_mk torn
  have HM := Kept.mk hm
  clear hm
  obtain ⟨vp, vw, rfl, hp, hq⟩ := hv
  have hb0 : Below w.heap.size w ((w.alloc (.cells #[vp, vw, .int .i64 F.fuse, strC F.torn, .bool F.dead] 31)).alloc (.cells #[.slice none 0 0, .slice none 0 0, .int .i64 0, .string ⟨#[]⟩, .bool false] 31)) := ((Below.refl _ _).alloc (Nat.le_refl _) _).alloc (by simp) _
  have HP := Kept.mk hp
  have HQ := Kept.mk hq
  have HB0 := Kept.mk hb0
  clear hp hq hb0
  go_enter Tryz.func25, Tryz.ntmps25
  go_wp2_with fail
  refine (copied_any F _ _ ⟨vp, vw, rfl, stable_cells _ _ _ _ HP.out HB0.out, stable_cells _ _ _ _ HQ.out HB0.out⟩ (by omega) (by omega)).mono ?_
  rintro e w1 ⟨vp', vw', rfl, ho1, ho2, hb1⟩
  have TI0 := Kept.mk (ti_start F w w1 vp vw vp' vw' HP.out HQ.out hb1 ho1 ho2)
  have HC8 := Kept.mk (cells5_new w1 31 (.slice none 0 0) (.slice none 0 0) (.int .i64 0) (.string ⟨#[]⟩) (.bool false))
  have HF8 := Kept.mk (free5_new w1 #[.slice none 0 0, .slice none 0 0, .int .i64 0, .string ⟨#[]⟩, .bool false] 31)
  have oo1 := (ho1.one).2
  have oo2 := (ho2.one).2
  clear ho1 ho2 hb1 HB0
  have b3 := TI0.out.c3
  obtain ⟨_, b0, b1, b2, b3, b4⟩ := b3
  go_wp2_with (refine wpList_store5 rfl (.tmp 8) (.tmp 10) rfl w1.heap.size vp' vw' (.int .i64 F.fuse) (strC F.torn) (.bool F.dead) rfl rfl HC8.out HF8.out oo1 oo2 rfl rfl rfl ?_)
  have T := TI0.out
  clear TI0 HC8 HF8 b0 b1 b2 b3 b4
  generalize set5 (w1.alloc (.cells #[.slice none 0 0, .slice none 0 0, .int .i64 0, .string ⟨#[]⟩, .bool false] 31)) w1.heap.size vp' vw' (.int .i64 F.fuse) (strC F.torn) (.bool F.dead) = W at *
  generalize w1.heap.size = g8 at *
  refine (mayBe_any F _ _ T.fl (by omega) (by omega)).mono ?_
  rintro e W2 ⟨rfl, hbT⟩
  replace T := T.grow hbT
  clear hbT
  rewrite [HM.out]
  obtain ⟨o0, o1, o2, o3, o4, c6⟩ := T.c6
  have HC6 := Kept.mk c6
  have HF6 := Kept.mk T.f6
  obtain ⟨hfl, hB5, hr5⟩ := ti_end T
  have HFL := Kept.mk hfl
  have HR5 := Kept.mk hr5
  have HB5 := Kept.mk hB5
  obtain ⟨_, k0, k1, k2, k3, k4⟩ := T.c8
  clear T c6 hfl hr5 hB5
  go_wp2_with (refine wpList_store5 rfl (.tmp 6) (.tmp 19) rfl (w.heap.size + 1) _ _ _ _ _ rfl rfl HC6.out HF6.out oo1 oo2 rfl rfl rfl ?_)
  exact bodyPost_ret (results2 rfl _ _ (w.heap.size + 1) _ _ _ _ _ (.int .i64 1) rfl rfl HR5.out) rfl ⟨_, rfl, HFL.out, HB5.out⟩

set_option maxRecDepth 100000 in
set_option maxHeartbeats 2000000 in
theorem wake_no2 (F : Fl) (fuse : Int) (torn : List UInt8) (v : Value) (w : World) (hv : isFl F v w) (h1 : F.pages.length * 16 ≤ 140737488355328) (h2 : F.wear.length * 8 ≤ 140737488355328) (hm : mayB F = true) (ht : 64 < (torn.length : Int)) :
    Calls Tryz.prog 25 #[v, .int .i64 fuse, .string ⟨torn.toArray⟩] w fun e w' => ∃ v', e = .returned (.tuple #[v', .int .i64 1]) ∧ isFlN w.heap.size F v' w' ∧ Below w.heap.size w w' := by
  have hsz : (⟨torn.toArray⟩ : ByteArray).size = torn.length := size_mk torn
  have HM := Kept.mk hm
  clear hm
  have ht' : decide (64 < (torn.length : Int)) = true := by simp; omega
  obtain ⟨vp, vw, rfl, hp, hq⟩ := hv
  have hb0 : Below w.heap.size w ((w.alloc (.cells #[vp, vw, .int .i64 F.fuse, strC F.torn, .bool F.dead] 31)).alloc (.cells #[.slice none 0 0, .slice none 0 0, .int .i64 0, .string ⟨#[]⟩, .bool false] 31)) := ((Below.refl _ _).alloc (Nat.le_refl _) _).alloc (by simp) _
  have HP := Kept.mk hp
  have HQ := Kept.mk hq
  have HB0 := Kept.mk hb0
  clear hp hq hb0
  go_enter Tryz.func25, Tryz.ntmps25
  go_wp2_with fail
  refine (copied_any F _ _ ⟨vp, vw, rfl, stable_cells _ _ _ _ HP.out HB0.out, stable_cells _ _ _ _ HQ.out HB0.out⟩ (by omega) (by omega)).mono ?_
  rintro e w1 ⟨vp', vw', rfl, ho1, ho2, hb1⟩
  have TI0 := Kept.mk (ti_start F w w1 vp vw vp' vw' HP.out HQ.out hb1 ho1 ho2)
  have HC8 := Kept.mk (cells5_new w1 31 (.slice none 0 0) (.slice none 0 0) (.int .i64 0) (.string ⟨#[]⟩) (.bool false))
  have HF8 := Kept.mk (free5_new w1 #[.slice none 0 0, .slice none 0 0, .int .i64 0, .string ⟨#[]⟩, .bool false] 31)
  have oo1 := (ho1.one).2
  have oo2 := (ho2.one).2
  clear ho1 ho2 hb1 HB0
  have b3 := TI0.out.c3
  obtain ⟨_, b0, b1, b2, b3, b4⟩ := b3
  go_wp2_with (refine wpList_store5 rfl (.tmp 8) (.tmp 10) rfl w1.heap.size vp' vw' (.int .i64 F.fuse) (strC F.torn) (.bool F.dead) rfl rfl HC8.out HF8.out oo1 oo2 rfl rfl rfl ?_)
  have T := TI0.out
  clear TI0 HC8 HF8 b0 b1 b2 b3 b4
  generalize set5 (w1.alloc (.cells #[.slice none 0 0, .slice none 0 0, .int .i64 0, .string ⟨#[]⟩, .bool false] 31)) w1.heap.size vp' vw' (.int .i64 F.fuse) (strC F.torn) (.bool F.dead) = W at *
  generalize w1.heap.size = g8 at *
  refine (mayBe_any F _ _ T.fl (by omega) (by omega)).mono ?_
  rintro e W2 ⟨rfl, hbT⟩
  replace T := T.grow hbT
  clear hbT
  rewrite [HM.out]
  obtain ⟨o0, o1, o2, o3, o4, c6⟩ := T.c6
  have HC6 := Kept.mk c6
  have HF6 := Kept.mk T.f6
  obtain ⟨hfl, hB5, hr5⟩ := ti_end T
  have HFL := Kept.mk hfl
  have HR5 := Kept.mk hr5
  have HB5 := Kept.mk hB5
  obtain ⟨_, k0, k1, k2, k3, k4⟩ := T.c8
  clear T c6 hfl hr5 hB5
  go_wp2_with (refine wpList_store5 rfl (.tmp 6) (.tmp 19) rfl (w.heap.size + 1) _ _ _ _ _ rfl rfl HC6.out HF6.out oo1 oo2 rfl rfl rfl ?_)
  exact bodyPost_ret (results2 rfl _ _ (w.heap.size + 1) _ _ _ _ _ (.int .i64 1) rfl rfl HR5.out) rfl ⟨_, rfl, HFL.out, HB5.out⟩

set_option maxRecDepth 100000 in
set_option maxHeartbeats 2000000 in
theorem wake_yes (F : Fl) (fuse : Int) (torn : List UInt8) (v : Value) (w : World) (hv : isFl F v w) (h1 : F.pages.length * 16 ≤ 140737488355328) (h2 : F.wear.length * 8 ≤ 140737488355328) (hm : mayB F = true) (ht : (torn.length : Int) ≤ 64) :
    Calls Tryz.prog 25 #[v, .int .i64 fuse, .string ⟨torn.toArray⟩] w fun e w' => ∃ v', e = .returned (.tuple #[v', .int .i64 0]) ∧ isFlN w.heap.size { F with fuse := fuse, torn := torn, dead := false } v' w' ∧ Below w.heap.size w w' := by
  have hsz : (⟨torn.toArray⟩ : ByteArray).size = torn.length := size_mk torn
  have HM := Kept.mk hm
  clear hm
  have ht' : decide (64 < (torn.length : Int)) = false := by simp; omega
  obtain ⟨vp, vw, rfl, hp, hq⟩ := hv
  have hb0 : Below w.heap.size w ((w.alloc (.cells #[vp, vw, .int .i64 F.fuse, strC F.torn, .bool F.dead] 31)).alloc (.cells #[.slice none 0 0, .slice none 0 0, .int .i64 0, .string ⟨#[]⟩, .bool false] 31)) := ((Below.refl _ _).alloc (Nat.le_refl _) _).alloc (by simp) _
  have HP := Kept.mk hp
  have HQ := Kept.mk hq
  have HB0 := Kept.mk hb0
  clear hp hq hb0
  go_enter Tryz.func25, Tryz.ntmps25
  go_wp2_with fail
  refine (copied_any F _ _ ⟨vp, vw, rfl, stable_cells _ _ _ _ HP.out HB0.out, stable_cells _ _ _ _ HQ.out HB0.out⟩ (by omega) (by omega)).mono ?_
  rintro e w1 ⟨vp', vw', rfl, ho1, ho2, hb1⟩
  have TI0 := Kept.mk (ti_start F w w1 vp vw vp' vw' HP.out HQ.out hb1 ho1 ho2)
  have HC8 := Kept.mk (cells5_new w1 31 (.slice none 0 0) (.slice none 0 0) (.int .i64 0) (.string ⟨#[]⟩) (.bool false))
  have HF8 := Kept.mk (free5_new w1 #[.slice none 0 0, .slice none 0 0, .int .i64 0, .string ⟨#[]⟩, .bool false] 31)
  have oo1 := (ho1.one).2
  have oo2 := (ho2.one).2
  clear ho1 ho2 hb1 HB0
  have b3 := TI0.out.c3
  obtain ⟨_, b0, b1, b2, b3, b4⟩ := b3
  go_wp2_with (refine wpList_store5 rfl (.tmp 8) (.tmp 10) rfl w1.heap.size vp' vw' (.int .i64 F.fuse) (strC F.torn) (.bool F.dead) rfl rfl HC8.out HF8.out oo1 oo2 rfl rfl rfl ?_)
  have T := TI0.out
  clear TI0 HC8 HF8 b0 b1 b2 b3 b4
  generalize set5 (w1.alloc (.cells #[.slice none 0 0, .slice none 0 0, .int .i64 0, .string ⟨#[]⟩, .bool false] 31)) w1.heap.size vp' vw' (.int .i64 F.fuse) (strC F.torn) (.bool F.dead) = W at *
  generalize w1.heap.size = g8 at *
  refine (mayBe_any F _ _ T.fl (by omega) (by omega)).mono ?_
  rintro e W2 ⟨rfl, hbT⟩
  replace T := T.grow hbT
  clear hbT
  rewrite [HM.out]
  have x2 := T.c8.2.2.2.1
  have y2 := T.f8 2
  replace T := T.burn fuse
  have x3 := T.c8.2.2.2.2.1
  have y3 := T.f8 3
  replace T := T.tear torn
  change TI w ((W2.setCell ⟨g8, 2, none⟩ (.int .i64 fuse)).setCell ⟨g8, 3, none⟩ (.string ⟨torn.toArray⟩)) _ _ _ _ _ _ _ _ _ _ _ at T
  have x4 := T.c8.2.2.2.2.2
  have y4 := T.f8 4
  replace T := T.die false
  obtain ⟨o0, o1, o2, o3, o4, c6⟩ := T.c6
  have HC6 := Kept.mk c6
  have HF6 := Kept.mk T.f6
  obtain ⟨hfl, hB5, hr5⟩ := ti_end T
  have HFL := Kept.mk hfl
  have HR5 := Kept.mk hr5
  have HB5 := Kept.mk hB5
  obtain ⟨_, k0, k1, k2, k3, k4⟩ := T.c8
  clear T c6 hfl hr5 hB5
  go_wp2_with (refine wpList_store5 rfl (.tmp 6) (.tmp 25) rfl (w.heap.size + 1) _ _ _ _ _ rfl rfl HC6.out HF6.out oo1 oo2 rfl rfl rfl ?_)
  exact bodyPost_ret (results2 rfl _ _ (w.heap.size + 1) _ _ _ _ _ (.int .i64 0) rfl rfl HR5.out) rfl ⟨_, rfl, HFL.out, HB5.out⟩

theorem wake_any (F : Fl) (fuse : Int) (torn : List UInt8) (v : Value) (w : World) (hv : isFl F v w) (h1 : F.pages.length * 16 ≤ 140737488355328) (h2 : F.wear.length * 8 ≤ 140737488355328) :
    Calls Tryz.prog 25 #[v, .int .i64 fuse, .string ⟨torn.toArray⟩] w fun e w' => ∃ v', e = .returned (.tuple #[v', .int .i64 (wakeE F torn)]) ∧ isFlN w.heap.size (wakeF F fuse torn) v' w' ∧ Below w.heap.size w w' := by
  cases hm : mayB F with
  | false =>
    rw [show wakeE F torn = 1 by simp [wakeE, wakeB, hm], show wakeF F fuse torn = F by simp [wakeF, wakeB, hm]]
    exact wake_no1 F fuse torn v w hv h1 h2 hm
  | true =>
    by_cases ht : (torn.length : Int) ≤ 64
    · have hb : wakeB F torn = true := by unfold wakeB; rw [hm, decide_eq_true ht]; rfl
      rw [show wakeE F torn = 0 by simp [wakeE, hb], show wakeF F fuse torn = { F with fuse := fuse, torn := torn, dead := false } by simp [wakeF, hb]]
      exact wake_yes F fuse torn v w hv h1 h2 hm ht
    · have hb : wakeB F torn = false := by unfold wakeB; rw [hm, decide_eq_false ht]; rfl
      rw [show wakeE F torn = 1 by simp [wakeE, hb], show wakeF F fuse torn = F by simp [wakeF, hb]]
      exact wake_no2 F fuse torn v w hv h1 h2 hm (by omega)
end Go.Proofs.YtipiioggdalkoaaGreatDoor
end
section
namespace Go.Proofs.YtipiioggdalkoaaGreatDoor
open Go.RowKit
set_option linter.unusedVariables false
set_option linter.unusedSimpArgs false

/-- One row may turn from cur to cur'. -/
structure Turn (g : Nat) (o o' : Obj) (w w' : World) : Prop where
  os : w'.os = w.os
  tape : w'.tape = w.tape
  output : w'.output = w.output
  size : w.heap.size ≤ w'.heap.size
  block : ∀ b, b < w.heap.size → b ≠ g → w'.heap[b]? = w.heap[b]?
  old : w.heap[g]? = some o → w'.heap[g]? = some o ∨ w'.heap[g]? = some o'
  new : w.heap[g]? = some o' → w'.heap[g]? = some o'
theorem turn_pre (g : Nat) (o o' : Obj) : Pre (Turn g o o') where
  refl w := ⟨rfl, rfl, rfl, Nat.le_refl _, fun _ _ _ => rfl, fun h => .inl h, fun h => h⟩
  trans a b c h1 h2 := ⟨h2.os.trans h1.os, h2.tape.trans h1.tape, h2.output.trans h1.output, Nat.le_trans h1.size h2.size, fun i hi hne => (h2.block i (Nat.lt_of_lt_of_le hi h1.size) hne).trans (h1.block i hi hne),
    fun h => by rcases h1.old h with h | h; exact h2.old h; exact .inr (h2.new h), fun h => h2.new (h1.new h)⟩
  grow w w' h := ⟨h.os, h.tape, h.output, h.size, fun b hb _ => h.block b hb, fun he => .inl ((h.block g (Array.getElem?_eq_some_iff.1 he).1).trans he), fun he => (h.block g (Array.getElem?_eq_some_iff.1 he).1).trans he⟩
  drew w := ⟨rfl, rfl, rfl, Nat.le_refl _, fun _ _ _ => rfl, fun h => .inl h, fun h => h⟩
def copied_ (g : Nat) (o' : Obj) (n : Int) : VP := fun v w => v = .int .i64 n ∧ w.heap[g]? = some o'
theorem stabR_copied (g : Nat) (o o' : Obj) (n : Int) : StableR (Turn g o o') (copied_ g o' n) := fun v w w' h hr => ⟨h.1, hr.new h.2⟩
/-- So many cells of a row are x; behind them what was there. -/
def repA (x : Value) (m : Nat) (cur : Array Value) : Array Value := (List.replicate m x ++ cur.toList.drop m).toArray
theorem repA_size (x : Value) (m : Nat) (cur : Array Value) (h : m ≤ cur.size) : (repA x m cur).size = cur.size := by simp [repA]; omega
theorem repA_twice (x : Value) (m k : Nat) (cur : Array Value) (h : m + k ≤ cur.size) : ((repA x m cur).toList.take m ++ List.replicate k x ++ (repA x m cur).toList.drop (m + k)).toArray = repA x (m + k) cur := by
  unfold repA
  congr 1
  simp only [List.take_append_of_le_length (l₁ := List.replicate m x) (by simp : m ≤ (List.replicate m x).length)]
  rw [List.take_of_length_le (by simp), List.drop_append, List.drop_of_length_le (by simp), List.nil_append, List.length_replicate, List.drop_drop, List.replicate_append_replicate]
  congr 2
  omega
noncomputable def repOps : Array Oper := regionOf Tryz.f60 9
section
variable {P : Program} {ops : Array Oper} {base : World} {a0 : Act} {Q : Exit → Act → World → Prop} {kn : Nat → VP} {i : Nat} {V : VP}
theorem step_part (t : TypeId) (x : Operand) (lo hi : Option Operand) (v : Value) (vl vh : Option Value) (r : Value) (hop : (ops[i]?).map (·.op) = some (.slice t x lo hi none)) (hw : Wanted ops a0 kn i) (hx : Knows ops a0 kn i x (isVal v))
    (hl : ∀ a w, FKept ops a0 a → FDeps ops kn i a w → lo.map a.eval = vl) (hh : ∀ a w, FKept ops a0 a → FDeps ops kn i a w → hi.map a.eval = vh) (hr : ∀ w, (Instr.sliceAt t v vl vh none).run P w = .ok r w) : FStep P ops base a0 Q kn i (isVal r) :=
  step_pure r hop hw fun o a w ho hk hd => by
    have e1 : a.eval x = v := hx a w hk hd
    have e2 := hl a w hk hd
    have e3 := hh a w hk hd
    unfold execOp
    rw [ho]
    simp only [e1, e2, e3, Sem.run_bind, Option.map_none, hr, Result.andThen_ok, Sem.run_pure]
end
theorem elem_strs : Tryz.prog.underlying 26 = some (.slice (Tryz.prog.elem 26)) := by kernel_rfl
theorem size_str (w : World) : (sizeOf (Tryz.prog.elem 26)).run Tryz.prog w = .ok 1 w := by
  have hs : (Tryz.prog.info? (Tryz.prog.elem 26)).map (·.size) = some 1 := by kernel_rfl
  obtain ⟨ie, hie, hz⟩ := Option.map_eq_some_iff.1 hs
  simp [sizeOf, typeInfo, hie, hz]
theorem part_rest (g n m : Nat) (h0 : 0 < m) (h : m < n) (w : World) : (Instr.sliceAt 26 (.slice (some ⟨g, 0, none⟩) n n) (some (.int .i64 (m : Int))) none none).run Tryz.prog w = .ok (.slice (some ⟨g, m, none⟩) (n - m) (n - m)) w := by
  rw [run_sliceAt_slice _ _ _ _ _ _ elem_strs, run_slice_l (ht := elem_strs) (h0 := by omega) (h1 := by omega), size_str]
  have hne : ¬ n = m := by omega
  have hm0 : ¬ m = 0 := by omega
  simp [sliced, Addr.add, hne, hm0]
theorem part_head (g n m : Nat) (h0 : 0 < m) (h : m < n) (w : World) : (Instr.sliceAt 26 (.slice (some ⟨g, 0, none⟩) n n) none (some (.int .i64 (m : Int))) none).run Tryz.prog w = .ok (.slice (some ⟨g, 0, none⟩) m n) w := by
  rw [run_sliceAt_slice _ _ _ _ _ _ elem_strs, run_slice_h (ht := elem_strs) (h0 := by omega) (h2 := by omega), size_str]
  simp [sliced, Addr.add]

section
variable {ops : Array Oper} {base : World} {a0 : Act} {Q : Exit → Act → World → Prop} {k0 : Nat} {kn : Nat → VP} {i : Nat}
theorem rstep_moveOld {R : World → World → Prop} {P : Program} (hR : Pre R) (t : Tmp) (v : Value) (hop : (ops[i]?).map (fun o => (o.op, o.guard)) = some (.move (.tmp t), none)) (hd : ((ops[i]?).bind (·.dst)).isSome = true) (hs : ((List.range k0).all fun j => (ops[j]?).all fun o => o.dst != some t) = true) (hv : a0.tmps.getD t undef = v) :
    RStep R P ops base a0 Q k0 kn i (isVal v) := by
  refine ⟨stabR_val _ _, fun o ho a w hk hb hdp => ?_⟩
  rw [ho] at hop hd
  simp only [Option.map_some, Option.some.injEq, Prod.mk.injEq] at hop
  have e : a.eval (.tmp t) = v := (hk.2.2 t hs).trans hv
  unfold wpOp
  simp only [ho]
  rw [show Region.wanted o (yielded ops a.tmps) = true by simp [Region.wanted, hop.2]]
  refine .inl ?_
  unfold Oper.wp execOp
  rw [hop.1]
  simp only [Sem.run_pure, Oper.upon, e]
  exact ⟨v, rfl, fun h => by simp [h] at hd, rfl, hR.refl _⟩
theorem tail_assign {P : Program} {a : Act} {w : World} {c : Nat} (x : Operand) (d : Tmp) (v : Value) (hop : (ops[i]?).map (fun o => (o.op, o.guard)) = some (.assign x, none)) (hd : (ops[i]?).bind (·.dst) = some d) (hx : a.eval x = v) (h : Tail P ops Q c (i + 1) (a.put (some d) v) w) : Tail P ops Q (c + 1) i a w :=
  tail_op (fun _ _ => True) hop fun o ho e => by
    rw [ho] at hd
    simp only [Option.bind_some] at hd
    unfold Oper.wp execOp
    rw [e]
    simp only [Sem.run_pure, Oper.upon, hx, hd]
    exact h
/-- copy of the head of a row behind it. -/
theorem rstep_copy (x y : Operand) (g n m c : Nat) (v : Value) (cur : Array Value) (hop : (ops[i]?).map (·.op) = some (.call { callee := .builtin .copy, args := #[x, y], argTypes := #[26, 26] })) (hw : Wanted ops a0 kn i)
    (hd : ((ops[i]?).bind (·.dst)).isSome = true) (hx : Knows ops a0 kn i x (isVal (.slice (some ⟨g, m, none⟩) (n - m) (n - m)))) (hy : Knows ops a0 kn i y (isVal (.slice (some ⟨g, 0, none⟩) m n)))
    (hc : c = min m (n - m)) (hn : cur.size = n) (hm : m < n) (hv : v.oneCell' = true) (h0 : ∀ w, Turn g (.cells (repA v m cur) 9 (0, 0)) (.cells (repA v (m + c) cur) 9 (0, 0)) base w → w.heap[g]? = some (.cells (repA v m cur) 9 (0, 0)) ∨ w.heap[g]? = some (.cells (repA v (m + c) cur) 9 (0, 0))) :
    RStep (Turn g (.cells (repA v m cur) 9 (0, 0)) (.cells (repA v (m + c) cur) 9 (0, 0))) Tryz.prog ops base a0 Q k0 kn i (copied_ g (.cells (repA v (m + c) cur) 9 (0, 0)) (c : Int)) := by
  refine ⟨stabR_copied _ _ _ _, fun o ho a w hk0 hb hdp => ?_⟩
  have hk := hk0.f
  have hfd : FDeps ops kn i a w := fun o' ho' e he hbd => rdone_f (hdp o' ho' e he hbd)
  have e1 : a.eval x = _ := hx a w hk hfd
  have e2 : a.eval y = _ := hy a w hk hfd
  have hwn := hw a w hk hfd o ho
  have hdn : o.dst ≠ none := by rw [ho] at hd; intro h; simp [h] at hd
  have hcm : m + c ≤ cur.size := by omega
  -- whichever the row is now, behind the copy it is the second one
  have key : ∀ q : Nat, m ≤ q → q ≤ cur.size → w.heap[g]? = some (.cells (repA v q cur) 9 (0, 0)) → ((repA v q cur).toList.take m ++ List.replicate c v ++ (repA v q cur).toList.drop (m + c)).toArray = repA v (m + c) cur →
      (Builtin.copy_ #[26, 26] o.type #[.slice (some ⟨g, m, none⟩) (n - m) (n - m), .slice (some ⟨g, 0, none⟩) m n]).run Tryz.prog w = .ok (.int .i64 (c : Int)) (w.setRow g (repA v (m + c) cur)) := by
    intro q hq1 hq2 hg he
    have hr := run_copy_row (P := Tryz.prog) w 26 26 o.type 9 g m (n - m) (n - m) ⟨g, 0, none⟩ m n (repA v q cur) 9 (List.replicate c v) Tryz.underlying26 (by kernel_rfl) hg (by rw [List.length_replicate]; exact hc)
      (fun j x hx => by
        have hj : j < c := by have := (List.getElem?_eq_some_iff.1 hx).1; simpa using this
        have hxv : x = v := by rw [List.getElem?_replicate, if_pos hj] at hx; injection hx with hx; exact hx.symm
        rw [hxv, show (⟨g, 0, none⟩ : Addr).add j = ⟨g, j, none⟩ by simp [Addr.add]; exact fun h => h.symm]
        simp only [World.cell?, hg]
        have : j < q := by omega
        simp [repA, List.getElem?_append_left, this])
      (by rw [List.length_replicate, repA_size v q cur hq2]; exact hcm) (fun x hx => by rw [List.eq_of_mem_replicate hx]; exact hv)
    rw [List.length_replicate, he] at hr
    exact hr
  have fin : ∀ o1 : Array Value, w.heap[g]? = some (.cells o1 9 (0, 0)) → Turn g (.cells (repA v m cur) 9 (0, 0)) (.cells (repA v (m + c) cur) 9 (0, 0)) w (w.setRow g (repA v (m + c) cur)) ∧ (w.setRow g (repA v (m + c) cur)).heap[g]? = some (.cells (repA v (m + c) cur) 9 (0, 0)) := by
    intro o1 hg
    have hnew : (w.setRow g (repA v (m + c) cur)).heap[g]? = some (.cells (repA v (m + c) cur) 9 (0, 0)) := setRow_heap w g o1 _ _ _ hg
    exact ⟨⟨rfl, rfl, rfl, by simp [World.setRow], fun b hb hne => setRow_other w g b _ hne, fun _ => .inr hnew, fun _ => hnew⟩, hnew⟩
  have run : ∃ o1 : Array Value, w.heap[g]? = some (.cells o1 9 (0, 0)) ∧ (Builtin.copy_ #[26, 26] o.type #[.slice (some ⟨g, m, none⟩) (n - m) (n - m), .slice (some ⟨g, 0, none⟩) m n]).run Tryz.prog w = .ok (.int .i64 (c : Int)) (w.setRow g (repA v (m + c) cur)) := by
    rcases h0 w hb with h | h
    · exact ⟨_, h, key m (Nat.le_refl _) (by omega) h (repA_twice v m c cur hcm)⟩
    · refine ⟨_, h, key (m + c) (by omega) hcm h ?_⟩
      have := repA_twice v m c cur hcm
      unfold repA at this ⊢
      simp only [List.take_append_of_le_length (l₁ := List.replicate (m + c) v) (by simp : m ≤ (List.replicate (m + c) v).length), List.take_replicate, Nat.min_eq_left (by omega : m ≤ m + c)] at this ⊢
      congr 1
      rw [List.drop_append, List.drop_of_length_le (by simp), List.nil_append, List.length_replicate, Nat.sub_self, List.drop_zero, List.replicate_append_replicate]
  obtain ⟨o1, hg, hrun⟩ := run
  obtain ⟨ht, hnew⟩ := fin o1 hg
  unfold wpOp
  simp only [ho, hwn, if_true]
  refine .inl ?_
  unfold Oper.wp execOp
  rw [op_of hop ho]
  simp only [resolve, Sem.run_bind, Sem.run_pure, Result.andThen_ok, invoke, builtin, List.map_toArray, List.map_cons, List.map_nil, e1, e2, hrun, Oper.upon]
  exact ⟨_, rfl, fun h => absurd h hdn, ⟨rfl, hnew⟩, ht⟩
end
theorem add_nat (m c : Nat) (h : m + c ≤ 1000000) (w : World) : (binOp .add 3 (.int .i64 (m : Int)) (.int .i64 (c : Int))).run Tryz.prog w = .ok (.int .i64 ((m + c : Nat) : Int)) w := by
  simp [go_sem]
  rw [IntKind.wrap_i64]
  omega
set_option maxRecDepth 100000 in
set_option maxHeartbeats 2000000 in
theorem rep_region (Q : Exit → Act → World → Prop) (a0 : Act) (w0 : World) (hsz : a0.tmps.size = 48) (g n m c : Nat) (v : Value) (cur : Array Value)
    (e7 : a0.tmps.getD 7 undef = .slice (some ⟨g, 0, none⟩) n n) (e8 : a0.tmps.getD 8 undef = .int .i64 (m : Int)) (h0 : 0 < m) (hm : m < n) (hn : cur.size = n) (hn1 : n ≤ 1000) (hc : c = min m (n - m)) (hv : v.oneCell' = true)
    (hg : w0.heap[g]? = some (.cells (repA v m cur) 9 (0, 0)))
    (hQ : ∀ (a : Act) (w : World), a.defers = a0.defers → a.tmps.size = a0.tmps.size → (∀ t, (repOps.toList.all fun o => o.dst != some t) = true → a.tmps.getD t undef = a0.tmps.getD t undef) → a.tmps.getD 8 undef = .int .i64 ((m + c : Nat) : Int) →
      w.heap[g]? = some (.cells (repA v (m + c) cur) 9 (0, 0)) → Turn g (.cells (repA v m cur) 9 (0, 0)) (.cells (repA v (m + c) cur) 9 (0, 0)) w0 w → Q .normal a w) :
    (Code.region 9 repOps true).wp Tryz.prog Q a0 w0 := by
  have hR := turn_pre g (.cells (repA v m cur) 9 (0, 0)) (.cells (repA v (m + c) cur) 9 (0, 0))
  refine wp_region_rel hR 9 mixed (by rw [hsz]; kernel_rfl) (by kernel_rfl) ?_
  rw [show repOps.size - 9 = 1 by kernel_rfl]
  refine ⟨isVal (.int .i64 (m : Int)), rstep_moveOld hR 8 (.int .i64 (m : Int)) (by kernel_rfl) (by kernel_rfl) (by kernel_rfl) e8, ?_⟩
  refine ⟨isVal (.slice (some ⟨g, 0, none⟩) n n), rstep_moveOld hR 7 (.slice (some ⟨g, 0, none⟩) n n) (by kernel_rfl) (by kernel_rfl) (by kernel_rfl) e7, ?_⟩
  refine ⟨isVal (.int .i64 (m : Int)), rstep_moveOld hR 8 (.int .i64 (m : Int)) (by kernel_rfl) (by kernel_rfl) (by kernel_rfl) e8, ?_⟩
  refine ⟨isVal (.slice (some ⟨g, m, none⟩) (n - m) (n - m)), RStep.of hR (stabR_val _ _) (by kernel_rfl) (fun w hw => step_part 26 (.tmp 39) (some (.tmp 40)) none (.slice (some ⟨g, 0, none⟩) n n) (some (.int .i64 (m : Int))) none (.slice (some ⟨g, m, none⟩) (n - m) (n - m)) (by kernel_rfl) (wanted_none (by kernel_rfl)) (knows_new (V := isVal (.slice (some ⟨g, 0, none⟩) n n)) 39 1 (by kernel_rfl) (by kernel_rfl) (by kernel_rfl)) (fun a w hk hd => congrArg some ((knows_new (V := isVal (.int .i64 (m : Int))) 40 2 (by kernel_rfl) (by kernel_rfl) (by kernel_rfl)) a w hk hd)) (fun _ _ _ _ => rfl) (part_rest g n m h0 hm)), ?_⟩
  refine ⟨isVal (.slice (some ⟨g, 0, none⟩) n n), rstep_moveOld hR 7 (.slice (some ⟨g, 0, none⟩) n n) (by kernel_rfl) (by kernel_rfl) (by kernel_rfl) e7, ?_⟩
  refine ⟨isVal (.int .i64 (m : Int)), rstep_moveOld hR 8 (.int .i64 (m : Int)) (by kernel_rfl) (by kernel_rfl) (by kernel_rfl) e8, ?_⟩
  refine ⟨isVal (.slice (some ⟨g, 0, none⟩) m n), RStep.of hR (stabR_val _ _) (by kernel_rfl) (fun w hw => step_part 26 (.tmp 42) none (some (.tmp 43)) (.slice (some ⟨g, 0, none⟩) n n) none (some (.int .i64 (m : Int))) (.slice (some ⟨g, 0, none⟩) m n) (by kernel_rfl) (wanted_none (by kernel_rfl)) (knows_new (V := isVal (.slice (some ⟨g, 0, none⟩) n n)) 42 4 (by kernel_rfl) (by kernel_rfl) (by kernel_rfl)) (fun _ _ _ _ => rfl) (fun a w hk hd => congrArg some ((knows_new (V := isVal (.int .i64 (m : Int))) 43 5 (by kernel_rfl) (by kernel_rfl) (by kernel_rfl)) a w hk hd)) (part_head g n m h0 hm)), ?_⟩
  refine ⟨copied_ g (.cells (repA v (m + c) cur) 9 (0, 0)) (c : Int), rstep_copy (.tmp 41) (.tmp 44) g n m c v cur (by kernel_rfl) (wanted_none (by kernel_rfl)) (by kernel_rfl) (knows_new (V := isVal (.slice (some ⟨g, m, none⟩) (n - m) (n - m))) 41 3 (by kernel_rfl) (by kernel_rfl) (by kernel_rfl)) (knows_new (V := isVal (.slice (some ⟨g, 0, none⟩) m n)) 44 6 (by kernel_rfl) (by kernel_rfl) (by kernel_rfl)) hc hn hm hv (fun w hw => hw.old hg), ?_⟩
  refine ⟨isVal (.int .i64 ((m + c : Nat) : Int)), RStep.of hR (stabR_val _ _) (by kernel_rfl) (fun w hw => step_bin .add 3 3 (.tmp 38) (.tmp 45) (.int .i64 (m : Int)) (.int .i64 (c : Int)) (.int .i64 ((m + c : Nat) : Int)) (by kernel_rfl) (wanted_none (by kernel_rfl)) (knows_new (V := isVal (.int .i64 (m : Int))) 38 0 (by kernel_rfl) (by kernel_rfl) (by kernel_rfl)) (fun a w hk hd => ((knows_new (V := copied_ g (.cells (repA v (m + c) cur) 9 (0, 0)) (c : Int)) 45 7 (by kernel_rfl) (by kernel_rfl) (by kernel_rfl)) a w hk hd).1) (fun _ => rfl) (add_nat m c (by omega))), ?_⟩
  intro a w hk0 hw hd
  have hk := hk0.f
  have d7 := rdone_of (hd 7 (by decide)) (t := 45) (V := copied_ g (.cells (repA v (m + c) cur) 9 (0, 0)) (c : Int)) (by kernel_rfl) (by kernel_rfl)
  have d46 := rdone_of (hd 8 (by decide)) (t := 46) (V := isVal (.int .i64 ((m + c : Nat) : Int))) (by kernel_rfl) (by kernel_rfl)
  have hs8 : 8 < a.tmps.size := by rw [hk.2.1, hsz]; decide
  refine tail_assign (.tmp 46) 8 _ (by kernel_rfl) (by kernel_rfl) d46 ?_
  refine hQ _ w ((defers_put (a := a)).trans hk.1) ((size_put (a := a)).trans hk.2.1) (fun t ht => ?_) (getD_put_self hs8) d7.2 hw
  have hall : (repOps.toList.all fun o => o.dst != some 8) = false := by kernel_rfl
  rw [getD_put (fun e => by rw [e, hall] at ht; cases ht)]
  exact hk.2.2 t ht
end Go.Proofs.YtipiioggdalkoaaGreatDoor
end
section
namespace Go.Proofs
open Go.Shelf
def Tryz.lays212_ren : Go.Shelf.Ren := ⟨fun | 212 => 84 | 263 => 100 | 264 => 101 | n => n, fun | 46 => 90 | 51 => 101 | 146 => 102 | 53 => 104 | 148 => 105 | n => n, fun | n => n⟩
theorem Tryz.lays212 : Go.Proofs.Lays.n212 Tryz.prog Tryz.lays212_ren := {
  mixed := by kernel_rfl
  f212 := Tryz.func84.trans (congrArg some (by kernel_rfl))
  f263 := Tryz.func100.trans (congrArg some (by kernel_rfl))
  f264 := Tryz.func101.trans (congrArg some (by kernel_rfl))
  t46 := Tryz.underlying90
  a46 := Tryz.isAgg90
  z46 := Tryz.sizeOf90
  v46 := Tryz.zeroValue90
  t51 := Tryz.underlying101
  a51 := Tryz.isAgg101
  z51 := Tryz.sizeOf101
  v51 := Tryz.zeroValue101
  t53 := Tryz.underlying104
  a53 := Tryz.isAgg104
  z53 := Tryz.sizeOf104
  v53 := Tryz.zeroValue104
  t146 := Tryz.underlying102
  a146 := Tryz.isAgg102
  z146 := Tryz.sizeOf102
  v146 := Tryz.zeroValue102
  t148 := Tryz.underlying105
  a148 := Tryz.isAgg105
  z148 := Tryz.sizeOf105
  v148 := Tryz.zeroValue105 }
open Go.RowKit Go.Lib in
theorem Tryz.bits_Mul (x y : Nat) (hx : x < 18446744073709551616) (hy : y < 18446744073709551616) (w : World) :
    Calls Tryz.prog 84 #[.int .u64 x, .int .u64 y] w fun e w' => e = .returned (.tuple #[.int .u64 ((x * y / 18446744073709551616 : Nat) : Int), .int .u64 ((x * y % 18446744073709551616 : Nat) : Int)]) ∧ w' = w := Any.bits_Mul Tryz.lays212 x y hx hy w
end Go.Proofs
end
section
namespace Go.Proofs.YtipiioggdalkoaaGreatDoor
open Go.RowKit
set_option linter.unusedVariables false
set_option linter.unusedSimpArgs false

theorem Tryz.infoStr : (Tryz.prog.info? 9).map (fun i => (i.zero, i.size, i.bytes)) = some (some (.string ⟨#[]⟩), 1, 16) := by kernel_rfl
set_option maxRecDepth 100000 in
set_option maxHeartbeats 2000000 in
theorem repeat_any (x : List UInt8) (n g : Nat) (w : World) (h1 : 1 ≤ n) (h6 : n ≤ 6) (hg : g < w.heap.size) (hc : w.cell? ⟨g, 0, none⟩ = some (strC x)) :
    Calls Tryz.prog 60 #[.slice (some ⟨g, 0, none⟩) 1 1, .int .i64 (n : Int)] w fun e w' => ∃ v', e = .returned v' ∧ isBtw w.heap.size w'.heap.size 9 (List.replicate n (strC x)) v' w' ∧ Below w.heap.size w w' := by
  have hmk := fun W => run_make_row' (P := Tryz.prog) 26 9 (.string ⟨#[]⟩) 16 Tryz.underlying26 Tryz.infoStr rfl .i64 .i64 n (by omega) (by omega) W
  obtain ⟨cur, hcur⟩ : ∃ cur, cur = madeCells #[Value.string ⟨#[]⟩] n := ⟨_, rfl⟩
  have hcs : cur.size = n := by rw [hcur]; simp [size_madeCells]
  rw [← hcur] at hmk
  have HCUR := Kept.mk hcur
  have hcp : ∀ ty, (Builtin.copy_ #[26, 26] ty #[.slice (some ⟨w.heap.size, 0, none⟩) n n, .slice (some ⟨g, 0, none⟩) 1 1]).run Tryz.prog (w.alloc (.cells cur 9)) = .ok (.int .i64 1) ((w.alloc (.cells cur 9)).setRow w.heap.size (repA (strC x) 1 cur)) := by
    intro ty
    have hr := run_copy_row (P := Tryz.prog) (w.alloc (.cells cur 9)) 26 26 ty 9 w.heap.size 0 n n ⟨g, 0, none⟩ 1 1 cur 9 [strC x] Tryz.underlying26 (by kernel_rfl)
      (by show (w.heap.push _)[w.heap.size]? = _; simp) (by show 1 = min 1 n; omega)
      (fun j y hy => by
        have hj : j = 0 := by have := (List.getElem?_eq_some_iff.1 hy).1; simp at this; exact this
        subst hj
        injection hy with hy
        rw [← hy, show (⟨g, 0, none⟩ : Addr).add 0 = ⟨g, 0, none⟩ by simp [Addr.add]]
        exact (((Below.refl w.heap.size w).alloc (Nat.le_refl _) _).cell (p := ⟨g, 0, none⟩) hg).trans hc)
      (by show 0 + 1 ≤ cur.size; omega) (fun y hy => by rw [List.mem_singleton.1 hy]; rfl)
    exact hr
  have hW0 : Below w.heap.size w ((w.alloc (.cells cur 9)).setRow w.heap.size (repA (strC x) 1 cur)) := below_setRow ((Below.refl _ _).alloc (Nat.le_refl _) _) (Nat.le_refl _) _
  have hG0 : ((w.alloc (.cells cur 9)).setRow w.heap.size (repA (strC x) 1 cur)).heap[w.heap.size]? = some (.cells (repA (strC x) 1 cur) 9 (0, 0)) := setRow_heap _ _ cur _ _ _ (by show (w.heap.push _)[w.heap.size]? = _; simp)
  have HW0 := Kept.mk hW0
  have HG0 := Kept.mk hG0
  have HC := Kept.mk hc
  have hd1 : decide ((n : Int) < 0) = false := by simp
  clear hcur hW0 hG0 hc
  go_enter Tryz.func60, Tryz.ntmps60
  go_wp2_with fail
  refine (Tryz.bits_Mul 1 n (by omega) (by omega) _).mono ?_
  rintro e w1 ⟨rfl, rfl⟩
  rewrite [show 1 * n / 18446744073709551616 = 0 by rw [Nat.one_mul]; exact Nat.div_eq_of_lt (by omega), show 1 * n % 18446744073709551616 = n by rw [Nat.one_mul]; exact Nat.mod_eq_of_lt (by omega)]
  go_wp2
  clear hmk hcp
  generalize (w1.alloc (.cells cur 9)).setRow w1.heap.size (repA (strC x) 1 cur) = W0 at *
  go_loopw [8] (fun i wr => ∃ m : Nat, 1 ≤ m ∧ m ≤ n ∧ i = .int .i64 (m : Int) ∧ Kept (wr.heap[w1.heap.size]? = some (.cells (repA (strC x) m cur) 9 (0, 0))) ∧ Kept (Below w1.heap.size w1 wr)) (fun i _ => n - (intOf i).toNat)
  case atStart => exact ⟨1, by omega, h1, rfl, HG0, HW0⟩
  case round =>
    obtain ⟨m, hm1, hmn, rfl, hrow, hbel⟩ := hrel
    by_cases hlt : m < n
    · go_wp2_with fail
      refine rep_region _ _ _ rfl w1.heap.size n m (min m (n - m)) (strC x) cur rfl rfl (by omega) hlt hcs (by omega) rfl rfl hrow.out ?_
      intro act W2 hdf hsz hkeep hn8 hrow' hturn
      have hk0 : act.tmps.getD 0 undef = (.slice (some ⟨g, 0, none⟩) 1 1) := hkeep 0 (by kernel_rfl)
      have hk1 : act.tmps.getD 1 undef = (.int .i64 (n : Int)) := hkeep 1 (by kernel_rfl)
      have hk2 : act.tmps.getD 2 undef = undef := hkeep 2 (by kernel_rfl)
      have hk3 : act.tmps.getD 3 undef = undef := hkeep 3 (by kernel_rfl)
      have hk4 : act.tmps.getD 4 undef = (.slice none 0 0) := hkeep 4 (by kernel_rfl)
      have hk5 : act.tmps.getD 5 undef = (.int .u64 0) := hkeep 5 (by kernel_rfl)
      have hk6 : act.tmps.getD 6 undef = (.int .u64 (n : Int)) := hkeep 6 (by kernel_rfl)
      have hk7 : act.tmps.getD 7 undef = (.slice (some ⟨w1.heap.size, 0, none⟩) n n) := hkeep 7 (by kernel_rfl)
      have hk9 : act.tmps.getD 9 undef = (.int .i64 (n : Int)) := hkeep 9 (by kernel_rfl)
      have hk10 : act.tmps.getD 10 undef = (.bool false) := hkeep 10 (by kernel_rfl)
      have hk11 : act.tmps.getD 11 undef = undef := hkeep 11 (by kernel_rfl)
      have hk12 : act.tmps.getD 12 undef = (.tuple #[.int .u64 0, .int .u64 (n : Int)]) := hkeep 12 (by kernel_rfl)
      have hk13 : act.tmps.getD 13 undef = (.slice (some ⟨g, 0, none⟩) 1 1) := hkeep 13 (by kernel_rfl)
      have hk14 : act.tmps.getD 14 undef = (.int .i64 1) := hkeep 14 (by kernel_rfl)
      have hk15 : act.tmps.getD 15 undef = (.int .u64 1) := hkeep 15 (by kernel_rfl)
      have hk16 : act.tmps.getD 16 undef = (.int .i64 (n : Int)) := hkeep 16 (by kernel_rfl)
      have hk17 : act.tmps.getD 17 undef = (.int .u64 (n : Int)) := hkeep 17 (by kernel_rfl)
      have hk18 : act.tmps.getD 18 undef = (.tuple #[.int .u64 0, .int .u64 (n : Int)]) := hkeep 18 (by kernel_rfl)
      have hk19 : act.tmps.getD 19 undef = (.int .u64 0) := hkeep 19 (by kernel_rfl)
      have hk20 : act.tmps.getD 20 undef = (.int .u64 (n : Int)) := hkeep 20 (by kernel_rfl)
      have hk21 : act.tmps.getD 21 undef = (.int .u64 0) := hkeep 21 (by kernel_rfl)
      have hk22 : act.tmps.getD 22 undef = (.bool false) := hkeep 22 (by kernel_rfl)
      have hk23 : act.tmps.getD 23 undef = (.bool false) := hkeep 23 (by kernel_rfl)
      have hk24 : act.tmps.getD 24 undef = (.int .u64 (n : Int)) := hkeep 24 (by kernel_rfl)
      have hk25 : act.tmps.getD 25 undef = (.bool (decide (9223372036854775807 < (n : Int)))) := hkeep 25 (by kernel_rfl)
      have hk26 : act.tmps.getD 26 undef = (.bool (decide (9223372036854775807 < (n : Int)))) := hkeep 26 (by kernel_rfl)
      have hk27 : act.tmps.getD 27 undef = undef := hkeep 27 (by kernel_rfl)
      have hk28 : act.tmps.getD 28 undef = (.int .u64 (n : Int)) := hkeep 28 (by kernel_rfl)
      have hk29 : act.tmps.getD 29 undef = (.int .i64 (n : Int)) := hkeep 29 (by kernel_rfl)
      have hk30 : act.tmps.getD 30 undef = (.slice (some ⟨w1.heap.size, 0, none⟩) n n) := hkeep 30 (by kernel_rfl)
      have hk31 : act.tmps.getD 31 undef = (.slice (some ⟨w1.heap.size, 0, none⟩) n n) := hkeep 31 (by kernel_rfl)
      have hk32 : act.tmps.getD 32 undef = (.slice (some ⟨g, 0, none⟩) 1 1) := hkeep 32 (by kernel_rfl)
      have hk33 : act.tmps.getD 33 undef = (.int .i64 1) := hkeep 33 (by kernel_rfl)
      have hk47 : act.tmps.getD 47 undef = undef := hkeep 47 (by kernel_rfl)
      obtain ⟨tm, df⟩ := act
      obtain rfl : df = [] := hdf
      clear hkeep
      obtain ⟨f, rfl, hn8, hk0, hk1, hk2, hk3, hk4, hk5, hk6, hk7, hk9, hk10, hk11, hk12, hk13, hk14, hk15, hk16, hk17, hk18, hk19, hk20, hk21, hk22, hk23, hk24, hk25, hk26, hk27, hk28, hk29, hk30, hk31, hk32, hk33, hk47⟩ : ∃ f : Nat → Value, tm = ((List.range 48).map f).toArray ∧ f 8 = .int .i64 ((m + min m (n - m) : Nat) : Int) ∧ f 0 = (.slice (some ⟨g, 0, none⟩) 1 1) ∧ f 1 = (.int .i64 (n : Int)) ∧ f 2 = undef ∧ f 3 = undef ∧ f 4 = (.slice none 0 0) ∧ f 5 = (.int .u64 0) ∧ f 6 = (.int .u64 (n : Int)) ∧ f 7 = (.slice (some ⟨w1.heap.size, 0, none⟩) n n) ∧ f 9 = (.int .i64 (n : Int)) ∧ f 10 = (.bool false) ∧ f 11 = undef ∧ f 12 = (.tuple #[.int .u64 0, .int .u64 (n : Int)]) ∧ f 13 = (.slice (some ⟨g, 0, none⟩) 1 1) ∧ f 14 = (.int .i64 1) ∧ f 15 = (.int .u64 1) ∧ f 16 = (.int .i64 (n : Int)) ∧ f 17 = (.int .u64 (n : Int)) ∧ f 18 = (.tuple #[.int .u64 0, .int .u64 (n : Int)]) ∧ f 19 = (.int .u64 0) ∧ f 20 = (.int .u64 (n : Int)) ∧ f 21 = (.int .u64 0) ∧ f 22 = (.bool false) ∧ f 23 = (.bool false) ∧ f 24 = (.int .u64 (n : Int)) ∧ f 25 = (.bool (decide (9223372036854775807 < (n : Int)))) ∧ f 26 = (.bool (decide (9223372036854775807 < (n : Int)))) ∧ f 27 = undef ∧ f 28 = (.int .u64 (n : Int)) ∧ f 29 = (.int .i64 (n : Int)) ∧ f 30 = (.slice (some ⟨w1.heap.size, 0, none⟩) n n) ∧ f 31 = (.slice (some ⟨w1.heap.size, 0, none⟩) n n) ∧ f 32 = (.slice (some ⟨g, 0, none⟩) 1 1) ∧ f 33 = (.int .i64 1) ∧ f 47 = undef := ⟨fun i => tm.getD i undef, arr_eta tm hsz, hn8, hk0, hk1, hk2, hk3, hk4, hk5, hk6, hk7, hk9, hk10, hk11, hk12, hk13, hk14, hk15, hk16, hk17, hk18, hk19, hk20, hk21, hk22, hk23, hk24, hk25, hk26, hk27, hk28, hk29, hk30, hk31, hk32, hk33, hk47⟩
      rewrite [show ((List.range 48).map f).toArray = #[f 0, f 1, f 2, f 3, f 4, f 5, f 6, f 7, f 8, f 9, f 10, f 11, f 12, f 13, f 14, f 15, f 16, f 17, f 18, f 19, f 20, f 21, f 22, f 23, f 24, f 25, f 26, f 27, f 28, f 29, f 30, f 31, f 32, f 33, f 34, f 35, f 36, f 37, f 38, f 39, f 40, f 41, f 42, f 43, f 44, f 45, f 46, f 47] from rfl]
      rewrite [hn8, hk0, hk1, hk2, hk3, hk4, hk5, hk6, hk7, hk9, hk10, hk11, hk12, hk13, hk14, hk15, hk16, hk17, hk18, hk19, hk20, hk21, hk22, hk23, hk24, hk25, hk26, hk27, hk28, hk29, hk30, hk31, hk32, hk33, hk47]
      dsimp only
      clear hsz hn8 hk0 hk1 hk2 hk3 hk4 hk5 hk6 hk7 hk9 hk10 hk11 hk12 hk13 hk14 hk15 hk16 hk17 hk18 hk19 hk20 hk21 hk22 hk23 hk24 hk25 hk26 hk27 hk28 hk29 hk30 hk31 hk32 hk33 hk47
      have HB2 : Kept (Below w1.heap.size w1 W2) := ⟨{
        os := hturn.os.trans hbel.out.os
        tape := hturn.tape.trans hbel.out.tape
        output := hturn.output.trans hbel.out.output
        size := Nat.le_trans hbel.out.size hturn.size
        block := fun b hb => (hturn.block b (Nat.lt_of_lt_of_le hb hbel.out.size) (by omega)).trans (hbel.out.block b hb) }⟩
      have HR2 := Kept.mk hrow'
      clear hrow' hturn hrow hbel
      obtain ⟨q, hq⟩ : ∃ q, q = m + min m (n - m) := ⟨_, rfl⟩
      rewrite [← hq]
      rw [← hq] at HR2
      have hq1 : m < q := by omega
      have hq2 : q ≤ n := by omega
      clear hq
      go_wp2_with fail
      go_roundw
      case rel => exact ⟨q, by omega, hq2, rfl, HR2, HB2⟩
      case measure => simp [intOf]; omega
    · obtain rfl : m = n := by omega
      go_wp2
      go_ret
      exact ⟨_, rfl, .inr ⟨w1.heap.size, m, repA (strC x) m cur, by rw [List.length_replicate]; rfl, Nat.le_refl _, (Array.getElem?_eq_some_iff.1 hrow.out).1, hrow.out, by rw [List.length_replicate]; exact Nat.le_refl _, by rw [repA_size _ _ _ (by omega)]; exact hcs, by rw [List.length_replicate]; simp [repA]⟩, hbel.out⟩
end Go.Proofs.YtipiioggdalkoaaGreatDoor
end
section
namespace Go.Proofs.YtipiioggdalkoaaGreatDoor
open Go.RowKit
set_option linter.unusedVariables false
set_option linter.unusedSimpArgs false
attribute [local irreducible] set5

def newB (n m : Int) : Bool := decide (1 ≤ n) && decide (n ≤ 6) && (decide (1 ≤ m) && decide (m ≤ 8192))
def newF (n m : Int) : Fl := if newB n m = true then ⟨List.replicate n.toNat (List.replicate m.toNat 255), List.replicate n.toNat 0, -1, [], false⟩ else ⟨[], [], 0, [], false⟩
def newE (n m : Int) : Int := if newB n m = true then 0 else 1
theorem Tryz.infoInt : (Tryz.prog.info? 3).map (fun i => (i.zero, i.size, i.bytes)) = some (some (.int .i64 0), 1, 8) := by kernel_rfl
set_option maxRecDepth 100000 in
set_option maxHeartbeats 2000000 in
theorem new_no1 (n m : Int) (w : World) (h : (decide (1 ≤ n) && decide (n ≤ 6)) = false) :
    Calls Tryz.prog 31 #[.int .i64 n, .int .i64 m] w fun e w' => ∃ v', e = .returned (.tuple #[v', .int .i64 1]) ∧ isFlN w.heap.size ⟨[], [], 0, [], false⟩ v' w' ∧ Below w.heap.size w w' := by
  have HH := Kept.mk h
  clear h
  have hb0 : Below w.heap.size w (w.alloc (.cells #[.slice none 0 0, .slice none 0 0, .int .i64 0, .string ⟨#[]⟩, .bool false] 31)) := (Below.refl _ _).alloc (Nat.le_refl _) _
  have hc := cells5_new w 31 (.slice none 0 0) (.slice none 0 0) (.int .i64 0) (.string ⟨#[]⟩) (.bool false)
  have HC := Kept.mk hc
  have HF := Kept.mk (free5_new w #[.slice none 0 0, .slice none 0 0, .int .i64 0, .string ⟨#[]⟩, .bool false] 31)
  have HR := Kept.mk (hc.set5_ (.slice none 0 0) (.slice none 0 0) (.int .i64 0) (.string ⟨#[]⟩) (.bool false))
  have HB := Kept.mk (below_set5 hb0 (Nat.le_refl _) (.slice none 0 0) (.slice none 0 0) (.int .i64 0) (.string ⟨#[]⟩) (.bool false))
  clear hb0 hc
  go_enter Tryz.func31, Tryz.ntmps31
  go_wp2_with fail
  refine (isPages_any n _).mono ?_
  rintro e w1 ⟨rfl, rfl⟩
  rewrite [HH.out]
  go_wp2_with (refine wpList_store5 rfl (.tmp 4) (.tmp 15) rfl w.heap.size (.slice none 0 0) (.slice none 0 0) (.int .i64 0) (.string ⟨#[]⟩) (.bool false) rfl rfl HC.out HF.out rfl rfl rfl rfl rfl ?_)
  exact bodyPost_ret (results2 rfl _ _ w.heap.size _ _ _ _ _ (.int .i64 1) rfl rfl HR.out) rfl ⟨_, rfl, ⟨_, _, rfl, .inl ⟨rfl, rfl⟩, .inl ⟨rfl, rfl⟩⟩, HB.out⟩
set_option maxRecDepth 100000 in
set_option maxHeartbeats 2000000 in
theorem new_no2 (n m : Int) (w : World) (h : (decide (1 ≤ n) && decide (n ≤ 6)) = true) (h2 : (decide (1 ≤ m) && decide (m ≤ 8192)) = false) :
    Calls Tryz.prog 31 #[.int .i64 n, .int .i64 m] w fun e w' => ∃ v', e = .returned (.tuple #[v', .int .i64 1]) ∧ isFlN w.heap.size ⟨[], [], 0, [], false⟩ v' w' ∧ Below w.heap.size w w' := by
  have HH := Kept.mk h
  have HH2 := Kept.mk h2
  clear h h2
  have hb0 : Below w.heap.size w (w.alloc (.cells #[.slice none 0 0, .slice none 0 0, .int .i64 0, .string ⟨#[]⟩, .bool false] 31)) := (Below.refl _ _).alloc (Nat.le_refl _) _
  have hc := cells5_new w 31 (.slice none 0 0) (.slice none 0 0) (.int .i64 0) (.string ⟨#[]⟩) (.bool false)
  have HC := Kept.mk hc
  have HF := Kept.mk (free5_new w #[.slice none 0 0, .slice none 0 0, .int .i64 0, .string ⟨#[]⟩, .bool false] 31)
  have HR := Kept.mk (hc.set5_ (.slice none 0 0) (.slice none 0 0) (.int .i64 0) (.string ⟨#[]⟩) (.bool false))
  have HB := Kept.mk (below_set5 hb0 (Nat.le_refl _) (.slice none 0 0) (.slice none 0 0) (.int .i64 0) (.string ⟨#[]⟩) (.bool false))
  clear hb0 hc
  go_enter Tryz.func31, Tryz.ntmps31
  go_wp2_with fail
  refine (isPages_any n _).mono ?_
  rintro e w1 ⟨rfl, rfl⟩
  rewrite [HH.out]
  go_wp2_with fail
  refine (isSize_any m _).mono ?_
  rintro e w1 ⟨rfl, rfl⟩
  rewrite [HH2.out]
  go_wp2_with (refine wpList_store5 rfl (.tmp 4) (.tmp 15) rfl w.heap.size (.slice none 0 0) (.slice none 0 0) (.int .i64 0) (.string ⟨#[]⟩) (.bool false) rfl rfl HC.out HF.out rfl rfl rfl rfl rfl ?_)
  exact bodyPost_ret (results2 rfl _ _ w.heap.size _ _ _ _ _ (.int .i64 1) rfl rfl HR.out) rfl ⟨_, rfl, ⟨_, _, rfl, .inl ⟨rfl, rfl⟩, .inl ⟨rfl, rfl⟩⟩, HB.out⟩

set_option maxRecDepth 100000 in
set_option maxHeartbeats 2000000 in
theorem new_yes (n m : Nat) (w : World) (h1 : 1 ≤ n) (h6 : n ≤ 6) (h2 : 1 ≤ m) (h3 : m ≤ 8192) :
    Calls Tryz.prog 31 #[.int .i64 (n : Int), .int .i64 (m : Int)] w fun e w' => ∃ v', e = .returned (.tuple #[v', .int .i64 0]) ∧ isFlN w.heap.size ⟨List.replicate n (List.replicate m 255), List.replicate n 0, -1, [], false⟩ v' w' ∧ Below w.heap.size w w' := by
  have HH := Kept.mk (show (decide (1 ≤ (n : Int)) && decide ((n : Int) ≤ 6)) = true by simp; omega)
  have HH2 := Kept.mk (show (decide (1 ≤ (m : Int)) && decide ((m : Int) ≤ 8192)) = true by simp; omega)
  have HO := Kept.mk (show onesL (m : Int) = List.replicate m 255 by unfold onesL; rw [if_pos (by omega), Int.toNat_natCast])
  have hmk := fun W => run_make_row' (P := Tryz.prog) 29 3 (.int .i64 0) 8 Tryz.underlying29 Tryz.infoInt rfl .i64 .i64 n (by omega) (by omega) W
  have hb0 : Below w.heap.size w (w.alloc (.cells #[.slice none 0 0, .slice none 0 0, .int .i64 0, .string ⟨#[]⟩, .bool false] 31)) := (Below.refl _ _).alloc (Nat.le_refl _) _
  have HB0 := Kept.mk hb0
  have HC := Kept.mk (cells5_new w 31 (.slice none 0 0) (.slice none 0 0) (.int .i64 0) (.string ⟨#[]⟩) (.bool false))
  have HF := Kept.mk (free5_new w #[.slice none 0 0, .slice none 0 0, .int .i64 0, .string ⟨#[]⟩, .bool false] 31)
  clear hb0
  go_enter Tryz.func31, Tryz.ntmps31
  go_wp2_with fail
  refine (isPages_any n _).mono ?_
  rintro e w1 ⟨rfl, rfl⟩
  rewrite [HH.out]
  go_wp2_with fail
  refine (isSize_any m _).mono ?_
  rintro e w1 ⟨rfl, rfl⟩
  rewrite [HH2.out]
  go_wp2_with fail
  refine (ones_any m _).mono ?_
  rintro e w2 ⟨rfl, hb2⟩
  rewrite [HO.out]
  have HB2 := Kept.mk hb2
  clear hb2
  obtain ⟨pg, hpg⟩ : ∃ pg, pg = List.replicate m (255 : UInt8) := ⟨_, rfl⟩
  rewrite [← hpg]
  have HPG := Kept.mk hpg
  clear hpg
  go_wp2_with fail
  refine (repeat_any pg n w2.heap.size _ h1 h6 (by simp) (by rw [World.cell?_alloc_new]; rfl)).mono ?_
  rintro e w3 ⟨vp', rfl, hp', hb3⟩
  obtain ⟨W4, hW4⟩ : ∃ W4, W4 = w3.alloc (.cells (madeCells #[Value.int .i64 0] n) 3) := ⟨_, rfl⟩
  have hb34 : Below w3.heap.size w3 W4 := by rw [hW4]; exact (Below.refl _ _).alloc (Nat.le_refl _) _
  have hbz : Below (w2.alloc (.cells #[Value.string ⟨pg.toArray⟩] 9)).heap.size (w2.alloc (.cells #[Value.string ⟨pg.toArray⟩] 9)) W4 := hb3.trans (hb34.mono hb3.size)
  have hbr := ((Below.refl w2.heap.size w2).alloc (Nat.le_refl _) (.cells #[Value.string ⟨pg.toArray⟩] 9)).trans (hbz.mono (by simp))
  have hbq := HB2.out.trans (hbr.mono HB2.out.size)
  have hs2 : w.heap.size < w2.heap.size := by have := HB2.out.size; simp at this; omega
  have hs3 : w2.heap.size < w3.heap.size := by have := hb3.size; simp at this; omega
  have hs4 : W4.heap.size = w3.heap.size + 1 := by rw [hW4]; simp
  have hrow : W4.heap[w3.heap.size]? = some (.cells (madeCells #[Value.int .i64 0] n) 3 (0, 0)) := by rw [hW4]; show (w3.heap.push _)[w3.heap.size]? = _; simp
  have hq' : isBtw (w.heap.size + 1) W4.heap.size 3 ((List.replicate n (0 : Int)).map intC) (.slice (some ⟨w3.heap.size, 0, none⟩) n n) W4 := by
    refine .inr ⟨w3.heap.size, n, _, by simp, by omega, by omega, hrow, by simp, by simp [size_madeCells], ?_⟩
    apply List.ext_getElem?
    intro j
    by_cases hj : j < n
    · rw [List.getElem?_take, if_pos (by simpa using hj), Array.getElem?_toList, madeCells_get _ _ _ hj]
      simp [hj, intC]
    · rw [List.getElem?_eq_none (by simp; omega), List.getElem?_eq_none (by simp; omega)]
  have hpp : isBtw (w.heap.size + 1) W4.heap.size 9 ((List.replicate n pg).map strC) vp' W4 := by
    rw [List.map_replicate]
    exact (hp'.grow hb34).weak (by simp; omega) (by omega)
  obtain ⟨gp, capp, _, hvp, _⟩ := hpp.some_ (by simp; omega)
  rw [List.length_map, List.length_replicate] at hvp
  subst hvp
  obtain ⟨K1, K2, K3, K4, K5⟩ := told (G := ⟨List.replicate n pg, List.replicate n 0, -1, [], false⟩) (B := w.heap.size + 1) (g := w.heap.size) (by omega) (by simp) HB0.out (Nat.le_refl _) HC.out HF.out hbq hpp hq'
  have oo1 := hpp.one
  clear hpp hq' hrow hbq hbr hbz hp' hb3 hb34 hs2 hs3 hs4
  subst hW4
  go_wp2_with (refine wpList_store5 rfl (.tmp 4) (.tmp 24) rfl w.heap.size (.slice (some ⟨gp, 0, none⟩) n capp) (.slice (some ⟨w3.heap.size, 0, none⟩) n n) (.int .i64 (-1)) (.string ⟨#[]⟩) (.bool false) rfl rfl K1.out K2.out rfl rfl rfl rfl rfl ?_)
  have K4' := K4.out
  rw [HPG.out] at K4'
  exact bodyPost_ret (results2 rfl _ _ w.heap.size _ _ _ _ _ (.int .i64 0) rfl rfl K3.out) rfl ⟨_, rfl, K4', K5.out⟩
theorem new_any (n m : Int) (w : World) :
    Calls Tryz.prog 31 #[.int .i64 n, .int .i64 m] w fun e w' => ∃ v', e = .returned (.tuple #[v', .int .i64 (newE n m)]) ∧ isFlN w.heap.size (newF n m) v' w' ∧ Below w.heap.size w w' := by
  cases h : (decide (1 ≤ n) && decide (n ≤ 6)) with
  | false =>
    have hb : newB n m = false := by unfold newB; rw [h]; rfl
    rw [show newE n m = 1 by simp [newE, hb], show newF n m = ⟨[], [], 0, [], false⟩ by simp [newF, hb]]
    exact new_no1 n m w h
  | true =>
    cases h2 : (decide (1 ≤ m) && decide (m ≤ 8192)) with
    | false =>
      have hb : newB n m = false := by unfold newB; rw [h, h2]; rfl
      rw [show newE n m = 1 by simp [newE, hb], show newF n m = ⟨[], [], 0, [], false⟩ by simp [newF, hb]]
      exact new_no2 n m w h h2
    | true =>
      have hb : newB n m = true := by unfold newB; rw [h, h2]; rfl
      simp only [Bool.and_eq_true, decide_eq_true_eq] at h h2
      obtain ⟨a, rfl⟩ := Int.eq_ofNat_of_zero_le (show 0 ≤ n by omega)
      obtain ⟨b, rfl⟩ := Int.eq_ofNat_of_zero_le (show 0 ≤ m by omega)
      rw [show newE a b = 0 by simp [newE, hb], show newF a b = ⟨List.replicate a (List.replicate b 255), List.replicate a 0, -1, [], false⟩ by simp [newF, hb]]
      exact new_yes a b w (by omega) (by omega) (by omega) (by omega)
end Go.Proofs.YtipiioggdalkoaaGreatDoor
end
section
namespace Go.Proofs.YtipiioggdalkoaaGreatDoor
open Go.RowKit
set_option linter.unusedVariables false
set_option linter.unusedSimpArgs false

/-- Block g holds the device G. -/
def Var (w : World) (g : Nat) (G : Fl) : Prop := ∃ vp vw, Cells5 w g vp vw (.int .i64 G.fuse) (strC G.torn) (.bool G.dead) ∧ isCells (G.pages.map strC) vp w ∧ isCells (G.wear.map intC) vw w
theorem Var.keep {w w' : World} {g : Nat} {G : Fl} (h : Var w g G) (hb : Below w.heap.size w w') : Var w' g G := by
  obtain ⟨vp, vw, hc, hp, hq⟩ := h
  exact ⟨vp, vw, hc.keep hb hc.1, stable_cells _ _ _ _ hp hb, stable_cells _ _ _ _ hq hb⟩
theorem Var.lt {w : World} {g : Nat} {G : Fl} (h : Var w g G) : g < w.heap.size := by obtain ⟨_, _, hc, _⟩ := h; exact hc.1
theorem Var.open_ {w : World} {g : Nat} {G : Fl} (h : Var w g G) : ∃ vp vw, isFl G (.agg #[vp, vw, .int .i64 G.fuse, strC G.torn, .bool G.dead]) w ∧ w.cell? ⟨g, 0, none⟩ = some vp ∧ w.cell? ⟨g, 1, none⟩ = some vw ∧ w.cell? ⟨g, 2, none⟩ = some (.int .i64 G.fuse) ∧ w.cell? ⟨g, 3, none⟩ = some (strC G.torn) ∧ w.cell? ⟨g, 4, none⟩ = some (.bool G.dead) := by
  obtain ⟨vp, vw, hc, hp, hq⟩ := h
  exact ⟨vp, vw, ⟨vp, vw, rfl, hp, hq⟩, hc.2.1, hc.2.2.1, hc.2.2.2.1, hc.2.2.2.2.1, hc.2.2.2.2.2⟩
/-- A parameter's box. -/
theorem var_box (w : World) (G : Fl) (vp vw : Value) (hp : isCells (G.pages.map strC) vp w) (hq : isCells (G.wear.map intC) vw w) :
    Kept (Below w.heap.size w (w.alloc (.cells #[vp, vw, .int .i64 G.fuse, strC G.torn, .bool G.dead] 31))) ∧ Kept (Var (w.alloc (.cells #[vp, vw, .int .i64 G.fuse, strC G.torn, .bool G.dead] 31)) w.heap.size G) := by
  have hb : Below w.heap.size w (w.alloc (.cells #[vp, vw, .int .i64 G.fuse, strC G.torn, .bool G.dead] 31)) := (Below.refl _ _).alloc (Nat.le_refl _) _
  exact ⟨⟨hb⟩, ⟨⟨vp, vw, cells5_new w 31 _ _ _ _ _, stable_cells _ _ _ _ hp hb, stable_cells _ _ _ _ hq hb⟩⟩⟩
/-- A new variable, in which a device is laid down. -/
theorem var_new (w : World) (G : Fl) (vp vw : Value) (hp : isCells (G.pages.map strC) vp w) (hq : isCells (G.wear.map intC) vw w) :
    Kept (Cells5 (w.alloc (.cells #[.slice none 0 0, .slice none 0 0, .int .i64 0, .string ⟨#[]⟩, .bool false] 31)) w.heap.size (.slice none 0 0) (.slice none 0 0) (.int .i64 0) (.string ⟨#[]⟩) (.bool false)) ∧
    Kept (Free5 (w.alloc (.cells #[.slice none 0 0, .slice none 0 0, .int .i64 0, .string ⟨#[]⟩, .bool false] 31)) w.heap.size) ∧
    Kept (Below w.heap.size w (set5 (w.alloc (.cells #[.slice none 0 0, .slice none 0 0, .int .i64 0, .string ⟨#[]⟩, .bool false] 31)) w.heap.size vp vw (.int .i64 G.fuse) (strC G.torn) (.bool G.dead))) ∧
    Kept (Var (set5 (w.alloc (.cells #[.slice none 0 0, .slice none 0 0, .int .i64 0, .string ⟨#[]⟩, .bool false] 31)) w.heap.size vp vw (.int .i64 G.fuse) (strC G.torn) (.bool G.dead)) w.heap.size G) := by
  have hb : Below w.heap.size w (w.alloc (.cells #[.slice none 0 0, .slice none 0 0, .int .i64 0, .string ⟨#[]⟩, .bool false] 31)) := (Below.refl _ _).alloc (Nat.le_refl _) _
  have hc := cells5_new w 31 (.slice none 0 0) (.slice none 0 0) (.int .i64 0) (.string ⟨#[]⟩) (.bool false)
  have hb5 := below_set5 hb (Nat.le_refl _) vp vw (.int .i64 G.fuse) (strC G.torn) (.bool G.dead)
  exact ⟨⟨hc⟩, ⟨free5_new w _ _⟩, ⟨hb5⟩, ⟨⟨vp, vw, hc.set5_ _ _ _ _ _, stable_cells _ _ _ _ hp hb5, stable_cells _ _ _ _ hq hb5⟩⟩⟩
theorem isCells.one {cs : List Value} {v : Value} {w : World} (h : isCells cs v w) : v.oneCell' = true := by
  obtain ⟨a, cap, rfl⟩ := h.len
  rfl

theorem fl_grow {F : Fl} {v : Value} {w w' : World} (h : isFl F v w) (hb : Below w.heap.size w w') : isFl F v w' := stable_fl F v w w' h hb
/-- Its rows, where they are not empty. -/
theorem Var.rows {w : World} {g : Nat} {G : Fl} (h : Var w g G) {n m : Nat} (hn : G.pages.length = n) (hm : G.wear.length = m) (n0 : 0 < n) (m0 : 0 < m) : ∃ b off cap b2 off2 cap2,
    Cells5 w g (.slice (some ⟨b, off, none⟩) n cap) (.slice (some ⟨b2, off2, none⟩) m cap2) (.int .i64 G.fuse) (strC G.torn) (.bool G.dead) ∧ isFl G (.agg #[.slice (some ⟨b, off, none⟩) n cap, .slice (some ⟨b2, off2, none⟩) m cap2, .int .i64 G.fuse, strC G.torn, .bool G.dead]) w ∧
    b < w.heap.size ∧ b2 < w.heap.size ∧ (∀ (j : Nat) (p : List UInt8), G.pages[j]? = some p → w.cell? ⟨b, off + j, none⟩ = some (.string ⟨p.toArray⟩)) ∧ (∀ (j : Nat) (x : Int), G.wear[j]? = some x → w.cell? ⟨b2, off2 + j, none⟩ = some (.int .i64 x)) := by
  obtain ⟨vp, vw, hc, hp, hq⟩ := h
  obtain ⟨b, off, cap, rfl, hb, hcp⟩ := hp.some_ (by rw [List.length_map]; omega)
  obtain ⟨b2, off2, cap2, rfl, hb2, hcq⟩ := hq.some_ (by rw [List.length_map]; omega)
  rw [List.length_map, hn] at hc hp
  rw [List.length_map, hm] at hc hq
  exact ⟨b, off, cap, b2, off2, cap2, hc, ⟨_, _, rfl, hp, hq⟩, hb, hb2, fun j p hj => hcp j _ (by rw [List.getElem?_map, hj]; rfl), fun j x hj => hcq j _ (by rw [List.getElem?_map, hj]; rfl)⟩

def bigPage (p : List UInt8) : Bool := decide (4000 < (p.length : Int)) && decide ((p.length : Int) ≤ 8192)
def fewB (F : Fl) : Bool := !((F.pages.take 9).any bigPage) && decide ((F.pages.length : Int) ≤ 8) && decide ((F.wear.length : Int) ≤ 20)

theorem few_none (F : Fl) (v : Value) (w : World) (hv : isFl F v w) (h0 : F.pages = []) :
    Calls Tryz.prog 21 #[v] w fun e w' => e = .returned (.bool (fewB F)) ∧ Below w.heap.size w w' := by
  obtain ⟨vp, vw, rfl, hp, hq⟩ := hv
  obtain ⟨a, cap, rfl⟩ := hp.len
  obtain ⟨a2, cap2, rfl⟩ := hq.len
  have hl : (F.pages.map strC).length = 0 := by simp [h0]
  have hl2 : (F.wear.map intC).length = F.wear.length := by simp
  rw [hl, hl2]
  obtain ⟨hB, hV⟩ := var_box w F (.slice a 0 cap) (.slice a2 F.wear.length cap2) (by rw [hl] at hp; exact hp) (by rw [hl2] at hq; exact hq)
  have HF := Kept.mk (show fewB F = decide ((F.wear.length : Int) ≤ 20) by simp [fewB, h0])
  clear hp hq hl hl2 hV
  go_enter Tryz.func21, Tryz.ntmps21
  go_wp2
  go_loop [3] (fun i => i = .int .i64 0) (fun _ => 0)
  case atStart => rfl
  case round =>
    subst hrel
    go_wp2
    go_ret
    exact ⟨by rw [HF.out]; rfl, hB.out⟩

theorem any_take {α : Type} (p : α → Bool) (l : List α) (k : Nat) (h : k < l.length) : (l.take (k + 1)).any p = ((l.take k).any p || p l[k]) := by
  rw [List.take_succ_eq_append_getElem h, List.any_append]; simp
theorem any_more {α : Type} (p : α → Bool) (l : List α) (k m : Nat) (hk : k ≤ m) (h : (l.take k).any p = true) : (l.take m).any p = true := by
  rw [List.any_eq_true] at h ⊢
  obtain ⟨x, hx, hp⟩ := h
  refine ⟨x, ?_, hp⟩
  rw [show l.take k = (l.take m).take k by rw [List.take_take, Nat.min_eq_left hk]] at hx
  exact List.mem_of_mem_take hx
set_option maxRecDepth 20000 in
set_option maxHeartbeats 1000000 in
theorem few_some (F : Fl) (v : Value) (w : World) (hv : isFl F v w) (h0 : 0 < F.pages.length) :
    Calls Tryz.prog 21 #[v] w fun e w' => e = .returned (.bool (fewB F)) ∧ Below w.heap.size w w' := by
  obtain ⟨vp, vw, rfl, hp, hq⟩ := hv
  obtain ⟨b, off, cap, rfl, hb, hc⟩ := hp.some_ (by simpa using h0)
  obtain ⟨a2, cap2, rfl⟩ := hq.len
  have hl : (F.pages.map strC).length = F.pages.length := by simp
  have hl2 : (F.wear.map intC).length = F.wear.length := by simp
  rw [hl, hl2]
  obtain ⟨hB, hV⟩ := var_box w F (.slice (some ⟨b, off, none⟩) F.pages.length cap) (.slice a2 F.wear.length cap2) (by rw [hl] at hp; exact hp) (by rw [hl2] at hq; exact hq)
  have HC := Kept.mk (show ∀ (k : Nat) (p : List UInt8), F.pages[k]? = some p → (w.alloc (.cells #[.slice (some ⟨b, off, none⟩) F.pages.length cap, .slice a2 F.wear.length cap2, .int .i64 F.fuse, strC F.torn, .bool F.dead] 31)).cell? ⟨b, off + k, none⟩ = some (.string ⟨p.toArray⟩) from
    fun k p hk => (hB.out.cell (p := ⟨b, off + k, none⟩) hb).trans (hc k _ (by rw [List.getElem?_map, hk]; rfl)))
  have HF := Kept.mk (show fewB F = (!((F.pages.take 9).any bigPage) && decide ((F.pages.length : Int) ≤ 8) && decide ((F.wear.length : Int) ≤ 20)) from rfl)
  obtain ⟨n, hn⟩ : ∃ n, n = F.pages.length := ⟨_, rfl⟩
  have HN := Kept.mk hn
  rw [← hn] at HF h0 hB HC ⊢
  clear hp hq hl hl2 hV hc hn
  go_enter Tryz.func21, Tryz.ntmps21
  go_wp2
  go_loop [3] (fun i => ∃ k : Nat, k ≤ n ∧ k ≤ 9 ∧ i = .int .i64 (k : Int) ∧ Kept ((F.pages.take k).any bigPage = false)) (fun i => n - (intOf i).toNat)
  case atStart => exact ⟨0, Nat.zero_le _, by omega, rfl, ⟨rfl⟩⟩
  case round =>
    obtain ⟨k, hk, hk9, rfl, HK⟩ := hrel
    by_cases hlt : k < n
    · have d1 : decide ((k : Int) < (n : Int)) = true := by simpa using hlt
      by_cases h8 : k ≤ 8
      · have d2 : decide ((k : Int) ≤ 8) = true := by simp; omega
        have hlp : k < F.pages.length := by rw [← HN.out]; exact hlt
        have hcell := HC.out k F.pages[k] (List.getElem?_eq_getElem hlp)
        have HA := Kept.mk (any_take bigPage F.pages k hlp)
        have hsz : (⟨(F.pages[k]).toArray⟩ : ByteArray).size = (F.pages[k]).length := size_mk _
        obtain ⟨p, hpd⟩ : ∃ p, p = F.pages[k] := ⟨_, rfl⟩
        rw [← hpd] at hcell HA hsz
        clear hpd
        have HBP := Kept.mk (show bigPage p = (decide (4000 < (p.length : Int)) && decide ((p.length : Int) ≤ 8192)) from rfl)
        by_cases b1 : 4000 < p.length
        · have d3 : decide (4000 < (p.length : Int)) = true := by simp; omega
          by_cases b2 : p.length ≤ 8192
          · have d4 : decide ((p.length : Int) ≤ 8192) = true := by simp; omega
            have HR := Kept.mk (show fewB F = false by
              have h9 := any_more bigPage F.pages (k + 1) 9 (by omega) (by rw [HA.out, HBP.out, d3, d4]; simp)
              rw [HF.out, h9]; rfl)
            go_wp2
            go_ret
            exact ⟨by rw [HR.out]; rfl, hB.out⟩
          · have d4 : decide ((p.length : Int) ≤ 8192) = false := by simp; omega
            have HR := Kept.mk (show (F.pages.take (k + 1)).any bigPage = false by rw [HA.out, HK.out, HBP.out, d4]; simp)
            go_wp2
            go_round
            case rel => exact ⟨k + 1, by omega, by omega, by go_num, HR⟩
            case measure => simp [intOf]; omega
        · have d3 : decide (4000 < (p.length : Int)) = false := by simp; omega
          have HR := Kept.mk (show (F.pages.take (k + 1)).any bigPage = false by rw [HA.out, HK.out, HBP.out, d3]; simp)
          go_wp2
          go_round
          case rel => exact ⟨k + 1, by omega, by omega, by go_num, HR⟩
          case measure => simp [intOf]; omega
      · have d2 : decide ((k : Int) ≤ 8) = false := by simp; omega
        have d5 : decide ((n : Int) ≤ 8) = false := by simp; omega
        have HR := Kept.mk (show fewB F = false by rw [HF.out, d5]; simp)
        go_wp2
        go_ret
        exact ⟨by rw [HR.out]; rfl, hB.out⟩
    · have d1 : decide ((k : Int) < (n : Int)) = false := by simp; omega
      obtain rfl : k = n := by omega
      have HR := Kept.mk (show fewB F = (decide ((k : Int) ≤ 8) && decide ((F.wear.length : Int) ≤ 20)) by
        rw [HF.out, List.take_of_length_le (by rw [← HN.out]; exact hk9)]
        have := HK.out
        rw [HN.out, List.take_of_length_le (Nat.le_refl _)] at this
        rw [this]; rfl)
      by_cases h8 : k ≤ 8
      · have d5 : decide ((k : Int) ≤ 8) = true := by simp; omega
        rw [d5] at HR
        go_wp2
        go_ret
        exact ⟨by rw [HR.out]; rfl, hB.out⟩
      · have d5 : decide ((k : Int) ≤ 8) = false := by simp; omega
        rw [d5] at HR
        go_wp2
        go_ret
        exact ⟨by rw [HR.out]; rfl, hB.out⟩
theorem few_any (F : Fl) (v : Value) (w : World) (hv : isFl F v w) :
    Calls Tryz.prog 21 #[v] w fun e w' => e = .returned (.bool (fewB F)) ∧ Below w.heap.size w w' := by
  by_cases h : 0 < F.pages.length
  · exact few_some F v w hv h
  · exact few_none F v w hv (List.eq_nil_of_length_eq_zero (by omega))
theorem few_facts {F : Fl} (h : fewB F = true) : F.pages.length ≤ 8 ∧ F.wear.length ≤ 20 := by
  simp only [fewB, Bool.and_eq_true, decide_eq_true_eq] at h
  omega
end Go.Proofs.YtipiioggdalkoaaGreatDoor
end
section
namespace Go.Proofs.YtipiioggdalkoaaGreatDoor
open Go.RowKit Go.Shelf
set_option linter.unusedVariables false
set_option linter.unusedSimpArgs false
attribute [local go_sem] Oper.semAt_some

/-- Behind an append to what a box holds: the row lies from n₁ on, behind the box. -/
theorem boxed_app {W w1 : World} {n₀ n₁ B : Nat} {t e : TypeId} {size : Nat} {v v' : Value} {k m : Nat} {xs ys : List Value} {tmp : Obj}
    (hv : Boxed W B t v) (hte : t ≠ e) (hrow : W.ownsRow n₁ e size v k xs) (hn₁ : n₁ ≤ W.heap.size) (hB : n₀ ≤ B) (h01 : n₀ ≤ n₁)
    (hown' : w1.ownsRow n₁ e size v' m ys) (hgrow : (W.alloc tmp).grownBy w1 v.ownBlock) :
    Boxed w1 B t v ∧ Boxed (w1.setCell ⟨B, 0, none⟩ v') B t v' ∧ (w1.setCell ⟨B, 0, none⟩ v').ownsRow n₁ e size v' m ys ∧ KeepsOthers W (w1.setCell ⟨B, 0, none⟩ v') ∧ Below n₀ W (w1.setCell ⟨B, 0, none⟩ v') ∧ (∀ b, b < n₁ → b ≠ B → (w1.setCell ⟨B, 0, none⟩ v').heap[b]? = W.heap[b]?) ∧ W.heap.size ≤ (w1.setCell ⟨B, 0, none⟩ v').heap.size := by
  have hv1 : Boxed w1 B t v := (hv.alloc tmp).kept hgrow (hv.not_row hte hrow)
  have hb : Below n₁ W w1 := ((Below.refl n₁ W).alloc hn₁ tmp).grown hgrow (by simp; omega) fun j ej => by
    rcases hrow.2 with ⟨rfl, _⟩ | ⟨g, cap, cur, rfl, hb, _, _⟩
    · simp [Value.ownBlock] at ej
    · obtain rfl : g = j := by simpa [Value.ownBlock] using ej
      exact hb
  refine ⟨hv1, hv1.set v', hown'.kept (grownBy_setCell' w1 B v') (.inr (hv1.not_row hte hown').symm), ?_, (hb.mono h01).setCell (p := ⟨B, 0, none⟩) hB v', fun b h1 h2 => (Below.heap_setCell w1 ⟨B, 0, none⟩ v' b h2).trans (hb.block b h1), by simpa using hb.size⟩
  refine ((KeepsOthers.alloc W tmp).trans (KeepsOthers.of_grownBy hgrow fun j o ej hj => ?_)).trans (KeepsOthers.setCell _ _ _)
  rcases (hrow.alloc tmp).2 with ⟨rfl, _⟩ | ⟨g, cap, cur, rfl, _, hgb, _⟩
  · simp [Value.ownBlock] at ej
  · obtain rfl : g = j := by simpa [Value.ownBlock] using ej
    rw [hgb] at hj; cases hj; rfl
theorem keepsOthers_below {W W' : World} (h : Below W.heap.size W W') : KeepsOthers W W' := ⟨h.size, fun k o hk _ => (h.block k (Array.getElem?_eq_some_iff.1 hk).1).trans hk⟩
theorem ownsRow_below {W W' : World} {n₀ : Nat} {e : TypeId} {size : Nat} {v : Value} {k : Nat} {xs : List Value} (h : W.ownsRow n₀ e size v k xs) (hb : Below W.heap.size W W') : W'.ownsRow n₀ e size v k xs := by
  obtain ⟨hl, h | ⟨g, cap, cur, hv, h1, hg, rest⟩⟩ := h
  · exact ⟨hl, .inl h⟩
  · exact ⟨hl, .inr ⟨g, cap, cur, hv, h1, (hb.block g (Array.getElem?_eq_some_iff.1 hg).1).trans hg, rest⟩⟩
theorem boxed_below {W W' : World} {B : Nat} {t : TypeId} {v : Value} (h : Boxed W B t v) (hb : Below W.heap.size W W') : Boxed W' B t v := (hb.block B (Array.getElem?_eq_some_iff.1 h).1).trans h
theorem cell_of_block {W W' : World} {b : Nat} (h : W'.heap[b]? = W.heap[b]?) : W'.cell? ⟨b, 0, none⟩ = W.cell? ⟨b, 0, none⟩ := by simp only [World.cell?, h]

def recOf (t : List UInt8) : List (List UInt8) := if readE t = 0 then [readS t] else []
def recsOf (s : List UInt8) (n : Int) (pre : List Nat) : List (List UInt8) := pre.flatMap fun i => recOf (slotL s n i)
/-- The payloads of all places that are records. -/
def recordsL (s : List UInt8) (n : Int) : List (List UInt8) := recsOf s n (List.range (roomN s n))
theorem recsOf_len (s : List UInt8) (n : Int) (pre : List Nat) : (recsOf s n pre).length ≤ pre.length := by
  unfold recsOf
  induction pre with
  | nil => simp
  | cons a l ih =>
    rw [List.flatMap_cons, List.length_append, List.length_cons]
    have : (recOf (slotL s n a)).length ≤ 1 := by unfold recOf; split <;> simp
    omega

set_option maxRecDepth 100000 in
set_option maxHeartbeats 2000000 in
theorem records_any (s : List UInt8) (n : Int) (w : World) (hs : s.length ≤ 1000000) (hz : szN n ≤ 2056 ∨ roomN s n = 0) :
    Calls Tryz.prog 13 #[.string ⟨s.toArray⟩, .int .i64 n] w fun e W' => ∃ v, e = .returned v ∧ isCells ((recordsL s n).map strC) v W' ∧ Below w.heap.size w W' := by
  refine (callsIn_wide (n := 5)).1 ?_
  obtain ⟨i0, hi, hz0, hz1, hz2⟩ := info_parts Tryz.infoStr
  refine callsIn_of_wp_marks Tryz.func13 rfl trivial ?_ rfl
  simp only [Tryz.ntmps13, List.size_toArray, List.length_cons, List.length_nil, Nat.reduceAdd, Nat.reduceSub, Array.replicate_succ, Array.replicate_zero, List.push_toArray, List.append_toArray, List.nil_append, List.cons_append]
  gi_wp2_with (refine ⟨trivial, (places_in _ s n _).mono ?_⟩; rintro e w' ⟨rfl, rfl⟩)
  have bO := Boxed.new w 26 (.slice none 0 0)
  have bS := Boxed.new (w.alloc (.cells #[.slice none 0 0] 26)) 9 (.string ⟨s.toArray⟩)
  have bN := Boxed.new ((w.alloc (.cells #[.slice none 0 0] 26)).alloc (.cells #[.string ⟨s.toArray⟩] 9)) 3 (.int .i64 n)
  have hB0 : Below w.heap.size w (((w.alloc (.cells #[.slice none 0 0] 26)).alloc (.cells #[.string ⟨s.toArray⟩] 9)).alloc (.cells #[.int .i64 n] 3)) := (((Below.refl _ w).alloc (Nat.le_refl _) _).alloc (by simp) _).alloc (by simp; omega) _
  simp only [World.size_alloc] at bS bN ⊢
  have hrl : roomN s n ≤ 1000000 := Nat.le_trans (roomN_len s n) hs
  refine wpIn_rangeFunc_ownG rfl (by decide) (gf := 63) (lb := #[.pointer (some ⟨w.heap.size + 1, 0, none⟩), .pointer (some ⟨w.heap.size + 1 + 1, 0, none⟩)]) rfl trivial (enters_of Tryz.func63 (by kernel_rfl) rfl)
    (places_stops 4 (by omega) (w.heap.size + 1) (w.heap.size + 1 + 1) s n (by omega) _ (by simp) (bS.alloc _).cell (by simp) bN.cell) (box2_t _ _) (box2_put _ _ _ (by simp) (by simp)) (Below.refl _ _) (fun _ => rfl)
    (fun (pre : List (Fin (roomN s n))) W => (∃ v, Boxed W w.heap.size 26 v ∧ W.ownsRow (w.heap.size + 3) 9 1 v (recsOf s n (pre.map Fin.val)).length ((recsOf s n (pre.map Fin.val)).map strC) ∧ True) ∧ Below w.heap.size w W ∧ w.heap.size + 3 ≤ W.heap.size)
    (fun _ _ _ => False)
    (OwnFrom.and (Own.from (holdsRow_own (w.heap.size + 3) w.heap.size 26 9 1 (fun pre : List (Fin (roomN s n)) => (recsOf s n (pre.map Fin.val)).length) (fun pre => (recsOf s n (pre.map Fin.val)).map strC) (fun pre v => True)) _) (OwnFrom.and (ownFrom_below (Nat.le_refl _) (by simp; omega)) (fun _ _ _ _ hs hg _ => Nat.le_trans hs hg.size)))
    (fun _ _ _ _ _ hs _ _ => hs)
    ⟨⟨_, (bO.alloc _).alloc _, World.ownsRow_nil _ _ _ _, trivial⟩, hB0, by simp⟩
    (fun x : Fin (roomN s n) => { tmps := #[.string ⟨s.toArray⟩, .int .i64 n, undef, undef, .slice none 0 0, .pointer (some ⟨w.heap.size, 0, none⟩), undef, .string ⟨(slotL s n x.val).toArray⟩, undef, undef, .string ⟨s.toArray⟩, .int .i64 n, .func (.func 63) #[] #[.pointer (some ⟨w.heap.size + 1, 0, none⟩), .pointer (some ⟨w.heap.size + 1 + 1, 0, none⟩)], .int .i64 (x.val : Int), .string ⟨(slotL s n x.val).toArray⟩, undef, undef, undef, undef, undef, undef, undef, undef, undef, undef, undef, undef], defers := [] }) ?assign ?body ?done ?stop
  case assign =>
    intro l x W K hK
    simp only [encPl]
    gi_wp2
    exact hK
  case body =>
    rintro l pre x W ⟨⟨v, hv, hrow, _⟩, hB, hW3⟩ hlt
    have hle : (slotL s n x.val).length ≤ 2056 := by
      rcases hz with h | h
      · exact Nat.le_trans (by simp only [slotL, List.length_take]; omega) h
      · omega
    have hpl := recsOf_len s n (pre.map Fin.val)
    rw [List.length_map] at hpl
    have HR := Lib.hid (show recsOf s n ((pre ++ [x]).map Fin.val) = recsOf s n (pre.map Fin.val) ++ recOf (slotL s n x.val) by simp [recsOf])
    generalize slotL s n x.val = t at *
    rcases readE_cases t with ⟨h0, _⟩ | ⟨h0, _⟩
    · have HE := Lib.hid h0
      have HC := Lib.hid (show recOf t = [readS t] by unfold recOf; rw [if_pos h0])
      clear h0
      gi_wp2_with (first
        | (refine ⟨trivial, ((callsIn_wide.2 (read_any t _ hle)).inRound l).mono ?_⟩; rintro e W2 ⟨rfl, hb2⟩; rw [HE.out]; have hv2 := boxed_below hv hb2; have hrow2 := ownsRow_below hrow hb2; have hc2 := hv2.cell; have hW4 : w.heap.size + 3 ≤ W2.heap.size := Nat.le_trans hW3 hb2.size)
        | (gi_at_builtin; refine wpListIn_append_own _ rfl _ _ 26 rfl (w.heap.size + 3) 9 i0 (.string ⟨#[]⟩) 1 16 Tryz.underlying26 hi hz0 hz1 hz2 rfl (by decide) _ _ _ rfl (hrow2.alloc _) ⟨W2.heap.size, 0, none⟩ 1 1 [strC (readS t)] rfl rfl (cell_one_new _ _ _) (by simp [Value.oneCell', strC]) (by unfold maxLen; omega) (by omega) (by simp; omega) ?_; intro v' w1 hown' hgrow _; obtain ⟨g', cap', rfl⟩ := ownsRow_succ hown'; obtain ⟨hv3, hv4, hr4, hk4, hb4, hbl4, hsz4⟩ := boxed_app (n₀ := w.heap.size) hv2 (by decide) hrow2 hW4 (Nat.le_refl _) (by omega) hown' hgrow; have hc1 := hv3.cell; have hf1 := hv3.frozen))
      refine ⟨((keepsOthers_below hb2).trans hk4).from _, ⟨cell_of_block ((hbl4 _ (by omega) (by omega)).trans (hb2.block _ (by omega))), cell_of_block ((hbl4 _ (by omega) (by omega)).trans (hb2.block _ (by omega)))⟩, ⟨_, hv4, ?_, trivial⟩, (hB.trans (hb2.mono hB.size)).trans hb4, by omega⟩
      rw [HR.out, HC.out]
      simpa using hr4
    · have HE := Lib.hid h0
      have HC := Lib.hid (show recOf t = [] by unfold recOf; rw [if_neg (by rw [h0]; decide)])
      clear h0
      gi_wp2_with (refine ⟨trivial, ((callsIn_wide.2 (read_any t _ hle)).inRound l).mono ?_⟩; rintro e W2 ⟨rfl, hb2⟩; rw [HE.out]; have hv2 := boxed_below hv hb2; have hrow2 := ownsRow_below hrow hb2; have hW4 : w.heap.size + 3 ≤ W2.heap.size := Nat.le_trans hW3 hb2.size)
      refine ⟨(keepsOthers_below hb2).from _, ⟨cell_of_block (hb2.block _ (by omega)), cell_of_block (hb2.block _ (by omega))⟩, ⟨_, hv2, ?_, trivial⟩, hB.trans (hb2.mono hB.size), hW4⟩
      rw [HR.out, HC.out]
      simpa using hrow2
  case done =>
    rintro D ys W hD hys ⟨⟨v, hv, hrow, _⟩, hB, hW3⟩ hK
    rw [hys] at hrow
    have hc := hv.cell
    gi_wp2
    refine ⟨by simp, .inl ⟨_, _, rfl, run_takeDeferred hK, ?_⟩⟩
    exact ⟨_, results_tmp rfl _ _ _, v, rfl, isCells_own (ownsRow_putObj hrow _ hK rfl), hB.trans (belowK_b (w := w) (Nat.le_refl _) W D _ _ (by simp at hD; omega) hK rfl rfl)⟩
  case stop =>
    rintro D c pre W _ _ h _
    exact h.elim
end Go.Proofs.YtipiioggdalkoaaGreatDoor
end
section
namespace Go.Proofs.YtipiioggdalkoaaGreatDoor
open Go.RowKit Go.Shelf
set_option linter.unusedVariables false
set_option linter.unusedSimpArgs false
attribute [local go_sem] Oper.semAt_some

/-- A tally. -/
def Tally (W : World) (g : Nat) (c e : Nat) : Prop := W.heap[g]? = some (.cells #[.int .i64 (c : Int), .int .i64 (e : Int)] 52 (0, 0))
set_option maxHeartbeats 1000000 in
theorem add_tally (g c e i : Nat) (w : World) (h : Tally w g c e) (hc : c ≤ 1000000000) (hi : i ≤ 1000000000) :
    Calls Tryz.prog 40 #[.pointer (some ⟨g, 0, none⟩), .int .i64 (i : Int)] w fun x w' => (∃ v, x = .returned v) ∧ Tally w' g (c + 1) (i + 1) ∧ KeepsOthers w w' ∧ (∀ b, b ≠ g → w'.heap[b]? = w.heap[b]?) ∧ Below g w w' := by
  have hlt : g < w.heap.size := (Array.getElem?_eq_some_iff.1 h).1
  have c0 : w.cell? ⟨g, 0, none⟩ = some (.int .i64 (c : Int)) := by simp [World.cell?, show w.heap[g]? = _ from h]
  have f0 : w.frozen? ⟨g, 0, none⟩ = false := by simp [World.frozen?, show w.heap[g]? = _ from h]
  have HT := Lib.hid h
  have g1 := heap_setCell_same w g 0 _ _ (.int .i64 ((c : Int) + 1)) h
  have c1 : (w.setCell ⟨g, 0, none⟩ (.int .i64 ((c : Int) + 1))).cell? ⟨g, 1, none⟩ = some (.int .i64 (e : Int)) := by simp [World.cell?, g1]
  have f1 : (w.setCell ⟨g, 0, none⟩ (.int .i64 ((c : Int) + 1))).frozen? ⟨g, 1, none⟩ = false := by simp [World.frozen?, g1]
  have g2 := heap_setCell_same _ g 1 _ _ (.int .i64 ((i : Int) + 1)) g1
  have G2 := Lib.hid g2
  clear g1 g2 h
  go_enter Tryz.func40, Tryz.ntmps40
  go_wp2
  go_end0
  refine ⟨⟨_, rfl⟩, ?_, (KeepsOthers.setCell _ _ _).trans (KeepsOthers.setCell _ _ _), fun b hb => (Below.heap_setCell _ ⟨g, 1, none⟩ _ b hb).trans (Below.heap_setCell w ⟨g, 0, none⟩ _ b hb), ((Below.refl g w).setCell (p := ⟨g, 0, none⟩) (Nat.le_refl _) _).setCell (p := ⟨g, 1, none⟩) (Nat.le_refl _) _⟩
  exact G2.out
theorem ownFrom_block {β : Type} {B b : Nat} (hb : b < B) (X : β → Obj) : OwnFrom B (fun s W => W.heap[b]? = some (X s)) := fun s W W' row hs hg hr =>
  (hg.block b (Array.getElem?_eq_some_iff.1 hs).1 (fun e => by have := (hr b e.symm).1; omega)).trans hs

def tcnt (p : Nat → Bool) (pre : List Nat) : Nat := (pre.filter p).length
def tend (p : Nat → Bool) (pre : List Nat) : Nat := pre.foldl (fun a i => if p i = true then i + 1 else a) 0
theorem tcnt_le (p : Nat → Bool) (pre : List Nat) : tcnt p pre ≤ pre.length := List.length_filter_le _ _

set_option maxRecDepth 100000 in
set_option maxHeartbeats 2000000 in
theorem mark_any (s : List UInt8) (n : Int) (fs g : Nat) (P : List UInt8 → Bool) (w : World) (hs : s.length ≤ 1000000) (hz : szN n ≤ 2056 ∨ roomN s n = 0) (hg : Tally w g 0 0) (hen : Enters Tryz.prog fs)
    (hsuch : ∀ (t : List UInt8) (W : World), t.length ≤ 2056 → Calls Tryz.prog fs #[.string ⟨t.toArray⟩] W fun e W' => e = .returned (.bool (P t)) ∧ Below W.heap.size W W') :
    Calls Tryz.prog 37 #[.string ⟨s.toArray⟩, .int .i64 n, .func (.func fs) #[] #[], .func (.func 40) #[.pointer (some ⟨g, 0, none⟩)] #[]] w fun e W' => (∃ v, e = .returned v) ∧
      Tally W' g (tcnt (fun i => P (slotL s n i)) (List.range (roomN s n))) (tend (fun i => P (slotL s n i)) (List.range (roomN s n))) ∧ Below g w W' := by
  have hgs : g < w.heap.size := (Array.getElem?_eq_some_iff.1 hg).1
  have hea : Enters Tryz.prog 40 := enters_of Tryz.func40 (by kernel_rfl) rfl
  refine (callsIn_wide (n := 5)).1 ?_
  refine callsIn_of_wp_marks Tryz.func37 rfl trivial ?_ rfl
  simp only [Tryz.ntmps37, List.size_toArray, List.length_cons, List.length_nil, Nat.reduceAdd, Nat.reduceSub, Array.replicate_succ, Array.replicate_zero, List.push_toArray, List.append_toArray, List.nil_append, List.cons_append]
  gi_wp2_with (refine ⟨trivial, (places_in _ s n _).mono ?_⟩; rintro e w' ⟨rfl, rfl⟩)
  have b1 := Boxed.new w 40 (.func (.func fs) #[] #[])
  have b2 := Boxed.new (w.alloc (.cells #[.func (.func fs) #[] #[]] 40)) 54 (.func (.func 40) #[.pointer (some ⟨g, 0, none⟩)] #[])
  have b3 := Boxed.new ((w.alloc (.cells #[.func (.func fs) #[] #[]] 40)).alloc (.cells #[.func (.func 40) #[.pointer (some ⟨g, 0, none⟩)] #[]] 54)) 9 (.string ⟨s.toArray⟩)
  have b4 := Boxed.new (((w.alloc (.cells #[.func (.func fs) #[] #[]] 40)).alloc (.cells #[.func (.func 40) #[.pointer (some ⟨g, 0, none⟩)] #[]] 54)).alloc (.cells #[.string ⟨s.toArray⟩] 9)) 3 (.int .i64 n)
  have hB0 : Below w.heap.size w ((((w.alloc (.cells #[.func (.func fs) #[] #[]] 40)).alloc (.cells #[.func (.func 40) #[.pointer (some ⟨g, 0, none⟩)] #[]] 54)).alloc (.cells #[.string ⟨s.toArray⟩] 9)).alloc (.cells #[.int .i64 n] 3)) := ((((Below.refl _ w).alloc (Nat.le_refl _) _).alloc (by simp) _).alloc (by simp; omega) _).alloc (by simp; omega) _
  simp only [World.size_alloc] at b2 b3 b4 ⊢
  have hrl : roomN s n ≤ 1000000 := Nat.le_trans (roomN_len s n) hs
  have hg4 : Tally _ g 0 0 := (hB0.block g hgs).trans hg
  refine wpIn_rangeFunc_ownG rfl (by decide) (gf := 63) (lb := #[.pointer (some ⟨w.heap.size + 1 + 1, 0, none⟩), .pointer (some ⟨w.heap.size + 1 + 1 + 1, 0, none⟩)]) rfl trivial (enters_of Tryz.func63 (by kernel_rfl) rfl)
    (places_stops 4 (by omega) (w.heap.size + 1 + 1) (w.heap.size + 1 + 1 + 1) s n (by omega) _ (by simp) (b3.alloc _).cell (by simp) b4.cell) (box2_t _ _) (box2_put _ _ _ (by simp) (by simp)) (Below.refl _ _) (fun _ => rfl)
    (fun (pre : List (Fin (roomN s n))) W => W.heap[g]? = some (.cells #[.int .i64 (tcnt (fun i => P (slotL s n i)) (pre.map Fin.val) : Int), .int .i64 (tend (fun i => P (slotL s n i)) (pre.map Fin.val) : Int)] 52 (0, 0)) ∧ W.heap[w.heap.size]? = some (.cells #[.func (.func fs) #[] #[]] 40 (0, 0)) ∧ W.heap[w.heap.size + 1]? = some (.cells #[.func (.func 40) #[.pointer (some ⟨g, 0, none⟩)] #[]] 54 (0, 0)) ∧ Below g w W ∧ w.heap.size + 4 ≤ W.heap.size)
    (fun _ _ _ => False)
    (OwnFrom.and (ownFrom_block (by simp only [World.size_alloc]; omega) _) (OwnFrom.and (ownFrom_block (by simp only [World.size_alloc]; omega) _) (OwnFrom.and (ownFrom_block (by simp only [World.size_alloc]; omega) _) (OwnFrom.and (ownFrom_below (Nat.le_of_lt hgs) (by simp; omega)) (fun _ _ _ _ hs hg _ => Nat.le_trans hs hg.size)))))
    (fun _ _ _ _ _ hs _ _ => hs)
    ⟨hg4, ((b1.alloc _).alloc _).alloc _, (b2.alloc _).alloc _, hB0.mono (Nat.le_of_lt hgs), by simp⟩
    (fun x : Fin (roomN s n) => { tmps := #[.string ⟨s.toArray⟩, .int .i64 n, .func (.func fs) #[] #[], .func (.func 40) #[.pointer (some ⟨g, 0, none⟩)] #[], undef, undef, .pointer (some ⟨w.heap.size, 0, none⟩), .pointer (some ⟨w.heap.size + 1, 0, none⟩), .int .i64 (x.val : Int), .string ⟨(slotL s n x.val).toArray⟩, .string ⟨s.toArray⟩, .int .i64 n, .func (.func 63) #[] #[.pointer (some ⟨w.heap.size + 1 + 1, 0, none⟩), .pointer (some ⟨w.heap.size + 1 + 1 + 1, 0, none⟩)], .int .i64 (x.val : Int), .string ⟨(slotL s n x.val).toArray⟩, undef, undef, undef, undef, undef, undef], defers := [] }) ?assign ?body ?done ?stop
  case assign =>
    intro l x W K hK
    simp only [encPl]
    gi_wp2
    exact hK
  case body =>
    rintro l pre x W ⟨hT, h1, h2, hB, hW3⟩ hlt
    have hle : (slotL s n x.val).length ≤ 2056 := by
      rcases hz with h | h
      · exact Nat.le_trans (by simp only [slotL, List.length_take]; omega) h
      · omega
    have hpl := tcnt_le (fun i => P (slotL s n i)) (pre.map Fin.val)
    rw [List.length_map] at hpl
    have hxl : x.val ≤ 1000000 := by have := x.isLt; omega
    have HX := Lib.hid (show tcnt (fun i => P (slotL s n i)) ((pre ++ [x]).map Fin.val) = tcnt (fun i => P (slotL s n i)) (pre.map Fin.val) + (if P (slotL s n x.val) = true then 1 else 0) by simp [tcnt, List.filter_append, List.filter_cons]; split <;> simp)
    have HY := Lib.hid (show tend (fun i => P (slotL s n i)) ((pre ++ [x]).map Fin.val) = (if P (slotL s n x.val) = true then x.val + 1 else tend (fun i => P (slotL s n i)) (pre.map Fin.val)) by simp [tend])
    generalize slotL s n x.val = t at *
    generalize tcnt (fun i => P (slotL s n i)) (pre.map Fin.val) = c at *
    generalize tend (fun i => P (slotL s n i)) (pre.map Fin.val) = d at *
    generalize x.val = xv at *
    have c1 := Boxed.cell h1
    have hcf : ∀ (args : Array Value) (w : World), (callFunc fs args).run Tryz.prog w = .ok (.enter fs args) w := hen
    cases hP : P t with
    | false =>
      rw [hP] at HX HY
      have HP := Lib.hid hP
      clear hP
      gi_wp2_with (refine ⟨trivial, ((callsIn_wide.2 (hsuch t _ hle)).inRound l).mono ?_⟩; rintro e W2 ⟨rfl, hb2⟩; rw [HP.out])
      refine ⟨(keepsOthers_below hb2).from _, ⟨cell_of_block (hb2.block _ (by omega)), cell_of_block (hb2.block _ (by omega))⟩, ?_, (hb2.block _ (by omega)).trans h1, (hb2.block _ (by omega)).trans h2, hB.trans (hb2.mono (Nat.le_of_lt (by have := hB.size; omega))), Nat.le_trans hW3 hb2.size⟩
      rw [HX.out, HY.out]
      exact (hb2.block g (by omega)).trans hT
    | true =>
      rw [hP] at HX HY
      have HP := Lib.hid hP
      clear hP
      gi_wp2_with (first
        | (refine ⟨trivial, ((callsIn_wide.2 (hsuch t _ hle)).inRound l).mono ?_⟩; rintro e W2 ⟨rfl, hb2⟩; rw [HP.out]; have hT2 : Tally W2 g c d := (hb2.block g (by omega)).trans hT; have k2 := Boxed.cell (boxed_below h2 hb2))
        | (refine ⟨trivial, ((callsIn_wide.2 (add_tally g c d xv W2 hT2 (by omega) (by omega))).inRound l).mono ?_⟩; rintro e W3 ⟨⟨v9, rfl⟩, hT3, hk3, hbl3, hb3⟩))
      have hs3 := hk3.size
      refine ⟨((keepsOthers_below hb2).trans hk3).from _, ⟨cell_of_block ((hbl3 _ (by omega)).trans (hb2.block _ (by omega))), cell_of_block ((hbl3 _ (by omega)).trans (hb2.block _ (by omega)))⟩, ?_, ((hbl3 _ (by omega)).trans (hb2.block _ (by omega))).trans h1, ((hbl3 _ (by omega)).trans (hb2.block _ (by omega))).trans h2, (hB.trans (hb2.mono (Nat.le_of_lt (by have := hB.size; omega)))).trans hb3, Nat.le_trans hW3 (Nat.le_trans hb2.size hs3)⟩
      rw [HX.out, HY.out]
      exact hT3
  case done =>
    rintro D ys W hD hys ⟨hT, h1, h2, hB, hW3⟩ hK
    rw [hys] at hT
    gi_wp2
    refine ⟨by simp, .inl ⟨_, _, rfl, run_takeDeferred hK, ?_⟩⟩
    have hDg : D ≠ g := by simp at hD; omega
    exact ⟨_, results_none rfl _ _ _, ⟨_, rfl⟩, (World.putObj_heap_other hDg.symm).trans hT, hB.trans (belowK_b (w := w) (n₀ := g) (Nat.le_of_lt hgs) W D _ _ (by simp at hD; omega) hK rfl rfl)⟩
  case stop =>
    rintro D c pre W _ _ h _
    exact h.elim
end Go.Proofs.YtipiioggdalkoaaGreatDoor
end
