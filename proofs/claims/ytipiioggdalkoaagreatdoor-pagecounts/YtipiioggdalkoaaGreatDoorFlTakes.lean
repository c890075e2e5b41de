/- Contract of flash.take. -/
import Derived.Test.YtipiioggdalkoaaGreatDoorFlTake
import Derived.Handy
namespace Go.Proofs.YtipiioggdalkoaaGreatDoor
open Go.RowKit
set_option linter.unusedVariables false
set_option linter.unusedSimpArgs false
attribute [local irreducible] set5

/-- A fact that the walk does not look at. -/
structure Kept (p : Prop) : Prop where
  out : p
theorem has_facts (F : Fl) (k : Nat) (h : hasB F (k : Int) = true) : k < F.pages.length ∧ F.pages.length ≤ 6 ∧ F.wear.length = F.pages.length ∧ F.torn.length ≤ 64 ∧ (∀ x ∈ F.pages, 1 ≤ x.length ∧ x.length ≤ 8192 ∧ x.length = (F.pages.headD []).length) ∧ ∀ x ∈ F.wear, 0 ≤ x ∧ x ≤ 2147483647 := by
  unfold hasB mayB oneSize okWear at h
  simp only [Bool.and_eq_true, decide_eq_true_eq, List.all_eq_true] at h
  obtain ⟨⟨⟨⟨⟨⟨h1, h2⟩, ⟨⟨h3, h4⟩, h5⟩⟩, h6, h7⟩, h8⟩, h9⟩, h10⟩ := h
  refine ⟨by omega, by omega, h6, by omega, fun x hx => ?_, fun x hx => h7 x hx⟩
  have := h5 x hx
  omega
/-- Where a device is copied first. -/
theorem ti_start (F : Fl) (w w1 : World) (vp vw vp' vw' : Value) (hp : isCells (F.pages.map strC) vp w) (hq : isCells (F.wear.map intC) vw w)
    (hb1 : Below (((w.alloc (.cells #[vp, vw, .int .i64 F.fuse, strC F.torn, .bool F.dead] 31)).alloc (.cells #[.slice none 0 0, .slice none 0 0, .int .i64 0, .string ⟨#[]⟩, .bool false] 31))).heap.size ((w.alloc (.cells #[vp, vw, .int .i64 F.fuse, strC F.torn, .bool F.dead] 31)).alloc (.cells #[.slice none 0 0, .slice none 0 0, .int .i64 0, .string ⟨#[]⟩, .bool false] 31)) w1)
    (ho1 : isOwn ((w.alloc (.cells #[vp, vw, .int .i64 F.fuse, strC F.torn, .bool F.dead] 31)).alloc (.cells #[.slice none 0 0, .slice none 0 0, .int .i64 0, .string ⟨#[]⟩, .bool false] 31)).heap.size 9 (F.pages.map strC) vp' w1)
    (ho2 : isOwn ((w.alloc (.cells #[vp, vw, .int .i64 F.fuse, strC F.torn, .bool F.dead] 31)).alloc (.cells #[.slice none 0 0, .slice none 0 0, .int .i64 0, .string ⟨#[]⟩, .bool false] 31)).heap.size 3 (F.wear.map intC) vw' w1) :
    TI w (set5 (w1.alloc (.cells #[.slice none 0 0, .slice none 0 0, .int .i64 0, .string ⟨#[]⟩, .bool false] 31)) w1.heap.size vp' vw' (.int .i64 F.fuse) (strC F.torn) (.bool F.dead)) (w.heap.size + 2) w1.heap.size w.heap.size (w.heap.size + 1) w1.heap.size F F vp vw vp' vw' := by
  have hb0 : Below w.heap.size w ((w.alloc (.cells #[vp, vw, .int .i64 F.fuse, strC F.torn, .bool F.dead] 31)).alloc (.cells #[.slice none 0 0, .slice none 0 0, .int .i64 0, .string ⟨#[]⟩, .bool false] 31)) := ((Below.refl _ _).alloc (Nat.le_refl _) _).alloc (by simp) _
  have hbn := (Below.refl (w.alloc (.cells #[vp, vw, .int .i64 F.fuse, strC F.torn, .bool F.dead] 31)).heap.size (w.alloc (.cells #[vp, vw, .int .i64 F.fuse, strC F.torn, .bool F.dead] 31))).alloc (Nat.le_refl _) (.cells #[.slice none 0 0, .slice none 0 0, .int .i64 0, .string ⟨#[]⟩, .bool false] 31)
  have hbz := (Below.refl w1.heap.size w1).alloc (Nat.le_refl _) (.cells #[.slice none 0 0, .slice none 0 0, .int .i64 0, .string ⟨#[]⟩, .bool false] 31)
  have hs1 : w.heap.size + 2 ≤ w1.heap.size := by have := hb1.size; simp at this; omega
  have hsz : ((w.alloc (.cells #[vp, vw, .int .i64 F.fuse, strC F.torn, .bool F.dead] 31)).alloc (.cells #[.slice none 0 0, .slice none 0 0, .int .i64 0, .string ⟨#[]⟩, .bool false] 31)).heap.size = w.heap.size + 2 := by simp
  have c3 := (((cells5_new w 31 vp vw (.int .i64 F.fuse) (strC F.torn) (.bool F.dead)).keep hbn (by simp)).keep hb1 (by simp <;> omega)).keep hbz (by omega)
  have c6 := ((cells5_at (w.alloc (.cells #[vp, vw, .int .i64 F.fuse, strC F.torn, .bool F.dead] 31)) 31 (.slice none 0 0) (.slice none 0 0) (.int .i64 0) (.string ⟨#[]⟩) (.bool false) (w.heap.size + 1) (by simp)).keep hb1 (by simp <;> omega)).keep hbz (by omega)
  have f6 := ((free5_at (w.alloc (.cells #[vp, vw, .int .i64 F.fuse, strC F.torn, .bool F.dead] 31)) #[.slice none 0 0, .slice none 0 0, .int .i64 0, .string ⟨#[]⟩, .bool false] 31 (w.heap.size + 1) (by simp)).keep hb1 (by simp <;> omega)).keep hbz (by omega)
  have c8 := (cells5_new w1 31 (.slice none 0 0) (.slice none 0 0) (.int .i64 0) (.string ⟨#[]⟩) (.bool false))
  have f8 := free5_new w1 #[.slice none 0 0, .slice none 0 0, .int .i64 0, .string ⟨#[]⟩, .bool false] 31
  rw [hsz] at ho1 ho2
  have hbt : ∀ {e : TypeId} {cs : List Value} {v : Value}, isOwn (w.heap.size + 2) e cs v w1 → isBtw (w.heap.size + 2) w1.heap.size e cs v (set5 (w1.alloc (.cells #[.slice none 0 0, .slice none 0 0, .int .i64 0, .string ⟨#[]⟩, .bool false] 31)) w1.heap.size vp' vw' (.int .i64 F.fuse) (strC F.torn) (.bool F.dead)) := by
    intro e cs v h
    have h' := (isBtw_own h).grow hbz
    unfold set5
    exact ((((h'.out (p := ⟨w1.heap.size, 0, none⟩) (.inr (Nat.le_refl _)) _).out (p := ⟨w1.heap.size, 1, none⟩) (.inr (Nat.le_refl _)) _).out (p := ⟨w1.heap.size, 2, none⟩) (.inr (Nat.le_refl _)) _).out (p := ⟨w1.heap.size, 3, none⟩) (.inr (Nat.le_refl _)) _).out (p := ⟨w1.heap.size, 4, none⟩) (.inr (Nat.le_refl _)) _
  exact {
    below := below_set5 ((hb0.trans (hb1.mono hb0.size)).alloc (by omega) _) (by omega) _ _ _ _ _
    o3 := ⟨Nat.le_refl _, by omega⟩
    o6 := ⟨by omega, by omega⟩
    o36 := by omega
    o8 := ⟨by omega, hs1, Nat.le_refl _⟩
    c3 := c3.apart5 _ _ _ _ _ (by omega)
    c6 := ⟨_, _, _, _, _, c6.apart5 _ _ _ _ _ (by omega)⟩
    f6 := f6.set5_ _ _ _ _ _ _
    c8 := c8.set5_ _ _ _ _ _
    f8 := f8.set5_ _ _ _ _ _ _
    p := hp
    q := hq
    p' := hbt ho1
    q' := hbt ho2 }
theorem ti_end {w0 W : World} {lo hi g3 g6 g8 : Nat} {F G : Fl} {vp vw vp' vw' : Value} (h : TI w0 W lo hi g3 g6 g8 F G vp vw vp' vw') :
    isFlN w0.heap.size G (.agg #[vp', vw', .int .i64 G.fuse, strC G.torn, .bool G.dead]) (set5 W g6 vp' vw' (.int .i64 G.fuse) (strC G.torn) (.bool G.dead)) ∧ Below w0.heap.size w0 (set5 W g6 vp' vw' (.int .i64 G.fuse) (strC G.torn) (.bool G.dead)) ∧
      Cells5 (set5 W g6 vp' vw' (.int .i64 G.fuse) (strC G.torn) (.bool G.dead)) g6 vp' vw' (.int .i64 G.fuse) (strC G.torn) (.bool G.dead) := by
  have o6 := h.o6
  obtain ⟨o0, o1, o2, o3, o4, c6⟩ := h.c6
  have hbt : ∀ {e : TypeId} {cs : List Value} {v : Value}, isBtw lo hi e cs v W → isBtw lo hi e cs v (set5 W g6 vp' vw' (.int .i64 G.fuse) (strC G.torn) (.bool G.dead)) := by
    intro e cs v h'
    unfold set5
    exact ((((h'.out (p := ⟨g6, 0, none⟩) (.inl o6.2) _).out (p := ⟨g6, 1, none⟩) (.inl o6.2) _).out (p := ⟨g6, 2, none⟩) (.inl o6.2) _).out (p := ⟨g6, 3, none⟩) (.inl o6.2) _).out (p := ⟨g6, 4, none⟩) (.inl o6.2) _
  have o8 := h.o8
  have hs8 := h.c8.1
  exact ⟨⟨vp', vw', rfl, (hbt h.p').weak (by omega) (by rw [size_set5]; omega), (hbt h.q').weak (by omega) (by rw [size_set5]; omega)⟩, below_set5 h.below o6.1 _ _ _ _ _, c6.set5_ _ _ _ _ _⟩

set_option maxRecDepth 100000 in
set_option maxHeartbeats 2000000 in
theorem take_eno (F : Fl) (v : Value) (w : World) (hv : isFl F v w) (h1 : F.pages.length ≤ 1000000) (h2 : F.wear.length ≤ 1000000) (page : Int) (hhas : hasB F page = false) :
    Calls Tryz.prog 54 #[v, .int .i64 page, (.iface 64 (.agg #[]))] w fun e w' => ∃ v', e = .returned (.tuple #[v', .int .i64 1]) ∧ isFlN w.heap.size F v' w' ∧ Below w.heap.size w w' := by
  obtain ⟨vp, vw, rfl, hp, hq⟩ := hv
  have hb0 : Below w.heap.size w ((w.alloc (.cells #[vp, vw, .int .i64 F.fuse, strC F.torn, .bool F.dead] 31)).alloc (.cells #[.slice none 0 0, .slice none 0 0, .int .i64 0, .string ⟨#[]⟩, .bool false] 31)) := ((Below.refl _ _).alloc (Nat.le_refl _) _).alloc (by simp) _
  have HP := Lib.hid hp
  have HQ := Lib.hid hq
  have HB0 := Lib.hid hb0
  clear hp hq hb0
  go_enter Tryz.func54, Tryz.ntmps54
  go_wp2_with fail
  refine (copied_any F _ _ ⟨vp, vw, rfl, stable_cells _ _ _ _ HP.out HB0.out, stable_cells _ _ _ _ HQ.out HB0.out⟩ (by omega) (by omega)).mono ?_
  rintro e w1 ⟨vp', vw', rfl, ho1, ho2, hb1⟩
  have TI0 := Lib.hid (ti_start F w w1 vp vw vp' vw' HP.out HQ.out hb1 ho1 ho2)
  have HC8 := Lib.hid (cells5_new w1 31 (.slice none 0 0) (.slice none 0 0) (.int .i64 0) (.string ⟨#[]⟩) (.bool false))
  have HF8 := Lib.hid (free5_new w1 #[.slice none 0 0, .slice none 0 0, .int .i64 0, .string ⟨#[]⟩, .bool false] 31)
  have oo1 := (ho1.one).2
  have oo2 := (ho2.one).2
  clear ho1 ho2 hb1 HB0
  go_wp2_with (refine wpList_store5 rfl (.tmp 8) (.tmp 12) rfl w1.heap.size vp' vw' (.int .i64 F.fuse) (strC F.torn) (.bool F.dead) rfl rfl HC8.out HF8.out oo1 oo2 rfl rfl rfl ?_)
  have T := TI0.out
  clear TI0 HC8 HF8
  generalize set5 (w1.alloc (.cells #[.slice none 0 0, .slice none 0 0, .int .i64 0, .string ⟨#[]⟩, .bool false] 31)) w1.heap.size vp' vw' (.int .i64 F.fuse) (strC F.torn) (.bool F.dead) = W at *
  generalize w1.heap.size = g8 at *
  refine take2_eno _ _ _ rfl w.heap.size F vp vw page rfl rfl rfl T.c3 T.fl (by omega) (by omega) hhas ?_
  intro act W2 hdf hsz hkeep hn30 hbT
  have hk1 : act.tmps.getD 1 undef = (.int .i64 page) := hkeep 1 (by kernel_rfl)
  have hk2 : act.tmps.getD 2 undef = (.iface 64 (.agg #[])) := hkeep 2 (by kernel_rfl)
  have hk3 : act.tmps.getD 3 undef = (.pointer (some ⟨w.heap.size, 0, none⟩)) := hkeep 3 (by kernel_rfl)
  have hk6 : act.tmps.getD 6 undef = (.pointer (some ⟨w.heap.size + 1, 0, none⟩)) := hkeep 6 (by kernel_rfl)
  have hk8 : act.tmps.getD 8 undef = (.pointer (some ⟨g8, 0, none⟩)) := hkeep 8 (by kernel_rfl)
  obtain ⟨tm, df⟩ := act
  obtain rfl : df = [] := hdf
  clear hkeep
  obtain ⟨f, rfl, hk1, hk2, hk3, hk6, hk8, hn30⟩ : ∃ f : Nat → Value, tm = ((List.range 84).map f).toArray ∧ f 1 = (.int .i64 page) ∧ f 2 = (.iface 64 (.agg #[])) ∧ f 3 = (.pointer (some ⟨w.heap.size, 0, none⟩)) ∧ f 6 = (.pointer (some ⟨w.heap.size + 1, 0, none⟩)) ∧ f 8 = (.pointer (some ⟨g8, 0, none⟩)) ∧ f 30 = (.bool true) := ⟨fun i => tm.getD i undef, arr_eta tm hsz, hk1, hk2, hk3, hk6, hk8, hn30⟩
  rewrite [show ((List.range 84).map f).toArray = #[f 0, f 1, f 2, f 3, f 4, f 5, f 6, f 7, f 8, f 9, f 10, f 11, f 12, f 13, f 14, f 15, f 16, f 17, f 18, f 19, f 20, f 21, f 22, f 23, f 24, f 25, f 26, f 27, f 28, f 29, f 30, f 31, f 32, f 33, f 34, f 35, f 36, f 37, f 38, f 39, f 40, f 41, f 42, f 43, f 44, f 45, f 46, f 47, f 48, f 49, f 50, f 51, f 52, f 53, f 54, f 55, f 56, f 57, f 58, f 59, f 60, f 61, f 62, f 63, f 64, f 65, f 66, f 67, f 68, f 69, f 70, f 71, f 72, f 73, f 74, f 75, f 76, f 77, f 78, f 79, f 80, f 81, f 82, f 83] from rfl]
  rewrite [hk1, hk2, hk3, hk6, hk8, hn30]
  dsimp only
  clear hsz hk1 hk2 hk3 hk6 hk8 hn30
  replace T := T.grow hbT
  clear hbT
  obtain ⟨o0, o1, o2, o3, o4, c6⟩ := T.c6
  have HC6 := Kept.mk c6
  have HF6 := Kept.mk T.f6
  obtain ⟨hfl, hB5, hr5⟩ := ti_end T
  have HFL := Kept.mk hfl
  have HR5 := Kept.mk hr5
  obtain ⟨_, k0, k1, k2, k3, k4⟩ := T.c8
  clear T c6 hfl hr5
  go_wp2_with (refine wpList_store5 rfl (.tmp 6) (.tmp 31) rfl (w.heap.size + 1) _ _ _ _ _ rfl rfl HC6.out HF6.out oo1 oo2 rfl rfl rfl ?_)
  exact bodyPost_ret (results2 rfl _ _ (w.heap.size + 1) _ _ _ _ _ (.int .i64 1) rfl rfl HR5.out) rfl ⟨_, rfl, HFL.out, hB5⟩

set_option maxRecDepth 100000 in
set_option maxHeartbeats 2000000 in
theorem take_pno (F : Fl) (v : Value) (w : World) (hv : isFl F v w) (h1 : F.pages.length ≤ 1000000) (h2 : F.wear.length ≤ 1000000) (at_ : Int) (s : List UInt8) (hs : s.length ≤ 1000000) (page : Int) (hhas : hasB F page = false) :
    Calls Tryz.prog 54 #[v, .int .i64 page, (.iface 77 (.agg #[.int .i64 at_, .string ⟨s.toArray⟩]))] w fun e w' => ∃ v', e = .returned (.tuple #[v', .int .i64 1]) ∧ isFlN w.heap.size F v' w' ∧ Below w.heap.size w w' := by
  obtain ⟨vp, vw, rfl, hp, hq⟩ := hv
  have hb0 : Below w.heap.size w ((w.alloc (.cells #[vp, vw, .int .i64 F.fuse, strC F.torn, .bool F.dead] 31)).alloc (.cells #[.slice none 0 0, .slice none 0 0, .int .i64 0, .string ⟨#[]⟩, .bool false] 31)) := ((Below.refl _ _).alloc (Nat.le_refl _) _).alloc (by simp) _
  have HP := Lib.hid hp
  have HQ := Lib.hid hq
  have HB0 := Lib.hid hb0
  clear hp hq hb0
  go_enter Tryz.func54, Tryz.ntmps54
  go_wp2_with fail
  refine (copied_any F _ _ ⟨vp, vw, rfl, stable_cells _ _ _ _ HP.out HB0.out, stable_cells _ _ _ _ HQ.out HB0.out⟩ (by omega) (by omega)).mono ?_
  rintro e w1 ⟨vp', vw', rfl, ho1, ho2, hb1⟩
  have TI0 := Lib.hid (ti_start F w w1 vp vw vp' vw' HP.out HQ.out hb1 ho1 ho2)
  have HC8 := Lib.hid (cells5_new w1 31 (.slice none 0 0) (.slice none 0 0) (.int .i64 0) (.string ⟨#[]⟩) (.bool false))
  have HF8 := Lib.hid (free5_new w1 #[.slice none 0 0, .slice none 0 0, .int .i64 0, .string ⟨#[]⟩, .bool false] 31)
  have oo1 := (ho1.one).2
  have oo2 := (ho2.one).2
  clear ho1 ho2 hb1 HB0
  go_wp2_with (refine wpList_store5 rfl (.tmp 8) (.tmp 12) rfl w1.heap.size vp' vw' (.int .i64 F.fuse) (strC F.torn) (.bool F.dead) rfl rfl HC8.out HF8.out oo1 oo2 rfl rfl rfl ?_)
  have T := TI0.out
  clear TI0 HC8 HF8
  generalize set5 (w1.alloc (.cells #[.slice none 0 0, .slice none 0 0, .int .i64 0, .string ⟨#[]⟩, .bool false] 31)) w1.heap.size vp' vw' (.int .i64 F.fuse) (strC F.torn) (.bool F.dead) = W at *
  generalize w1.heap.size = g8 at *
  refine take2_pno _ _ _ rfl w.heap.size F vp vw at_ s hs page rfl rfl rfl T.c3 T.fl (by omega) (by omega) hhas ?_
  intro act W2 hdf hsz hkeep hn30 hbT
  have hk1 : act.tmps.getD 1 undef = (.int .i64 page) := hkeep 1 (by kernel_rfl)
  have hk2 : act.tmps.getD 2 undef = (.iface 77 (.agg #[.int .i64 at_, .string ⟨s.toArray⟩])) := hkeep 2 (by kernel_rfl)
  have hk3 : act.tmps.getD 3 undef = (.pointer (some ⟨w.heap.size, 0, none⟩)) := hkeep 3 (by kernel_rfl)
  have hk6 : act.tmps.getD 6 undef = (.pointer (some ⟨w.heap.size + 1, 0, none⟩)) := hkeep 6 (by kernel_rfl)
  have hk8 : act.tmps.getD 8 undef = (.pointer (some ⟨g8, 0, none⟩)) := hkeep 8 (by kernel_rfl)
  obtain ⟨tm, df⟩ := act
  obtain rfl : df = [] := hdf
  clear hkeep
  obtain ⟨f, rfl, hk1, hk2, hk3, hk6, hk8, hn30⟩ : ∃ f : Nat → Value, tm = ((List.range 84).map f).toArray ∧ f 1 = (.int .i64 page) ∧ f 2 = (.iface 77 (.agg #[.int .i64 at_, .string ⟨s.toArray⟩])) ∧ f 3 = (.pointer (some ⟨w.heap.size, 0, none⟩)) ∧ f 6 = (.pointer (some ⟨w.heap.size + 1, 0, none⟩)) ∧ f 8 = (.pointer (some ⟨g8, 0, none⟩)) ∧ f 30 = (.bool true) := ⟨fun i => tm.getD i undef, arr_eta tm hsz, hk1, hk2, hk3, hk6, hk8, hn30⟩
  rewrite [show ((List.range 84).map f).toArray = #[f 0, f 1, f 2, f 3, f 4, f 5, f 6, f 7, f 8, f 9, f 10, f 11, f 12, f 13, f 14, f 15, f 16, f 17, f 18, f 19, f 20, f 21, f 22, f 23, f 24, f 25, f 26, f 27, f 28, f 29, f 30, f 31, f 32, f 33, f 34, f 35, f 36, f 37, f 38, f 39, f 40, f 41, f 42, f 43, f 44, f 45, f 46, f 47, f 48, f 49, f 50, f 51, f 52, f 53, f 54, f 55, f 56, f 57, f 58, f 59, f 60, f 61, f 62, f 63, f 64, f 65, f 66, f 67, f 68, f 69, f 70, f 71, f 72, f 73, f 74, f 75, f 76, f 77, f 78, f 79, f 80, f 81, f 82, f 83] from rfl]
  rewrite [hk1, hk2, hk3, hk6, hk8, hn30]
  dsimp only
  clear hsz hk1 hk2 hk3 hk6 hk8 hn30
  replace T := T.grow hbT
  clear hbT
  obtain ⟨o0, o1, o2, o3, o4, c6⟩ := T.c6
  have HC6 := Kept.mk c6
  have HF6 := Kept.mk T.f6
  obtain ⟨hfl, hB5, hr5⟩ := ti_end T
  have HFL := Kept.mk hfl
  have HR5 := Kept.mk hr5
  obtain ⟨_, k0, k1, k2, k3, k4⟩ := T.c8
  clear T c6 hfl hr5
  go_wp2_with (refine wpList_store5 rfl (.tmp 6) (.tmp 31) rfl (w.heap.size + 1) _ _ _ _ _ rfl rfl HC6.out HF6.out oo1 oo2 rfl rfl rfl ?_)
  exact bodyPost_ret (results2 rfl _ _ (w.heap.size + 1) _ _ _ _ _ (.int .i64 1) rfl rfl HR5.out) rfl ⟨_, rfl, HFL.out, hB5⟩

set_option maxRecDepth 100000 in
set_option maxHeartbeats 2000000 in
theorem take_edead (F : Fl) (v : Value) (w : World) (hv : isFl F v w) (k : Nat) (hdead : F.dead = true) (hhas : hasB F (k : Int) = true) :
    Calls Tryz.prog 54 #[v, .int .i64 (k : Int), (.iface 64 (.agg #[]))] w fun e w' => ∃ v', e = .returned (.tuple #[v', .int .i64 8]) ∧ isFlN w.heap.size F v' w' ∧ Below w.heap.size w w' := by
  have HDD := Kept.mk hdead
  clear hdead
  have HHF := Kept.mk (has_facts F k hhas)
  obtain ⟨hk, h6, hwl, htl, hpg, hwr⟩ := HHF.out
  obtain ⟨was, hwas⟩ : ∃ was, F.pages[k]? = some was := ⟨_, List.getElem?_eq_getElem hk⟩
  obtain ⟨wn, hwn⟩ : ∃ wn, F.wear[k]? = some wn := ⟨_, List.getElem?_eq_getElem (by omega)⟩
  have hwm : was.length ≤ 8192 := (hpg _ (List.mem_of_getElem? hwas)).2.1
  have hn01 := hwr wn (List.mem_of_getElem? hwn)
  obtain ⟨vp, vw, rfl, hp, hq⟩ := hv
  obtain ⟨b, off, cap, hvp, hb, hc⟩ := hp.some_ (by rw [List.length_map]; omega)
  obtain ⟨b2, off2, cap2, hvw, hb2, hc2⟩ := hq.some_ (by rw [List.length_map]; omega)
  rw [List.length_map] at hvp hvw
  subst hvp hvw
  have hcell : w.cell? ⟨b, off + k, none⟩ = some (.string ⟨was.toArray⟩) := hc k _ (by simp [hwas, strC])
  have hcell2 : w.cell? ⟨b2, off2 + k, none⟩ = some (.int .i64 wn) := hc2 k _ (by simp [hwn, intC])
  have hkw : k < F.wear.length := by omega
  have hwl6 : F.wear.length ≤ 6 := by omega
  have HWL := Kept.mk hwl
  clear hwl
  have hget1 : F.pages.getD k [] = was := by simp [List.getD_eq_getElem?_getD, hwas]
  have hget2 : F.wear.getD k 0 = wn := by simp [List.getD_eq_getElem?_getD, hwn]
  try rw [hget1]
  try rw [hget2]
  clear hget1 hget2
  have HW := Kept.mk hwas
  have HWN := Kept.mk hwn
  have HC1 := Kept.mk hcell
  have HC2 := Kept.mk hcell2
  have hb0 : Below w.heap.size w ((w.alloc (.cells #[.slice (some ⟨b, off, none⟩) F.pages.length cap, .slice (some ⟨b2, off2, none⟩) F.wear.length cap2, .int .i64 F.fuse, strC F.torn, .bool F.dead] 31)).alloc (.cells #[.slice none 0 0, .slice none 0 0, .int .i64 0, .string ⟨#[]⟩, .bool false] 31)) := ((Below.refl _ _).alloc (Nat.le_refl _) _).alloc (by simp) _
  have HP := Kept.mk hp
  have HQ := Kept.mk hq
  have HB0 := Kept.mk hb0
  clear hp hq hb0 hc hc2 hcell hcell2 hwas hwn hpg hwr
  go_enter Tryz.func54, Tryz.ntmps54
  go_wp2_with fail
  refine (copied_any F _ _ ⟨.slice (some ⟨b, off, none⟩) F.pages.length cap, .slice (some ⟨b2, off2, none⟩) F.wear.length cap2, rfl, stable_cells _ _ _ _ HP.out HB0.out, stable_cells _ _ _ _ HQ.out HB0.out⟩ (by omega) (by omega)).mono ?_
  rintro e w1 ⟨vp', vw', rfl, ho1, ho2, hb1⟩
  have TI0 := Lib.hid (ti_start F w w1 (.slice (some ⟨b, off, none⟩) F.pages.length cap) (.slice (some ⟨b2, off2, none⟩) F.wear.length cap2) vp' vw' HP.out HQ.out hb1 ho1 ho2)
  have HC8 := Lib.hid (cells5_new w1 31 (.slice none 0 0) (.slice none 0 0) (.int .i64 0) (.string ⟨#[]⟩) (.bool false))
  have HF8 := Lib.hid (free5_new w1 #[.slice none 0 0, .slice none 0 0, .int .i64 0, .string ⟨#[]⟩, .bool false] 31)
  have oo1 := (ho1.one).2
  have oo2 := (ho2.one).2
  clear ho1 ho2 hb1 HB0
  go_wp2_with (refine wpList_store5 rfl (.tmp 8) (.tmp 12) rfl w1.heap.size vp' vw' (.int .i64 F.fuse) (strC F.torn) (.bool F.dead) rfl rfl HC8.out HF8.out oo1 oo2 rfl rfl rfl ?_)
  have T := TI0.out
  clear TI0 HC8 HF8
  generalize set5 (w1.alloc (.cells #[.slice none 0 0, .slice none 0 0, .int .i64 0, .string ⟨#[]⟩, .bool false] 31)) w1.heap.size vp' vw' (.int .i64 F.fuse) (strC F.torn) (.bool F.dead) = W at *
  generalize w1.heap.size = g8 at *
  refine take2_eyes _ _ _ rfl w.heap.size F _ k b off F.pages.length cap was hk ((T.below.cell (p := ⟨b, off + k, none⟩) hb).trans HC1.out) (Nat.lt_of_lt_of_le hb T.below.size) (by omega) rfl rfl rfl T.c3 T.fl (by omega) (by omega) hhas ?_
  intro act W2 hdf hsz hkeep hn30 hbT
  have hk1 : act.tmps.getD 1 undef = (.int .i64 (k : Int)) := hkeep 1 (by kernel_rfl)
  have hk2 : act.tmps.getD 2 undef = (.iface 64 (.agg #[])) := hkeep 2 (by kernel_rfl)
  have hk3 : act.tmps.getD 3 undef = (.pointer (some ⟨w.heap.size, 0, none⟩)) := hkeep 3 (by kernel_rfl)
  have hk6 : act.tmps.getD 6 undef = (.pointer (some ⟨w.heap.size + 1, 0, none⟩)) := hkeep 6 (by kernel_rfl)
  have hk8 : act.tmps.getD 8 undef = (.pointer (some ⟨g8, 0, none⟩)) := hkeep 8 (by kernel_rfl)
  obtain ⟨tm, df⟩ := act
  obtain rfl : df = [] := hdf
  clear hkeep
  obtain ⟨f, rfl, hk1, hk2, hk3, hk6, hk8, hn30⟩ : ∃ f : Nat → Value, tm = ((List.range 84).map f).toArray ∧ f 1 = (.int .i64 (k : Int)) ∧ f 2 = (.iface 64 (.agg #[])) ∧ f 3 = (.pointer (some ⟨w.heap.size, 0, none⟩)) ∧ f 6 = (.pointer (some ⟨w.heap.size + 1, 0, none⟩)) ∧ f 8 = (.pointer (some ⟨g8, 0, none⟩)) ∧ f 30 = (.bool false) := ⟨fun i => tm.getD i undef, arr_eta tm hsz, hk1, hk2, hk3, hk6, hk8, hn30⟩
  rewrite [show ((List.range 84).map f).toArray = #[f 0, f 1, f 2, f 3, f 4, f 5, f 6, f 7, f 8, f 9, f 10, f 11, f 12, f 13, f 14, f 15, f 16, f 17, f 18, f 19, f 20, f 21, f 22, f 23, f 24, f 25, f 26, f 27, f 28, f 29, f 30, f 31, f 32, f 33, f 34, f 35, f 36, f 37, f 38, f 39, f 40, f 41, f 42, f 43, f 44, f 45, f 46, f 47, f 48, f 49, f 50, f 51, f 52, f 53, f 54, f 55, f 56, f 57, f 58, f 59, f 60, f 61, f 62, f 63, f 64, f 65, f 66, f 67, f 68, f 69, f 70, f 71, f 72, f 73, f 74, f 75, f 76, f 77, f 78, f 79, f 80, f 81, f 82, f 83] from rfl]
  rewrite [hk1, hk2, hk3, hk6, hk8, hn30]
  dsimp only
  clear hsz hk1 hk2 hk3 hk6 hk8 hn30
  replace T := T.grow hbT
  clear hbT
  have b4 : W2.cell? ⟨w.heap.size, 4, none⟩ = some (.bool true) := by rw [← HDD.out]; exact T.c3.2.2.2.2.2
  obtain ⟨o0, o1, o2, o3, o4, c6⟩ := T.c6
  have HC6 := Kept.mk c6
  have HF6 := Kept.mk T.f6
  obtain ⟨hfl, hB5, hr5⟩ := ti_end T
  have HFL := Kept.mk hfl
  have HR5 := Kept.mk hr5
  obtain ⟨_, k0, k1, k2, k3, k4⟩ := T.c8
  clear T c6 hfl hr5
  go_wp2_with (refine wpList_store5 rfl (.tmp 6) (.tmp 34) rfl (w.heap.size + 1) _ _ _ _ _ rfl rfl HC6.out HF6.out oo1 oo2 rfl rfl rfl ?_)
  exact bodyPost_ret (results2 rfl _ _ (w.heap.size + 1) _ _ _ _ _ (.int .i64 8) rfl rfl HR5.out) rfl ⟨_, rfl, HFL.out, hB5⟩

set_option maxRecDepth 100000 in
set_option maxHeartbeats 2000000 in
theorem take_etorn (F : Fl) (v : Value) (w : World) (hv : isFl F v w) (k : Nat) (hdead : F.dead = false) (hfuse : F.fuse = 0) (hhas : hasB F (k : Int) = true) :
    Calls Tryz.prog 54 #[v, .int .i64 (k : Int), (.iface 64 (.agg #[]))] w fun e w' => ∃ v', e = .returned (.tuple #[v', .int .i64 8]) ∧ isFlN w.heap.size { F with pages := F.pages.set k (betweenL (F.pages.getD k []) (List.replicate (F.pages.getD k []).length 255) F.torn), dead := true } v' w' ∧ Below w.heap.size w w' := by
  have HDD := Kept.mk hdead
  clear hdead
  have HFU := Kept.mk hfuse
  clear hfuse
  have HHF := Kept.mk (has_facts F k hhas)
  obtain ⟨hk, h6, hwl, htl, hpg, hwr⟩ := HHF.out
  obtain ⟨was, hwas⟩ : ∃ was, F.pages[k]? = some was := ⟨_, List.getElem?_eq_getElem hk⟩
  obtain ⟨wn, hwn⟩ : ∃ wn, F.wear[k]? = some wn := ⟨_, List.getElem?_eq_getElem (by omega)⟩
  have hwm : was.length ≤ 8192 := (hpg _ (List.mem_of_getElem? hwas)).2.1
  have hn01 := hwr wn (List.mem_of_getElem? hwn)
  obtain ⟨vp, vw, rfl, hp, hq⟩ := hv
  obtain ⟨b, off, cap, hvp, hb, hc⟩ := hp.some_ (by rw [List.length_map]; omega)
  obtain ⟨b2, off2, cap2, hvw, hb2, hc2⟩ := hq.some_ (by rw [List.length_map]; omega)
  rw [List.length_map] at hvp hvw
  subst hvp hvw
  have hcell : w.cell? ⟨b, off + k, none⟩ = some (.string ⟨was.toArray⟩) := hc k _ (by simp [hwas, strC])
  have hcell2 : w.cell? ⟨b2, off2 + k, none⟩ = some (.int .i64 wn) := hc2 k _ (by simp [hwn, intC])
  have hkw : k < F.wear.length := by omega
  have hwl6 : F.wear.length ≤ 6 := by omega
  have HWL := Kept.mk hwl
  clear hwl
  have hget1 : F.pages.getD k [] = was := by simp [List.getD_eq_getElem?_getD, hwas]
  have hget2 : F.wear.getD k 0 = wn := by simp [List.getD_eq_getElem?_getD, hwn]
  try rw [hget1]
  try rw [hget2]
  clear hget1 hget2
  have HW := Kept.mk hwas
  have HWN := Kept.mk hwn
  have HC1 := Kept.mk hcell
  have HC2 := Kept.mk hcell2
  have hb0 : Below w.heap.size w ((w.alloc (.cells #[.slice (some ⟨b, off, none⟩) F.pages.length cap, .slice (some ⟨b2, off2, none⟩) F.wear.length cap2, .int .i64 F.fuse, strC F.torn, .bool F.dead] 31)).alloc (.cells #[.slice none 0 0, .slice none 0 0, .int .i64 0, .string ⟨#[]⟩, .bool false] 31)) := ((Below.refl _ _).alloc (Nat.le_refl _) _).alloc (by simp) _
  have HP := Kept.mk hp
  have HQ := Kept.mk hq
  have HB0 := Kept.mk hb0
  clear hp hq hb0 hc hc2 hcell hcell2 hwas hwn hpg hwr
  go_enter Tryz.func54, Tryz.ntmps54
  go_wp2_with fail
  refine (copied_any F _ _ ⟨.slice (some ⟨b, off, none⟩) F.pages.length cap, .slice (some ⟨b2, off2, none⟩) F.wear.length cap2, rfl, stable_cells _ _ _ _ HP.out HB0.out, stable_cells _ _ _ _ HQ.out HB0.out⟩ (by omega) (by omega)).mono ?_
  rintro e w1 ⟨vp', vw', rfl, ho1, ho2, hb1⟩
  have TI0 := Lib.hid (ti_start F w w1 (.slice (some ⟨b, off, none⟩) F.pages.length cap) (.slice (some ⟨b2, off2, none⟩) F.wear.length cap2) vp' vw' HP.out HQ.out hb1 ho1 ho2)
  have HC8 := Lib.hid (cells5_new w1 31 (.slice none 0 0) (.slice none 0 0) (.int .i64 0) (.string ⟨#[]⟩) (.bool false))
  have HF8 := Lib.hid (free5_new w1 #[.slice none 0 0, .slice none 0 0, .int .i64 0, .string ⟨#[]⟩, .bool false] 31)
  have oo1 := (ho1.one).2
  have oo2 := (ho2.one).2
  clear ho1 ho2 hb1 HB0
  go_wp2_with (refine wpList_store5 rfl (.tmp 8) (.tmp 12) rfl w1.heap.size vp' vw' (.int .i64 F.fuse) (strC F.torn) (.bool F.dead) rfl rfl HC8.out HF8.out oo1 oo2 rfl rfl rfl ?_)
  have T := TI0.out
  clear TI0 HC8 HF8
  generalize set5 (w1.alloc (.cells #[.slice none 0 0, .slice none 0 0, .int .i64 0, .string ⟨#[]⟩, .bool false] 31)) w1.heap.size vp' vw' (.int .i64 F.fuse) (strC F.torn) (.bool F.dead) = W at *
  generalize w1.heap.size = g8 at *
  refine take2_eyes _ _ _ rfl w.heap.size F _ k b off F.pages.length cap was hk ((T.below.cell (p := ⟨b, off + k, none⟩) hb).trans HC1.out) (Nat.lt_of_lt_of_le hb T.below.size) (by omega) rfl rfl rfl T.c3 T.fl (by omega) (by omega) hhas ?_
  intro act W2 hdf hsz hkeep hn30 hbT
  have hk1 : act.tmps.getD 1 undef = (.int .i64 (k : Int)) := hkeep 1 (by kernel_rfl)
  have hk2 : act.tmps.getD 2 undef = (.iface 64 (.agg #[])) := hkeep 2 (by kernel_rfl)
  have hk3 : act.tmps.getD 3 undef = (.pointer (some ⟨w.heap.size, 0, none⟩)) := hkeep 3 (by kernel_rfl)
  have hk6 : act.tmps.getD 6 undef = (.pointer (some ⟨w.heap.size + 1, 0, none⟩)) := hkeep 6 (by kernel_rfl)
  have hk8 : act.tmps.getD 8 undef = (.pointer (some ⟨g8, 0, none⟩)) := hkeep 8 (by kernel_rfl)
  obtain ⟨tm, df⟩ := act
  obtain rfl : df = [] := hdf
  clear hkeep
  obtain ⟨f, rfl, hk1, hk2, hk3, hk6, hk8, hn30⟩ : ∃ f : Nat → Value, tm = ((List.range 84).map f).toArray ∧ f 1 = (.int .i64 (k : Int)) ∧ f 2 = (.iface 64 (.agg #[])) ∧ f 3 = (.pointer (some ⟨w.heap.size, 0, none⟩)) ∧ f 6 = (.pointer (some ⟨w.heap.size + 1, 0, none⟩)) ∧ f 8 = (.pointer (some ⟨g8, 0, none⟩)) ∧ f 30 = (.bool false) := ⟨fun i => tm.getD i undef, arr_eta tm hsz, hk1, hk2, hk3, hk6, hk8, hn30⟩
  rewrite [show ((List.range 84).map f).toArray = #[f 0, f 1, f 2, f 3, f 4, f 5, f 6, f 7, f 8, f 9, f 10, f 11, f 12, f 13, f 14, f 15, f 16, f 17, f 18, f 19, f 20, f 21, f 22, f 23, f 24, f 25, f 26, f 27, f 28, f 29, f 30, f 31, f 32, f 33, f 34, f 35, f 36, f 37, f 38, f 39, f 40, f 41, f 42, f 43, f 44, f 45, f 46, f 47, f 48, f 49, f 50, f 51, f 52, f 53, f 54, f 55, f 56, f 57, f 58, f 59, f 60, f 61, f 62, f 63, f 64, f 65, f 66, f 67, f 68, f 69, f 70, f 71, f 72, f 73, f 74, f 75, f 76, f 77, f 78, f 79, f 80, f 81, f 82, f 83] from rfl]
  rewrite [hk1, hk2, hk3, hk6, hk8, hn30]
  dsimp only
  clear hsz hk1 hk2 hk3 hk6 hk8 hn30
  replace T := T.grow hbT
  clear hbT
  have b4 : W2.cell? ⟨w.heap.size, 4, none⟩ = some (.bool false) := by rw [← HDD.out]; exact T.c3.2.2.2.2.2
  have b0 := T.c3.2.1
  have bw := (T.below.cell (p := ⟨b, off + k, none⟩) hb).trans HC1.out
  go_wp2_with fail
  refine (ePage_any was _ (by omega)).mono ?_
  rintro e W3 ⟨rfl, hb3⟩
  replace T := T.grow hb3
  clear hb3 b4 b0 bw
  have b2' : W3.cell? ⟨w.heap.size, 2, none⟩ = some (.int .i64 0) := by rw [← HFU.out]; exact T.c3.2.2.2.1
  obtain ⟨gp, capp, _, hvp, _⟩ := T.p'.some_ (by rw [List.length_map]; omega)
  rw [List.length_map] at hvp
  subst hvp
  go_wp2_with fail
  refine take9 _ _ w _ rfl (w.heap.size + 2) g8 w.heap.size (w.heap.size + 1) g8 k gp F.pages.length capp F F _ _ vw' was (List.replicate was.length 255) rfl rfl rfl rfl rfl T hk hk (by omega) (by simp; omega) (by omega) ?_
  clear T b2'
  intro act W4 hdf hsz hkeep T
  have hk1 : act.tmps.getD 1 undef = (.int .i64 (k : Int)) := hkeep 1 (by kernel_rfl)
  have hk2 : act.tmps.getD 2 undef = (.iface 64 (.agg #[])) := hkeep 2 (by kernel_rfl)
  have hk3 : act.tmps.getD 3 undef = (.pointer (some ⟨w.heap.size, 0, none⟩)) := hkeep 3 (by kernel_rfl)
  have hk6 : act.tmps.getD 6 undef = (.pointer (some ⟨w.heap.size + 1, 0, none⟩)) := hkeep 6 (by kernel_rfl)
  have hk8 : act.tmps.getD 8 undef = (.pointer (some ⟨g8, 0, none⟩)) := hkeep 8 (by kernel_rfl)
  obtain ⟨tm, df⟩ := act
  obtain rfl : df = [] := hdf
  clear hkeep
  obtain ⟨f, rfl, hk1, hk2, hk3, hk6, hk8⟩ : ∃ f : Nat → Value, tm = ((List.range 84).map f).toArray ∧ f 1 = (.int .i64 (k : Int)) ∧ f 2 = (.iface 64 (.agg #[])) ∧ f 3 = (.pointer (some ⟨w.heap.size, 0, none⟩)) ∧ f 6 = (.pointer (some ⟨w.heap.size + 1, 0, none⟩)) ∧ f 8 = (.pointer (some ⟨g8, 0, none⟩)) := ⟨fun i => tm.getD i undef, arr_eta tm hsz, hk1, hk2, hk3, hk6, hk8⟩
  rewrite [show ((List.range 84).map f).toArray = #[f 0, f 1, f 2, f 3, f 4, f 5, f 6, f 7, f 8, f 9, f 10, f 11, f 12, f 13, f 14, f 15, f 16, f 17, f 18, f 19, f 20, f 21, f 22, f 23, f 24, f 25, f 26, f 27, f 28, f 29, f 30, f 31, f 32, f 33, f 34, f 35, f 36, f 37, f 38, f 39, f 40, f 41, f 42, f 43, f 44, f 45, f 46, f 47, f 48, f 49, f 50, f 51, f 52, f 53, f 54, f 55, f 56, f 57, f 58, f 59, f 60, f 61, f 62, f 63, f 64, f 65, f 66, f 67, f 68, f 69, f 70, f 71, f 72, f 73, f 74, f 75, f 76, f 77, f 78, f 79, f 80, f 81, f 82, f 83] from rfl]
  rewrite [hk1, hk2, hk3, hk6, hk8]
  dsimp only
  clear hsz hk1 hk2 hk3 hk6 hk8
  obtain ⟨o0, o1, o2, o3, o4, c6⟩ := T.c6
  have HC6 := Kept.mk c6
  have HF6 := Kept.mk T.f6
  obtain ⟨hfl, hB5, hr5⟩ := ti_end T
  have HFL := Kept.mk hfl
  have HR5 := Kept.mk hr5
  obtain ⟨_, k0, k1, k2, k3, k4⟩ := T.c8
  clear T c6 hfl hr5
  go_wp2_with (refine wpList_store5 rfl (.tmp 6) (.tmp 56) rfl (w.heap.size + 1) _ _ _ _ _ rfl rfl HC6.out HF6.out oo1 oo2 rfl rfl rfl ?_)
  exact bodyPost_ret (results2 rfl _ _ (w.heap.size + 1) _ _ _ _ _ (.int .i64 8) rfl rfl HR5.out) rfl ⟨_, rfl, HFL.out, hB5⟩

set_option maxRecDepth 100000 in
set_option maxHeartbeats 2000000 in
theorem take_edone (F : Fl) (v : Value) (w : World) (hv : isFl F v w) (k : Nat) (hdead : F.dead = false) (hfuse : F.fuse < 0) (hhas : hasB F (k : Int) = true) :
    Calls Tryz.prog 54 #[v, .int .i64 (k : Int), (.iface 64 (.agg #[]))] w fun e w' => ∃ v', e = .returned (.tuple #[v', .int .i64 0]) ∧ isFlN w.heap.size { F with pages := F.pages.set k (List.replicate (F.pages.getD k []).length 255), wear := F.wear.set k (wornN (F.wear.getD k 0)) } v' w' ∧ Below w.heap.size w w' := by
  have HDD := Kept.mk hdead
  clear hdead
  have HFU := Kept.mk hfuse
  clear hfuse
  have HHF := Kept.mk (has_facts F k hhas)
  obtain ⟨hk, h6, hwl, htl, hpg, hwr⟩ := HHF.out
  obtain ⟨was, hwas⟩ : ∃ was, F.pages[k]? = some was := ⟨_, List.getElem?_eq_getElem hk⟩
  obtain ⟨wn, hwn⟩ : ∃ wn, F.wear[k]? = some wn := ⟨_, List.getElem?_eq_getElem (by omega)⟩
  have hwm : was.length ≤ 8192 := (hpg _ (List.mem_of_getElem? hwas)).2.1
  have hn01 := hwr wn (List.mem_of_getElem? hwn)
  obtain ⟨vp, vw, rfl, hp, hq⟩ := hv
  obtain ⟨b, off, cap, hvp, hb, hc⟩ := hp.some_ (by rw [List.length_map]; omega)
  obtain ⟨b2, off2, cap2, hvw, hb2, hc2⟩ := hq.some_ (by rw [List.length_map]; omega)
  rw [List.length_map] at hvp hvw
  subst hvp hvw
  have hcell : w.cell? ⟨b, off + k, none⟩ = some (.string ⟨was.toArray⟩) := hc k _ (by simp [hwas, strC])
  have hcell2 : w.cell? ⟨b2, off2 + k, none⟩ = some (.int .i64 wn) := hc2 k _ (by simp [hwn, intC])
  have hkw : k < F.wear.length := by omega
  have hwl6 : F.wear.length ≤ 6 := by omega
  have HWL := Kept.mk hwl
  clear hwl
  have hget1 : F.pages.getD k [] = was := by simp [List.getD_eq_getElem?_getD, hwas]
  have hget2 : F.wear.getD k 0 = wn := by simp [List.getD_eq_getElem?_getD, hwn]
  try rw [hget1]
  try rw [hget2]
  clear hget1 hget2
  have HW := Kept.mk hwas
  have HWN := Kept.mk hwn
  have HC1 := Kept.mk hcell
  have HC2 := Kept.mk hcell2
  have hb0 : Below w.heap.size w ((w.alloc (.cells #[.slice (some ⟨b, off, none⟩) F.pages.length cap, .slice (some ⟨b2, off2, none⟩) F.wear.length cap2, .int .i64 F.fuse, strC F.torn, .bool F.dead] 31)).alloc (.cells #[.slice none 0 0, .slice none 0 0, .int .i64 0, .string ⟨#[]⟩, .bool false] 31)) := ((Below.refl _ _).alloc (Nat.le_refl _) _).alloc (by simp) _
  have HP := Kept.mk hp
  have HQ := Kept.mk hq
  have HB0 := Kept.mk hb0
  clear hp hq hb0 hc hc2 hcell hcell2 hwas hwn hpg hwr
  go_enter Tryz.func54, Tryz.ntmps54
  go_wp2_with fail
  refine (copied_any F _ _ ⟨.slice (some ⟨b, off, none⟩) F.pages.length cap, .slice (some ⟨b2, off2, none⟩) F.wear.length cap2, rfl, stable_cells _ _ _ _ HP.out HB0.out, stable_cells _ _ _ _ HQ.out HB0.out⟩ (by omega) (by omega)).mono ?_
  rintro e w1 ⟨vp', vw', rfl, ho1, ho2, hb1⟩
  have TI0 := Lib.hid (ti_start F w w1 (.slice (some ⟨b, off, none⟩) F.pages.length cap) (.slice (some ⟨b2, off2, none⟩) F.wear.length cap2) vp' vw' HP.out HQ.out hb1 ho1 ho2)
  have HC8 := Lib.hid (cells5_new w1 31 (.slice none 0 0) (.slice none 0 0) (.int .i64 0) (.string ⟨#[]⟩) (.bool false))
  have HF8 := Lib.hid (free5_new w1 #[.slice none 0 0, .slice none 0 0, .int .i64 0, .string ⟨#[]⟩, .bool false] 31)
  have oo1 := (ho1.one).2
  have oo2 := (ho2.one).2
  clear ho1 ho2 hb1 HB0
  go_wp2_with (refine wpList_store5 rfl (.tmp 8) (.tmp 12) rfl w1.heap.size vp' vw' (.int .i64 F.fuse) (strC F.torn) (.bool F.dead) rfl rfl HC8.out HF8.out oo1 oo2 rfl rfl rfl ?_)
  have T := TI0.out
  clear TI0 HC8 HF8
  generalize set5 (w1.alloc (.cells #[.slice none 0 0, .slice none 0 0, .int .i64 0, .string ⟨#[]⟩, .bool false] 31)) w1.heap.size vp' vw' (.int .i64 F.fuse) (strC F.torn) (.bool F.dead) = W at *
  generalize w1.heap.size = g8 at *
  refine take2_eyes _ _ _ rfl w.heap.size F _ k b off F.pages.length cap was hk ((T.below.cell (p := ⟨b, off + k, none⟩) hb).trans HC1.out) (Nat.lt_of_lt_of_le hb T.below.size) (by omega) rfl rfl rfl T.c3 T.fl (by omega) (by omega) hhas ?_
  intro act W2 hdf hsz hkeep hn30 hbT
  have hk1 : act.tmps.getD 1 undef = (.int .i64 (k : Int)) := hkeep 1 (by kernel_rfl)
  have hk2 : act.tmps.getD 2 undef = (.iface 64 (.agg #[])) := hkeep 2 (by kernel_rfl)
  have hk3 : act.tmps.getD 3 undef = (.pointer (some ⟨w.heap.size, 0, none⟩)) := hkeep 3 (by kernel_rfl)
  have hk6 : act.tmps.getD 6 undef = (.pointer (some ⟨w.heap.size + 1, 0, none⟩)) := hkeep 6 (by kernel_rfl)
  have hk8 : act.tmps.getD 8 undef = (.pointer (some ⟨g8, 0, none⟩)) := hkeep 8 (by kernel_rfl)
  obtain ⟨tm, df⟩ := act
  obtain rfl : df = [] := hdf
  clear hkeep
  obtain ⟨f, rfl, hk1, hk2, hk3, hk6, hk8, hn30⟩ : ∃ f : Nat → Value, tm = ((List.range 84).map f).toArray ∧ f 1 = (.int .i64 (k : Int)) ∧ f 2 = (.iface 64 (.agg #[])) ∧ f 3 = (.pointer (some ⟨w.heap.size, 0, none⟩)) ∧ f 6 = (.pointer (some ⟨w.heap.size + 1, 0, none⟩)) ∧ f 8 = (.pointer (some ⟨g8, 0, none⟩)) ∧ f 30 = (.bool false) := ⟨fun i => tm.getD i undef, arr_eta tm hsz, hk1, hk2, hk3, hk6, hk8, hn30⟩
  rewrite [show ((List.range 84).map f).toArray = #[f 0, f 1, f 2, f 3, f 4, f 5, f 6, f 7, f 8, f 9, f 10, f 11, f 12, f 13, f 14, f 15, f 16, f 17, f 18, f 19, f 20, f 21, f 22, f 23, f 24, f 25, f 26, f 27, f 28, f 29, f 30, f 31, f 32, f 33, f 34, f 35, f 36, f 37, f 38, f 39, f 40, f 41, f 42, f 43, f 44, f 45, f 46, f 47, f 48, f 49, f 50, f 51, f 52, f 53, f 54, f 55, f 56, f 57, f 58, f 59, f 60, f 61, f 62, f 63, f 64, f 65, f 66, f 67, f 68, f 69, f 70, f 71, f 72, f 73, f 74, f 75, f 76, f 77, f 78, f 79, f 80, f 81, f 82, f 83] from rfl]
  rewrite [hk1, hk2, hk3, hk6, hk8, hn30]
  dsimp only
  clear hsz hk1 hk2 hk3 hk6 hk8 hn30
  replace T := T.grow hbT
  clear hbT
  have b4 : W2.cell? ⟨w.heap.size, 4, none⟩ = some (.bool false) := by rw [← HDD.out]; exact T.c3.2.2.2.2.2
  have b0 := T.c3.2.1
  have bw := (T.below.cell (p := ⟨b, off + k, none⟩) hb).trans HC1.out
  go_wp2_with fail
  refine (ePage_any was _ (by omega)).mono ?_
  rintro e W3 ⟨rfl, hb3⟩
  replace T := T.grow hb3
  clear hb3 b4 b0 bw
  have b2' : W3.cell? ⟨w.heap.size, 2, none⟩ = some (.int .i64 F.fuse) := T.c3.2.2.2.1
  obtain ⟨gp, capp, _, hvp, _⟩ := T.p'.some_ (by rw [List.length_map]; omega)
  obtain ⟨gw, capw, _, hvw, _⟩ := T.q'.some_ (by rw [List.length_map]; omega)
  rw [List.length_map] at hvp hvw
  subst hvp hvw
  have hf0 : (F.fuse == 0) = false := by have := HFU.out; simp; omega
  go_wp2_with fail
  refine take11_e _ _ w _ rfl (w.heap.size + 2) g8 w.heap.size (w.heap.size + 1) g8 k gp F.pages.length capp gw F.wear.length capw b2 off2 F.wear.length cap2 F F _ (List.replicate was.length 255) wn rfl rfl rfl rfl rfl T hk hk hkw hkw hkw ((T.below.cell (p := ⟨b2, off2 + k, none⟩) hb2).trans HC2.out) hb2 hn01.1 hn01.2 ?_
  clear T b2'
  intro act W4 hdf hsz hkeep T
  have hk1 : act.tmps.getD 1 undef = (.int .i64 (k : Int)) := hkeep 1 (by kernel_rfl)
  have hk2 : act.tmps.getD 2 undef = (.iface 64 (.agg #[])) := hkeep 2 (by kernel_rfl)
  have hk3 : act.tmps.getD 3 undef = (.pointer (some ⟨w.heap.size, 0, none⟩)) := hkeep 3 (by kernel_rfl)
  have hk6 : act.tmps.getD 6 undef = (.pointer (some ⟨w.heap.size + 1, 0, none⟩)) := hkeep 6 (by kernel_rfl)
  have hk8 : act.tmps.getD 8 undef = (.pointer (some ⟨g8, 0, none⟩)) := hkeep 8 (by kernel_rfl)
  obtain ⟨tm, df⟩ := act
  obtain rfl : df = [] := hdf
  clear hkeep
  obtain ⟨f, rfl, hk1, hk2, hk3, hk6, hk8⟩ : ∃ f : Nat → Value, tm = ((List.range 84).map f).toArray ∧ f 1 = (.int .i64 (k : Int)) ∧ f 2 = (.iface 64 (.agg #[])) ∧ f 3 = (.pointer (some ⟨w.heap.size, 0, none⟩)) ∧ f 6 = (.pointer (some ⟨w.heap.size + 1, 0, none⟩)) ∧ f 8 = (.pointer (some ⟨g8, 0, none⟩)) := ⟨fun i => tm.getD i undef, arr_eta tm hsz, hk1, hk2, hk3, hk6, hk8⟩
  rewrite [show ((List.range 84).map f).toArray = #[f 0, f 1, f 2, f 3, f 4, f 5, f 6, f 7, f 8, f 9, f 10, f 11, f 12, f 13, f 14, f 15, f 16, f 17, f 18, f 19, f 20, f 21, f 22, f 23, f 24, f 25, f 26, f 27, f 28, f 29, f 30, f 31, f 32, f 33, f 34, f 35, f 36, f 37, f 38, f 39, f 40, f 41, f 42, f 43, f 44, f 45, f 46, f 47, f 48, f 49, f 50, f 51, f 52, f 53, f 54, f 55, f 56, f 57, f 58, f 59, f 60, f 61, f 62, f 63, f 64, f 65, f 66, f 67, f 68, f 69, f 70, f 71, f 72, f 73, f 74, f 75, f 76, f 77, f 78, f 79, f 80, f 81, f 82, f 83] from rfl]
  rewrite [hk1, hk2, hk3, hk6, hk8]
  dsimp only
  clear hsz hk1 hk2 hk3 hk6 hk8
  have b2' : W4.cell? ⟨w.heap.size, 2, none⟩ = some (.int .i64 F.fuse) := T.c3.2.2.2.1
  have hfd : decide (0 < F.fuse) = false := by have := HFU.out; simp; omega
  obtain ⟨o0, o1, o2, o3, o4, c6⟩ := T.c6
  have HC6 := Kept.mk c6
  have HF6 := Kept.mk T.f6
  obtain ⟨hfl, hB5, hr5⟩ := ti_end T
  have HFL := Kept.mk hfl
  have HR5 := Kept.mk hr5
  obtain ⟨_, k0, k1, k2, k3, k4⟩ := T.c8
  clear T c6 hfl hr5
  go_wp2_with (refine wpList_store5 rfl (.tmp 6) (.tmp 83) rfl (w.heap.size + 1) _ _ _ _ _ rfl rfl HC6.out HF6.out oo1 oo2 rfl rfl rfl ?_)
  exact bodyPost_ret (results2 rfl _ _ (w.heap.size + 1) _ _ _ _ _ (.int .i64 0) rfl rfl HR5.out) rfl ⟨_, rfl, HFL.out, hB5⟩

set_option maxRecDepth 100000 in
set_option maxHeartbeats 2000000 in
theorem take_eburn (F : Fl) (v : Value) (w : World) (hv : isFl F v w) (k : Nat) (hdead : F.dead = false) (hfuse : 0 < F.fuse) (hfz : F.fuse ≤ 9223372036854775807) (hhas : hasB F (k : Int) = true) :
    Calls Tryz.prog 54 #[v, .int .i64 (k : Int), (.iface 64 (.agg #[]))] w fun e w' => ∃ v', e = .returned (.tuple #[v', .int .i64 0]) ∧ isFlN w.heap.size { F with pages := F.pages.set k (List.replicate (F.pages.getD k []).length 255), wear := F.wear.set k (wornN (F.wear.getD k 0)), fuse := F.fuse - 1 } v' w' ∧ Below w.heap.size w w' := by
  have HDD := Kept.mk hdead
  clear hdead
  have HFU := Kept.mk hfuse
  clear hfuse
  have HFZ := Kept.mk hfz
  clear hfz
  have HHF := Kept.mk (has_facts F k hhas)
  obtain ⟨hk, h6, hwl, htl, hpg, hwr⟩ := HHF.out
  obtain ⟨was, hwas⟩ : ∃ was, F.pages[k]? = some was := ⟨_, List.getElem?_eq_getElem hk⟩
  obtain ⟨wn, hwn⟩ : ∃ wn, F.wear[k]? = some wn := ⟨_, List.getElem?_eq_getElem (by omega)⟩
  have hwm : was.length ≤ 8192 := (hpg _ (List.mem_of_getElem? hwas)).2.1
  have hn01 := hwr wn (List.mem_of_getElem? hwn)
  obtain ⟨vp, vw, rfl, hp, hq⟩ := hv
  obtain ⟨b, off, cap, hvp, hb, hc⟩ := hp.some_ (by rw [List.length_map]; omega)
  obtain ⟨b2, off2, cap2, hvw, hb2, hc2⟩ := hq.some_ (by rw [List.length_map]; omega)
  rw [List.length_map] at hvp hvw
  subst hvp hvw
  have hcell : w.cell? ⟨b, off + k, none⟩ = some (.string ⟨was.toArray⟩) := hc k _ (by simp [hwas, strC])
  have hcell2 : w.cell? ⟨b2, off2 + k, none⟩ = some (.int .i64 wn) := hc2 k _ (by simp [hwn, intC])
  have hkw : k < F.wear.length := by omega
  have hwl6 : F.wear.length ≤ 6 := by omega
  have HWL := Kept.mk hwl
  clear hwl
  have hget1 : F.pages.getD k [] = was := by simp [List.getD_eq_getElem?_getD, hwas]
  have hget2 : F.wear.getD k 0 = wn := by simp [List.getD_eq_getElem?_getD, hwn]
  try rw [hget1]
  try rw [hget2]
  clear hget1 hget2
  have HW := Kept.mk hwas
  have HWN := Kept.mk hwn
  have HC1 := Kept.mk hcell
  have HC2 := Kept.mk hcell2
  have hb0 : Below w.heap.size w ((w.alloc (.cells #[.slice (some ⟨b, off, none⟩) F.pages.length cap, .slice (some ⟨b2, off2, none⟩) F.wear.length cap2, .int .i64 F.fuse, strC F.torn, .bool F.dead] 31)).alloc (.cells #[.slice none 0 0, .slice none 0 0, .int .i64 0, .string ⟨#[]⟩, .bool false] 31)) := ((Below.refl _ _).alloc (Nat.le_refl _) _).alloc (by simp) _
  have HP := Kept.mk hp
  have HQ := Kept.mk hq
  have HB0 := Kept.mk hb0
  clear hp hq hb0 hc hc2 hcell hcell2 hwas hwn hpg hwr
  go_enter Tryz.func54, Tryz.ntmps54
  go_wp2_with fail
  refine (copied_any F _ _ ⟨.slice (some ⟨b, off, none⟩) F.pages.length cap, .slice (some ⟨b2, off2, none⟩) F.wear.length cap2, rfl, stable_cells _ _ _ _ HP.out HB0.out, stable_cells _ _ _ _ HQ.out HB0.out⟩ (by omega) (by omega)).mono ?_
  rintro e w1 ⟨vp', vw', rfl, ho1, ho2, hb1⟩
  have TI0 := Lib.hid (ti_start F w w1 (.slice (some ⟨b, off, none⟩) F.pages.length cap) (.slice (some ⟨b2, off2, none⟩) F.wear.length cap2) vp' vw' HP.out HQ.out hb1 ho1 ho2)
  have HC8 := Lib.hid (cells5_new w1 31 (.slice none 0 0) (.slice none 0 0) (.int .i64 0) (.string ⟨#[]⟩) (.bool false))
  have HF8 := Lib.hid (free5_new w1 #[.slice none 0 0, .slice none 0 0, .int .i64 0, .string ⟨#[]⟩, .bool false] 31)
  have oo1 := (ho1.one).2
  have oo2 := (ho2.one).2
  clear ho1 ho2 hb1 HB0
  go_wp2_with (refine wpList_store5 rfl (.tmp 8) (.tmp 12) rfl w1.heap.size vp' vw' (.int .i64 F.fuse) (strC F.torn) (.bool F.dead) rfl rfl HC8.out HF8.out oo1 oo2 rfl rfl rfl ?_)
  have T := TI0.out
  clear TI0 HC8 HF8
  generalize set5 (w1.alloc (.cells #[.slice none 0 0, .slice none 0 0, .int .i64 0, .string ⟨#[]⟩, .bool false] 31)) w1.heap.size vp' vw' (.int .i64 F.fuse) (strC F.torn) (.bool F.dead) = W at *
  generalize w1.heap.size = g8 at *
  refine take2_eyes _ _ _ rfl w.heap.size F _ k b off F.pages.length cap was hk ((T.below.cell (p := ⟨b, off + k, none⟩) hb).trans HC1.out) (Nat.lt_of_lt_of_le hb T.below.size) (by omega) rfl rfl rfl T.c3 T.fl (by omega) (by omega) hhas ?_
  intro act W2 hdf hsz hkeep hn30 hbT
  have hk1 : act.tmps.getD 1 undef = (.int .i64 (k : Int)) := hkeep 1 (by kernel_rfl)
  have hk2 : act.tmps.getD 2 undef = (.iface 64 (.agg #[])) := hkeep 2 (by kernel_rfl)
  have hk3 : act.tmps.getD 3 undef = (.pointer (some ⟨w.heap.size, 0, none⟩)) := hkeep 3 (by kernel_rfl)
  have hk6 : act.tmps.getD 6 undef = (.pointer (some ⟨w.heap.size + 1, 0, none⟩)) := hkeep 6 (by kernel_rfl)
  have hk8 : act.tmps.getD 8 undef = (.pointer (some ⟨g8, 0, none⟩)) := hkeep 8 (by kernel_rfl)
  obtain ⟨tm, df⟩ := act
  obtain rfl : df = [] := hdf
  clear hkeep
  obtain ⟨f, rfl, hk1, hk2, hk3, hk6, hk8, hn30⟩ : ∃ f : Nat → Value, tm = ((List.range 84).map f).toArray ∧ f 1 = (.int .i64 (k : Int)) ∧ f 2 = (.iface 64 (.agg #[])) ∧ f 3 = (.pointer (some ⟨w.heap.size, 0, none⟩)) ∧ f 6 = (.pointer (some ⟨w.heap.size + 1, 0, none⟩)) ∧ f 8 = (.pointer (some ⟨g8, 0, none⟩)) ∧ f 30 = (.bool false) := ⟨fun i => tm.getD i undef, arr_eta tm hsz, hk1, hk2, hk3, hk6, hk8, hn30⟩
  rewrite [show ((List.range 84).map f).toArray = #[f 0, f 1, f 2, f 3, f 4, f 5, f 6, f 7, f 8, f 9, f 10, f 11, f 12, f 13, f 14, f 15, f 16, f 17, f 18, f 19, f 20, f 21, f 22, f 23, f 24, f 25, f 26, f 27, f 28, f 29, f 30, f 31, f 32, f 33, f 34, f 35, f 36, f 37, f 38, f 39, f 40, f 41, f 42, f 43, f 44, f 45, f 46, f 47, f 48, f 49, f 50, f 51, f 52, f 53, f 54, f 55, f 56, f 57, f 58, f 59, f 60, f 61, f 62, f 63, f 64, f 65, f 66, f 67, f 68, f 69, f 70, f 71, f 72, f 73, f 74, f 75, f 76, f 77, f 78, f 79, f 80, f 81, f 82, f 83] from rfl]
  rewrite [hk1, hk2, hk3, hk6, hk8, hn30]
  dsimp only
  clear hsz hk1 hk2 hk3 hk6 hk8 hn30
  replace T := T.grow hbT
  clear hbT
  have b4 : W2.cell? ⟨w.heap.size, 4, none⟩ = some (.bool false) := by rw [← HDD.out]; exact T.c3.2.2.2.2.2
  have b0 := T.c3.2.1
  have bw := (T.below.cell (p := ⟨b, off + k, none⟩) hb).trans HC1.out
  go_wp2_with fail
  refine (ePage_any was _ (by omega)).mono ?_
  rintro e W3 ⟨rfl, hb3⟩
  replace T := T.grow hb3
  clear hb3 b4 b0 bw
  have b2' : W3.cell? ⟨w.heap.size, 2, none⟩ = some (.int .i64 F.fuse) := T.c3.2.2.2.1
  obtain ⟨gp, capp, _, hvp, _⟩ := T.p'.some_ (by rw [List.length_map]; omega)
  obtain ⟨gw, capw, _, hvw, _⟩ := T.q'.some_ (by rw [List.length_map]; omega)
  rw [List.length_map] at hvp hvw
  subst hvp hvw
  have hf0 : (F.fuse == 0) = false := by have := HFU.out; simp; omega
  go_wp2_with fail
  refine take11_e _ _ w _ rfl (w.heap.size + 2) g8 w.heap.size (w.heap.size + 1) g8 k gp F.pages.length capp gw F.wear.length capw b2 off2 F.wear.length cap2 F F _ (List.replicate was.length 255) wn rfl rfl rfl rfl rfl T hk hk hkw hkw hkw ((T.below.cell (p := ⟨b2, off2 + k, none⟩) hb2).trans HC2.out) hb2 hn01.1 hn01.2 ?_
  clear T b2'
  intro act W4 hdf hsz hkeep T
  have hk1 : act.tmps.getD 1 undef = (.int .i64 (k : Int)) := hkeep 1 (by kernel_rfl)
  have hk2 : act.tmps.getD 2 undef = (.iface 64 (.agg #[])) := hkeep 2 (by kernel_rfl)
  have hk3 : act.tmps.getD 3 undef = (.pointer (some ⟨w.heap.size, 0, none⟩)) := hkeep 3 (by kernel_rfl)
  have hk6 : act.tmps.getD 6 undef = (.pointer (some ⟨w.heap.size + 1, 0, none⟩)) := hkeep 6 (by kernel_rfl)
  have hk8 : act.tmps.getD 8 undef = (.pointer (some ⟨g8, 0, none⟩)) := hkeep 8 (by kernel_rfl)
  obtain ⟨tm, df⟩ := act
  obtain rfl : df = [] := hdf
  clear hkeep
  obtain ⟨f, rfl, hk1, hk2, hk3, hk6, hk8⟩ : ∃ f : Nat → Value, tm = ((List.range 84).map f).toArray ∧ f 1 = (.int .i64 (k : Int)) ∧ f 2 = (.iface 64 (.agg #[])) ∧ f 3 = (.pointer (some ⟨w.heap.size, 0, none⟩)) ∧ f 6 = (.pointer (some ⟨w.heap.size + 1, 0, none⟩)) ∧ f 8 = (.pointer (some ⟨g8, 0, none⟩)) := ⟨fun i => tm.getD i undef, arr_eta tm hsz, hk1, hk2, hk3, hk6, hk8⟩
  rewrite [show ((List.range 84).map f).toArray = #[f 0, f 1, f 2, f 3, f 4, f 5, f 6, f 7, f 8, f 9, f 10, f 11, f 12, f 13, f 14, f 15, f 16, f 17, f 18, f 19, f 20, f 21, f 22, f 23, f 24, f 25, f 26, f 27, f 28, f 29, f 30, f 31, f 32, f 33, f 34, f 35, f 36, f 37, f 38, f 39, f 40, f 41, f 42, f 43, f 44, f 45, f 46, f 47, f 48, f 49, f 50, f 51, f 52, f 53, f 54, f 55, f 56, f 57, f 58, f 59, f 60, f 61, f 62, f 63, f 64, f 65, f 66, f 67, f 68, f 69, f 70, f 71, f 72, f 73, f 74, f 75, f 76, f 77, f 78, f 79, f 80, f 81, f 82, f 83] from rfl]
  rewrite [hk1, hk2, hk3, hk6, hk8]
  dsimp only
  clear hsz hk1 hk2 hk3 hk6 hk8
  have b2' : W4.cell? ⟨w.heap.size, 2, none⟩ = some (.int .i64 F.fuse) := T.c3.2.2.2.1
  have hfd : decide (0 < F.fuse) = true := by have := HFU.out; simp; omega
  have hfb := HFZ.out
  have hfb1 := HFU.out
  have k2' : W4.cell? ⟨g8, 2, none⟩ = some (.int .i64 F.fuse) := T.c8.2.2.2.1
  have f2' := T.f8 2
  replace T := T.burn (F.fuse - 1)
  obtain ⟨o0, o1, o2, o3, o4, c6⟩ := T.c6
  have HC6 := Kept.mk c6
  have HF6 := Kept.mk T.f6
  obtain ⟨hfl, hB5, hr5⟩ := ti_end T
  have HFL := Kept.mk hfl
  have HR5 := Kept.mk hr5
  obtain ⟨_, k0, k1, k2, k3, k4⟩ := T.c8
  clear T c6 hfl hr5
  go_wp2_with (refine wpList_store5 rfl (.tmp 6) (.tmp 83) rfl (w.heap.size + 1) _ _ _ _ _ rfl rfl HC6.out HF6.out oo1 oo2 rfl rfl rfl ?_)
  exact bodyPost_ret (results2 rfl _ _ (w.heap.size + 1) _ _ _ _ _ (.int .i64 0) rfl rfl HR5.out) rfl ⟨_, rfl, HFL.out, hB5⟩

set_option maxRecDepth 100000 in
set_option maxHeartbeats 2000000 in
theorem take_pdead (F : Fl) (v : Value) (w : World) (hv : isFl F v w) (k : Nat) (at_ : Nat) (s : List UInt8) (hs : s.length ≤ 1000000) (hat : at_ + s.length ≤ (F.pages.getD k []).length) (hdead : F.dead = true) (hhas : hasB F (k : Int) = true) :
    Calls Tryz.prog 54 #[v, .int .i64 (k : Int), (.iface 77 (.agg #[.int .i64 (at_ : Int), .string ⟨s.toArray⟩]))] w fun e w' => ∃ v', e = .returned (.tuple #[v', .int .i64 8]) ∧ isFlN w.heap.size F v' w' ∧ Below w.heap.size w w' := by
  have HDD := Kept.mk hdead
  clear hdead
  have HHF := Kept.mk (has_facts F k hhas)
  obtain ⟨hk, h6, hwl, htl, hpg, hwr⟩ := HHF.out
  obtain ⟨was, hwas⟩ : ∃ was, F.pages[k]? = some was := ⟨_, List.getElem?_eq_getElem hk⟩
  obtain ⟨wn, hwn⟩ : ∃ wn, F.wear[k]? = some wn := ⟨_, List.getElem?_eq_getElem (by omega)⟩
  have hwm : was.length ≤ 8192 := (hpg _ (List.mem_of_getElem? hwas)).2.1
  have hn01 := hwr wn (List.mem_of_getElem? hwn)
  obtain ⟨vp, vw, rfl, hp, hq⟩ := hv
  obtain ⟨b, off, cap, hvp, hb, hc⟩ := hp.some_ (by rw [List.length_map]; omega)
  obtain ⟨b2, off2, cap2, hvw, hb2, hc2⟩ := hq.some_ (by rw [List.length_map]; omega)
  rw [List.length_map] at hvp hvw
  subst hvp hvw
  have hcell : w.cell? ⟨b, off + k, none⟩ = some (.string ⟨was.toArray⟩) := hc k _ (by simp [hwas, strC])
  have hcell2 : w.cell? ⟨b2, off2 + k, none⟩ = some (.int .i64 wn) := hc2 k _ (by simp [hwn, intC])
  have hkw : k < F.wear.length := by omega
  have hwl6 : F.wear.length ≤ 6 := by omega
  have HWL := Kept.mk hwl
  clear hwl
  have hget1 : F.pages.getD k [] = was := by simp [List.getD_eq_getElem?_getD, hwas]
  have hget2 : F.wear.getD k 0 = wn := by simp [List.getD_eq_getElem?_getD, hwn]
  try rw [hget1]
  try rw [hget2]
  have hatw : at_ + s.length ≤ was.length := by rw [← hget1]; exact hat
  have hfit : (decide (0 ≤ (at_ : Int)) && decide ((at_ : Int) ≤ (was.length : Int) - (s.length : Int))) = true := by simp; omega
  have HFIT := Kept.mk hfit
  clear hget1 hget2 hat hfit
  have HW := Kept.mk hwas
  have HWN := Kept.mk hwn
  have HC1 := Kept.mk hcell
  have HC2 := Kept.mk hcell2
  have hb0 : Below w.heap.size w ((w.alloc (.cells #[.slice (some ⟨b, off, none⟩) F.pages.length cap, .slice (some ⟨b2, off2, none⟩) F.wear.length cap2, .int .i64 F.fuse, strC F.torn, .bool F.dead] 31)).alloc (.cells #[.slice none 0 0, .slice none 0 0, .int .i64 0, .string ⟨#[]⟩, .bool false] 31)) := ((Below.refl _ _).alloc (Nat.le_refl _) _).alloc (by simp) _
  have HP := Kept.mk hp
  have HQ := Kept.mk hq
  have HB0 := Kept.mk hb0
  clear hp hq hb0 hc hc2 hcell hcell2 hwas hwn hpg hwr
  go_enter Tryz.func54, Tryz.ntmps54
  go_wp2_with fail
  refine (copied_any F _ _ ⟨.slice (some ⟨b, off, none⟩) F.pages.length cap, .slice (some ⟨b2, off2, none⟩) F.wear.length cap2, rfl, stable_cells _ _ _ _ HP.out HB0.out, stable_cells _ _ _ _ HQ.out HB0.out⟩ (by omega) (by omega)).mono ?_
  rintro e w1 ⟨vp', vw', rfl, ho1, ho2, hb1⟩
  have TI0 := Lib.hid (ti_start F w w1 (.slice (some ⟨b, off, none⟩) F.pages.length cap) (.slice (some ⟨b2, off2, none⟩) F.wear.length cap2) vp' vw' HP.out HQ.out hb1 ho1 ho2)
  have HC8 := Lib.hid (cells5_new w1 31 (.slice none 0 0) (.slice none 0 0) (.int .i64 0) (.string ⟨#[]⟩) (.bool false))
  have HF8 := Lib.hid (free5_new w1 #[.slice none 0 0, .slice none 0 0, .int .i64 0, .string ⟨#[]⟩, .bool false] 31)
  have oo1 := (ho1.one).2
  have oo2 := (ho2.one).2
  clear ho1 ho2 hb1 HB0
  go_wp2_with (refine wpList_store5 rfl (.tmp 8) (.tmp 12) rfl w1.heap.size vp' vw' (.int .i64 F.fuse) (strC F.torn) (.bool F.dead) rfl rfl HC8.out HF8.out oo1 oo2 rfl rfl rfl ?_)
  have T := TI0.out
  clear TI0 HC8 HF8
  generalize set5 (w1.alloc (.cells #[.slice none 0 0, .slice none 0 0, .int .i64 0, .string ⟨#[]⟩, .bool false] 31)) w1.heap.size vp' vw' (.int .i64 F.fuse) (strC F.torn) (.bool F.dead) = W at *
  generalize w1.heap.size = g8 at *
  refine take2_pyes _ _ _ rfl w.heap.size F _ (at_ : Int) s hs k b off F.pages.length cap was hk ((T.below.cell (p := ⟨b, off + k, none⟩) hb).trans HC1.out) (Nat.lt_of_lt_of_le hb T.below.size) (by omega) HFIT.out rfl rfl rfl T.c3 T.fl (by omega) (by omega) hhas ?_
  intro act W2 hdf hsz hkeep hn30 hbT
  have hk1 : act.tmps.getD 1 undef = (.int .i64 (k : Int)) := hkeep 1 (by kernel_rfl)
  have hk2 : act.tmps.getD 2 undef = (.iface 77 (.agg #[.int .i64 (at_ : Int), .string ⟨s.toArray⟩])) := hkeep 2 (by kernel_rfl)
  have hk3 : act.tmps.getD 3 undef = (.pointer (some ⟨w.heap.size, 0, none⟩)) := hkeep 3 (by kernel_rfl)
  have hk6 : act.tmps.getD 6 undef = (.pointer (some ⟨w.heap.size + 1, 0, none⟩)) := hkeep 6 (by kernel_rfl)
  have hk8 : act.tmps.getD 8 undef = (.pointer (some ⟨g8, 0, none⟩)) := hkeep 8 (by kernel_rfl)
  obtain ⟨tm, df⟩ := act
  obtain rfl : df = [] := hdf
  clear hkeep
  obtain ⟨f, rfl, hk1, hk2, hk3, hk6, hk8, hn30⟩ : ∃ f : Nat → Value, tm = ((List.range 84).map f).toArray ∧ f 1 = (.int .i64 (k : Int)) ∧ f 2 = (.iface 77 (.agg #[.int .i64 (at_ : Int), .string ⟨s.toArray⟩])) ∧ f 3 = (.pointer (some ⟨w.heap.size, 0, none⟩)) ∧ f 6 = (.pointer (some ⟨w.heap.size + 1, 0, none⟩)) ∧ f 8 = (.pointer (some ⟨g8, 0, none⟩)) ∧ f 30 = (.bool false) := ⟨fun i => tm.getD i undef, arr_eta tm hsz, hk1, hk2, hk3, hk6, hk8, hn30⟩
  rewrite [show ((List.range 84).map f).toArray = #[f 0, f 1, f 2, f 3, f 4, f 5, f 6, f 7, f 8, f 9, f 10, f 11, f 12, f 13, f 14, f 15, f 16, f 17, f 18, f 19, f 20, f 21, f 22, f 23, f 24, f 25, f 26, f 27, f 28, f 29, f 30, f 31, f 32, f 33, f 34, f 35, f 36, f 37, f 38, f 39, f 40, f 41, f 42, f 43, f 44, f 45, f 46, f 47, f 48, f 49, f 50, f 51, f 52, f 53, f 54, f 55, f 56, f 57, f 58, f 59, f 60, f 61, f 62, f 63, f 64, f 65, f 66, f 67, f 68, f 69, f 70, f 71, f 72, f 73, f 74, f 75, f 76, f 77, f 78, f 79, f 80, f 81, f 82, f 83] from rfl]
  rewrite [hk1, hk2, hk3, hk6, hk8, hn30]
  dsimp only
  clear hsz hk1 hk2 hk3 hk6 hk8 hn30
  replace T := T.grow hbT
  clear hbT
  have b4 : W2.cell? ⟨w.heap.size, 4, none⟩ = some (.bool true) := by rw [← HDD.out]; exact T.c3.2.2.2.2.2
  obtain ⟨o0, o1, o2, o3, o4, c6⟩ := T.c6
  have HC6 := Kept.mk c6
  have HF6 := Kept.mk T.f6
  obtain ⟨hfl, hB5, hr5⟩ := ti_end T
  have HFL := Kept.mk hfl
  have HR5 := Kept.mk hr5
  obtain ⟨_, k0, k1, k2, k3, k4⟩ := T.c8
  clear T c6 hfl hr5
  go_wp2_with (refine wpList_store5 rfl (.tmp 6) (.tmp 34) rfl (w.heap.size + 1) _ _ _ _ _ rfl rfl HC6.out HF6.out oo1 oo2 rfl rfl rfl ?_)
  exact bodyPost_ret (results2 rfl _ _ (w.heap.size + 1) _ _ _ _ _ (.int .i64 8) rfl rfl HR5.out) rfl ⟨_, rfl, HFL.out, hB5⟩

set_option maxRecDepth 100000 in
set_option maxHeartbeats 2000000 in
theorem take_ptorn (F : Fl) (v : Value) (w : World) (hv : isFl F v w) (k : Nat) (at_ : Nat) (s : List UInt8) (hs : s.length ≤ 1000000) (hat : at_ + s.length ≤ (F.pages.getD k []).length) (hdead : F.dead = false) (hfuse : F.fuse = 0) (hhas : hasB F (k : Int) = true) :
    Calls Tryz.prog 54 #[v, .int .i64 (k : Int), (.iface 77 (.agg #[.int .i64 (at_ : Int), .string ⟨s.toArray⟩]))] w fun e w' => ∃ v', e = .returned (.tuple #[v', .int .i64 8]) ∧ isFlN w.heap.size { F with pages := F.pages.set k (betweenL (F.pages.getD k []) (progL (F.pages.getD k []) at_ s) F.torn), dead := true } v' w' ∧ Below w.heap.size w w' := by
  have HDD := Kept.mk hdead
  clear hdead
  have HFU := Kept.mk hfuse
  clear hfuse
  have HHF := Kept.mk (has_facts F k hhas)
  obtain ⟨hk, h6, hwl, htl, hpg, hwr⟩ := HHF.out
  obtain ⟨was, hwas⟩ : ∃ was, F.pages[k]? = some was := ⟨_, List.getElem?_eq_getElem hk⟩
  obtain ⟨wn, hwn⟩ : ∃ wn, F.wear[k]? = some wn := ⟨_, List.getElem?_eq_getElem (by omega)⟩
  have hwm : was.length ≤ 8192 := (hpg _ (List.mem_of_getElem? hwas)).2.1
  have hn01 := hwr wn (List.mem_of_getElem? hwn)
  obtain ⟨vp, vw, rfl, hp, hq⟩ := hv
  obtain ⟨b, off, cap, hvp, hb, hc⟩ := hp.some_ (by rw [List.length_map]; omega)
  obtain ⟨b2, off2, cap2, hvw, hb2, hc2⟩ := hq.some_ (by rw [List.length_map]; omega)
  rw [List.length_map] at hvp hvw
  subst hvp hvw
  have hcell : w.cell? ⟨b, off + k, none⟩ = some (.string ⟨was.toArray⟩) := hc k _ (by simp [hwas, strC])
  have hcell2 : w.cell? ⟨b2, off2 + k, none⟩ = some (.int .i64 wn) := hc2 k _ (by simp [hwn, intC])
  have hkw : k < F.wear.length := by omega
  have hwl6 : F.wear.length ≤ 6 := by omega
  have HWL := Kept.mk hwl
  clear hwl
  have hget1 : F.pages.getD k [] = was := by simp [List.getD_eq_getElem?_getD, hwas]
  have hget2 : F.wear.getD k 0 = wn := by simp [List.getD_eq_getElem?_getD, hwn]
  try rw [hget1]
  try rw [hget2]
  have hatw : at_ + s.length ≤ was.length := by rw [← hget1]; exact hat
  have hfit : (decide (0 ≤ (at_ : Int)) && decide ((at_ : Int) ≤ (was.length : Int) - (s.length : Int))) = true := by simp; omega
  have HFIT := Kept.mk hfit
  clear hget1 hget2 hat hfit
  have HW := Kept.mk hwas
  have HWN := Kept.mk hwn
  have HC1 := Kept.mk hcell
  have HC2 := Kept.mk hcell2
  have hb0 : Below w.heap.size w ((w.alloc (.cells #[.slice (some ⟨b, off, none⟩) F.pages.length cap, .slice (some ⟨b2, off2, none⟩) F.wear.length cap2, .int .i64 F.fuse, strC F.torn, .bool F.dead] 31)).alloc (.cells #[.slice none 0 0, .slice none 0 0, .int .i64 0, .string ⟨#[]⟩, .bool false] 31)) := ((Below.refl _ _).alloc (Nat.le_refl _) _).alloc (by simp) _
  have HP := Kept.mk hp
  have HQ := Kept.mk hq
  have HB0 := Kept.mk hb0
  clear hp hq hb0 hc hc2 hcell hcell2 hwas hwn hpg hwr
  go_enter Tryz.func54, Tryz.ntmps54
  go_wp2_with fail
  refine (copied_any F _ _ ⟨.slice (some ⟨b, off, none⟩) F.pages.length cap, .slice (some ⟨b2, off2, none⟩) F.wear.length cap2, rfl, stable_cells _ _ _ _ HP.out HB0.out, stable_cells _ _ _ _ HQ.out HB0.out⟩ (by omega) (by omega)).mono ?_
  rintro e w1 ⟨vp', vw', rfl, ho1, ho2, hb1⟩
  have TI0 := Lib.hid (ti_start F w w1 (.slice (some ⟨b, off, none⟩) F.pages.length cap) (.slice (some ⟨b2, off2, none⟩) F.wear.length cap2) vp' vw' HP.out HQ.out hb1 ho1 ho2)
  have HC8 := Lib.hid (cells5_new w1 31 (.slice none 0 0) (.slice none 0 0) (.int .i64 0) (.string ⟨#[]⟩) (.bool false))
  have HF8 := Lib.hid (free5_new w1 #[.slice none 0 0, .slice none 0 0, .int .i64 0, .string ⟨#[]⟩, .bool false] 31)
  have oo1 := (ho1.one).2
  have oo2 := (ho2.one).2
  clear ho1 ho2 hb1 HB0
  go_wp2_with (refine wpList_store5 rfl (.tmp 8) (.tmp 12) rfl w1.heap.size vp' vw' (.int .i64 F.fuse) (strC F.torn) (.bool F.dead) rfl rfl HC8.out HF8.out oo1 oo2 rfl rfl rfl ?_)
  have T := TI0.out
  clear TI0 HC8 HF8
  generalize set5 (w1.alloc (.cells #[.slice none 0 0, .slice none 0 0, .int .i64 0, .string ⟨#[]⟩, .bool false] 31)) w1.heap.size vp' vw' (.int .i64 F.fuse) (strC F.torn) (.bool F.dead) = W at *
  generalize w1.heap.size = g8 at *
  refine take2_pyes _ _ _ rfl w.heap.size F _ (at_ : Int) s hs k b off F.pages.length cap was hk ((T.below.cell (p := ⟨b, off + k, none⟩) hb).trans HC1.out) (Nat.lt_of_lt_of_le hb T.below.size) (by omega) HFIT.out rfl rfl rfl T.c3 T.fl (by omega) (by omega) hhas ?_
  intro act W2 hdf hsz hkeep hn30 hbT
  have hk1 : act.tmps.getD 1 undef = (.int .i64 (k : Int)) := hkeep 1 (by kernel_rfl)
  have hk2 : act.tmps.getD 2 undef = (.iface 77 (.agg #[.int .i64 (at_ : Int), .string ⟨s.toArray⟩])) := hkeep 2 (by kernel_rfl)
  have hk3 : act.tmps.getD 3 undef = (.pointer (some ⟨w.heap.size, 0, none⟩)) := hkeep 3 (by kernel_rfl)
  have hk6 : act.tmps.getD 6 undef = (.pointer (some ⟨w.heap.size + 1, 0, none⟩)) := hkeep 6 (by kernel_rfl)
  have hk8 : act.tmps.getD 8 undef = (.pointer (some ⟨g8, 0, none⟩)) := hkeep 8 (by kernel_rfl)
  obtain ⟨tm, df⟩ := act
  obtain rfl : df = [] := hdf
  clear hkeep
  obtain ⟨f, rfl, hk1, hk2, hk3, hk6, hk8, hn30⟩ : ∃ f : Nat → Value, tm = ((List.range 84).map f).toArray ∧ f 1 = (.int .i64 (k : Int)) ∧ f 2 = (.iface 77 (.agg #[.int .i64 (at_ : Int), .string ⟨s.toArray⟩])) ∧ f 3 = (.pointer (some ⟨w.heap.size, 0, none⟩)) ∧ f 6 = (.pointer (some ⟨w.heap.size + 1, 0, none⟩)) ∧ f 8 = (.pointer (some ⟨g8, 0, none⟩)) ∧ f 30 = (.bool false) := ⟨fun i => tm.getD i undef, arr_eta tm hsz, hk1, hk2, hk3, hk6, hk8, hn30⟩
  rewrite [show ((List.range 84).map f).toArray = #[f 0, f 1, f 2, f 3, f 4, f 5, f 6, f 7, f 8, f 9, f 10, f 11, f 12, f 13, f 14, f 15, f 16, f 17, f 18, f 19, f 20, f 21, f 22, f 23, f 24, f 25, f 26, f 27, f 28, f 29, f 30, f 31, f 32, f 33, f 34, f 35, f 36, f 37, f 38, f 39, f 40, f 41, f 42, f 43, f 44, f 45, f 46, f 47, f 48, f 49, f 50, f 51, f 52, f 53, f 54, f 55, f 56, f 57, f 58, f 59, f 60, f 61, f 62, f 63, f 64, f 65, f 66, f 67, f 68, f 69, f 70, f 71, f 72, f 73, f 74, f 75, f 76, f 77, f 78, f 79, f 80, f 81, f 82, f 83] from rfl]
  rewrite [hk1, hk2, hk3, hk6, hk8, hn30]
  dsimp only
  clear hsz hk1 hk2 hk3 hk6 hk8 hn30
  replace T := T.grow hbT
  clear hbT
  have b4 : W2.cell? ⟨w.heap.size, 4, none⟩ = some (.bool false) := by rw [← HDD.out]; exact T.c3.2.2.2.2.2
  have b0 := T.c3.2.1
  have bw := (T.below.cell (p := ⟨b, off + k, none⟩) hb).trans HC1.out
  go_wp2_with fail
  refine (pPage_any at_ s was _ (by omega) (by omega) hs).mono ?_
  rintro e W3 ⟨rfl, hb3⟩
  replace T := T.grow hb3
  clear hb3 b4 b0 bw
  have b2' : W3.cell? ⟨w.heap.size, 2, none⟩ = some (.int .i64 0) := by rw [← HFU.out]; exact T.c3.2.2.2.1
  obtain ⟨gp, capp, _, hvp, _⟩ := T.p'.some_ (by rw [List.length_map]; omega)
  rw [List.length_map] at hvp
  subst hvp
  go_wp2_with fail
  refine take9 _ _ w _ rfl (w.heap.size + 2) g8 w.heap.size (w.heap.size + 1) g8 k gp F.pages.length capp F F _ _ vw' was (progL was at_ s) rfl rfl rfl rfl rfl T hk hk (by omega) (by rw [length_progL]; omega) (by omega) ?_
  clear T b2'
  intro act W4 hdf hsz hkeep T
  have hk1 : act.tmps.getD 1 undef = (.int .i64 (k : Int)) := hkeep 1 (by kernel_rfl)
  have hk2 : act.tmps.getD 2 undef = (.iface 77 (.agg #[.int .i64 (at_ : Int), .string ⟨s.toArray⟩])) := hkeep 2 (by kernel_rfl)
  have hk3 : act.tmps.getD 3 undef = (.pointer (some ⟨w.heap.size, 0, none⟩)) := hkeep 3 (by kernel_rfl)
  have hk6 : act.tmps.getD 6 undef = (.pointer (some ⟨w.heap.size + 1, 0, none⟩)) := hkeep 6 (by kernel_rfl)
  have hk8 : act.tmps.getD 8 undef = (.pointer (some ⟨g8, 0, none⟩)) := hkeep 8 (by kernel_rfl)
  obtain ⟨tm, df⟩ := act
  obtain rfl : df = [] := hdf
  clear hkeep
  obtain ⟨f, rfl, hk1, hk2, hk3, hk6, hk8⟩ : ∃ f : Nat → Value, tm = ((List.range 84).map f).toArray ∧ f 1 = (.int .i64 (k : Int)) ∧ f 2 = (.iface 77 (.agg #[.int .i64 (at_ : Int), .string ⟨s.toArray⟩])) ∧ f 3 = (.pointer (some ⟨w.heap.size, 0, none⟩)) ∧ f 6 = (.pointer (some ⟨w.heap.size + 1, 0, none⟩)) ∧ f 8 = (.pointer (some ⟨g8, 0, none⟩)) := ⟨fun i => tm.getD i undef, arr_eta tm hsz, hk1, hk2, hk3, hk6, hk8⟩
  rewrite [show ((List.range 84).map f).toArray = #[f 0, f 1, f 2, f 3, f 4, f 5, f 6, f 7, f 8, f 9, f 10, f 11, f 12, f 13, f 14, f 15, f 16, f 17, f 18, f 19, f 20, f 21, f 22, f 23, f 24, f 25, f 26, f 27, f 28, f 29, f 30, f 31, f 32, f 33, f 34, f 35, f 36, f 37, f 38, f 39, f 40, f 41, f 42, f 43, f 44, f 45, f 46, f 47, f 48, f 49, f 50, f 51, f 52, f 53, f 54, f 55, f 56, f 57, f 58, f 59, f 60, f 61, f 62, f 63, f 64, f 65, f 66, f 67, f 68, f 69, f 70, f 71, f 72, f 73, f 74, f 75, f 76, f 77, f 78, f 79, f 80, f 81, f 82, f 83] from rfl]
  rewrite [hk1, hk2, hk3, hk6, hk8]
  dsimp only
  clear hsz hk1 hk2 hk3 hk6 hk8
  obtain ⟨o0, o1, o2, o3, o4, c6⟩ := T.c6
  have HC6 := Kept.mk c6
  have HF6 := Kept.mk T.f6
  obtain ⟨hfl, hB5, hr5⟩ := ti_end T
  have HFL := Kept.mk hfl
  have HR5 := Kept.mk hr5
  obtain ⟨_, k0, k1, k2, k3, k4⟩ := T.c8
  clear T c6 hfl hr5
  go_wp2_with (refine wpList_store5 rfl (.tmp 6) (.tmp 56) rfl (w.heap.size + 1) _ _ _ _ _ rfl rfl HC6.out HF6.out oo1 oo2 rfl rfl rfl ?_)
  exact bodyPost_ret (results2 rfl _ _ (w.heap.size + 1) _ _ _ _ _ (.int .i64 8) rfl rfl HR5.out) rfl ⟨_, rfl, HFL.out, hB5⟩

set_option maxRecDepth 100000 in
set_option maxHeartbeats 2000000 in
theorem take_pdone (F : Fl) (v : Value) (w : World) (hv : isFl F v w) (k : Nat) (at_ : Nat) (s : List UInt8) (hs : s.length ≤ 1000000) (hat : at_ + s.length ≤ (F.pages.getD k []).length) (hdead : F.dead = false) (hfuse : F.fuse < 0) (hhas : hasB F (k : Int) = true) :
    Calls Tryz.prog 54 #[v, .int .i64 (k : Int), (.iface 77 (.agg #[.int .i64 (at_ : Int), .string ⟨s.toArray⟩]))] w fun e w' => ∃ v', e = .returned (.tuple #[v', .int .i64 0]) ∧ isFlN w.heap.size { F with pages := F.pages.set k (progL (F.pages.getD k []) at_ s), wear := F.wear.set k (F.wear.getD k 0) } v' w' ∧ Below w.heap.size w w' := by
  have HDD := Kept.mk hdead
  clear hdead
  have HFU := Kept.mk hfuse
  clear hfuse
  have HHF := Kept.mk (has_facts F k hhas)
  obtain ⟨hk, h6, hwl, htl, hpg, hwr⟩ := HHF.out
  obtain ⟨was, hwas⟩ : ∃ was, F.pages[k]? = some was := ⟨_, List.getElem?_eq_getElem hk⟩
  obtain ⟨wn, hwn⟩ : ∃ wn, F.wear[k]? = some wn := ⟨_, List.getElem?_eq_getElem (by omega)⟩
  have hwm : was.length ≤ 8192 := (hpg _ (List.mem_of_getElem? hwas)).2.1
  have hn01 := hwr wn (List.mem_of_getElem? hwn)
  obtain ⟨vp, vw, rfl, hp, hq⟩ := hv
  obtain ⟨b, off, cap, hvp, hb, hc⟩ := hp.some_ (by rw [List.length_map]; omega)
  obtain ⟨b2, off2, cap2, hvw, hb2, hc2⟩ := hq.some_ (by rw [List.length_map]; omega)
  rw [List.length_map] at hvp hvw
  subst hvp hvw
  have hcell : w.cell? ⟨b, off + k, none⟩ = some (.string ⟨was.toArray⟩) := hc k _ (by simp [hwas, strC])
  have hcell2 : w.cell? ⟨b2, off2 + k, none⟩ = some (.int .i64 wn) := hc2 k _ (by simp [hwn, intC])
  have hkw : k < F.wear.length := by omega
  have hwl6 : F.wear.length ≤ 6 := by omega
  have HWL := Kept.mk hwl
  clear hwl
  have hget1 : F.pages.getD k [] = was := by simp [List.getD_eq_getElem?_getD, hwas]
  have hget2 : F.wear.getD k 0 = wn := by simp [List.getD_eq_getElem?_getD, hwn]
  try rw [hget1]
  try rw [hget2]
  have hatw : at_ + s.length ≤ was.length := by rw [← hget1]; exact hat
  have hfit : (decide (0 ≤ (at_ : Int)) && decide ((at_ : Int) ≤ (was.length : Int) - (s.length : Int))) = true := by simp; omega
  have HFIT := Kept.mk hfit
  clear hget1 hget2 hat hfit
  have HW := Kept.mk hwas
  have HWN := Kept.mk hwn
  have HC1 := Kept.mk hcell
  have HC2 := Kept.mk hcell2
  have hb0 : Below w.heap.size w ((w.alloc (.cells #[.slice (some ⟨b, off, none⟩) F.pages.length cap, .slice (some ⟨b2, off2, none⟩) F.wear.length cap2, .int .i64 F.fuse, strC F.torn, .bool F.dead] 31)).alloc (.cells #[.slice none 0 0, .slice none 0 0, .int .i64 0, .string ⟨#[]⟩, .bool false] 31)) := ((Below.refl _ _).alloc (Nat.le_refl _) _).alloc (by simp) _
  have HP := Kept.mk hp
  have HQ := Kept.mk hq
  have HB0 := Kept.mk hb0
  clear hp hq hb0 hc hc2 hcell hcell2 hwas hwn hpg hwr
  go_enter Tryz.func54, Tryz.ntmps54
  go_wp2_with fail
  refine (copied_any F _ _ ⟨.slice (some ⟨b, off, none⟩) F.pages.length cap, .slice (some ⟨b2, off2, none⟩) F.wear.length cap2, rfl, stable_cells _ _ _ _ HP.out HB0.out, stable_cells _ _ _ _ HQ.out HB0.out⟩ (by omega) (by omega)).mono ?_
  rintro e w1 ⟨vp', vw', rfl, ho1, ho2, hb1⟩
  have TI0 := Lib.hid (ti_start F w w1 (.slice (some ⟨b, off, none⟩) F.pages.length cap) (.slice (some ⟨b2, off2, none⟩) F.wear.length cap2) vp' vw' HP.out HQ.out hb1 ho1 ho2)
  have HC8 := Lib.hid (cells5_new w1 31 (.slice none 0 0) (.slice none 0 0) (.int .i64 0) (.string ⟨#[]⟩) (.bool false))
  have HF8 := Lib.hid (free5_new w1 #[.slice none 0 0, .slice none 0 0, .int .i64 0, .string ⟨#[]⟩, .bool false] 31)
  have oo1 := (ho1.one).2
  have oo2 := (ho2.one).2
  clear ho1 ho2 hb1 HB0
  go_wp2_with (refine wpList_store5 rfl (.tmp 8) (.tmp 12) rfl w1.heap.size vp' vw' (.int .i64 F.fuse) (strC F.torn) (.bool F.dead) rfl rfl HC8.out HF8.out oo1 oo2 rfl rfl rfl ?_)
  have T := TI0.out
  clear TI0 HC8 HF8
  generalize set5 (w1.alloc (.cells #[.slice none 0 0, .slice none 0 0, .int .i64 0, .string ⟨#[]⟩, .bool false] 31)) w1.heap.size vp' vw' (.int .i64 F.fuse) (strC F.torn) (.bool F.dead) = W at *
  generalize w1.heap.size = g8 at *
  refine take2_pyes _ _ _ rfl w.heap.size F _ (at_ : Int) s hs k b off F.pages.length cap was hk ((T.below.cell (p := ⟨b, off + k, none⟩) hb).trans HC1.out) (Nat.lt_of_lt_of_le hb T.below.size) (by omega) HFIT.out rfl rfl rfl T.c3 T.fl (by omega) (by omega) hhas ?_
  intro act W2 hdf hsz hkeep hn30 hbT
  have hk1 : act.tmps.getD 1 undef = (.int .i64 (k : Int)) := hkeep 1 (by kernel_rfl)
  have hk2 : act.tmps.getD 2 undef = (.iface 77 (.agg #[.int .i64 (at_ : Int), .string ⟨s.toArray⟩])) := hkeep 2 (by kernel_rfl)
  have hk3 : act.tmps.getD 3 undef = (.pointer (some ⟨w.heap.size, 0, none⟩)) := hkeep 3 (by kernel_rfl)
  have hk6 : act.tmps.getD 6 undef = (.pointer (some ⟨w.heap.size + 1, 0, none⟩)) := hkeep 6 (by kernel_rfl)
  have hk8 : act.tmps.getD 8 undef = (.pointer (some ⟨g8, 0, none⟩)) := hkeep 8 (by kernel_rfl)
  obtain ⟨tm, df⟩ := act
  obtain rfl : df = [] := hdf
  clear hkeep
  obtain ⟨f, rfl, hk1, hk2, hk3, hk6, hk8, hn30⟩ : ∃ f : Nat → Value, tm = ((List.range 84).map f).toArray ∧ f 1 = (.int .i64 (k : Int)) ∧ f 2 = (.iface 77 (.agg #[.int .i64 (at_ : Int), .string ⟨s.toArray⟩])) ∧ f 3 = (.pointer (some ⟨w.heap.size, 0, none⟩)) ∧ f 6 = (.pointer (some ⟨w.heap.size + 1, 0, none⟩)) ∧ f 8 = (.pointer (some ⟨g8, 0, none⟩)) ∧ f 30 = (.bool false) := ⟨fun i => tm.getD i undef, arr_eta tm hsz, hk1, hk2, hk3, hk6, hk8, hn30⟩
  rewrite [show ((List.range 84).map f).toArray = #[f 0, f 1, f 2, f 3, f 4, f 5, f 6, f 7, f 8, f 9, f 10, f 11, f 12, f 13, f 14, f 15, f 16, f 17, f 18, f 19, f 20, f 21, f 22, f 23, f 24, f 25, f 26, f 27, f 28, f 29, f 30, f 31, f 32, f 33, f 34, f 35, f 36, f 37, f 38, f 39, f 40, f 41, f 42, f 43, f 44, f 45, f 46, f 47, f 48, f 49, f 50, f 51, f 52, f 53, f 54, f 55, f 56, f 57, f 58, f 59, f 60, f 61, f 62, f 63, f 64, f 65, f 66, f 67, f 68, f 69, f 70, f 71, f 72, f 73, f 74, f 75, f 76, f 77, f 78, f 79, f 80, f 81, f 82, f 83] from rfl]
  rewrite [hk1, hk2, hk3, hk6, hk8, hn30]
  dsimp only
  clear hsz hk1 hk2 hk3 hk6 hk8 hn30
  replace T := T.grow hbT
  clear hbT
  have b4 : W2.cell? ⟨w.heap.size, 4, none⟩ = some (.bool false) := by rw [← HDD.out]; exact T.c3.2.2.2.2.2
  have b0 := T.c3.2.1
  have bw := (T.below.cell (p := ⟨b, off + k, none⟩) hb).trans HC1.out
  go_wp2_with fail
  refine (pPage_any at_ s was _ (by omega) (by omega) hs).mono ?_
  rintro e W3 ⟨rfl, hb3⟩
  replace T := T.grow hb3
  clear hb3 b4 b0 bw
  have b2' : W3.cell? ⟨w.heap.size, 2, none⟩ = some (.int .i64 F.fuse) := T.c3.2.2.2.1
  obtain ⟨gp, capp, _, hvp, _⟩ := T.p'.some_ (by rw [List.length_map]; omega)
  obtain ⟨gw, capw, _, hvw, _⟩ := T.q'.some_ (by rw [List.length_map]; omega)
  rw [List.length_map] at hvp hvw
  subst hvp hvw
  have hf0 : (F.fuse == 0) = false := by have := HFU.out; simp; omega
  go_wp2_with fail
  refine take11_p _ _ w _ rfl (w.heap.size + 2) g8 w.heap.size (w.heap.size + 1) g8 k gp F.pages.length capp gw F.wear.length capw b2 off2 F.wear.length cap2 F F _ (progL was at_ s) wn (at_ : Int) s hs rfl rfl rfl rfl rfl T hk hk hkw hkw hkw ((T.below.cell (p := ⟨b2, off2 + k, none⟩) hb2).trans HC2.out) hb2 hn01.1 hn01.2 ?_
  clear T b2'
  intro act W4 hdf hsz hkeep T
  have hk1 : act.tmps.getD 1 undef = (.int .i64 (k : Int)) := hkeep 1 (by kernel_rfl)
  have hk2 : act.tmps.getD 2 undef = (.iface 77 (.agg #[.int .i64 (at_ : Int), .string ⟨s.toArray⟩])) := hkeep 2 (by kernel_rfl)
  have hk3 : act.tmps.getD 3 undef = (.pointer (some ⟨w.heap.size, 0, none⟩)) := hkeep 3 (by kernel_rfl)
  have hk6 : act.tmps.getD 6 undef = (.pointer (some ⟨w.heap.size + 1, 0, none⟩)) := hkeep 6 (by kernel_rfl)
  have hk8 : act.tmps.getD 8 undef = (.pointer (some ⟨g8, 0, none⟩)) := hkeep 8 (by kernel_rfl)
  obtain ⟨tm, df⟩ := act
  obtain rfl : df = [] := hdf
  clear hkeep
  obtain ⟨f, rfl, hk1, hk2, hk3, hk6, hk8⟩ : ∃ f : Nat → Value, tm = ((List.range 84).map f).toArray ∧ f 1 = (.int .i64 (k : Int)) ∧ f 2 = (.iface 77 (.agg #[.int .i64 (at_ : Int), .string ⟨s.toArray⟩])) ∧ f 3 = (.pointer (some ⟨w.heap.size, 0, none⟩)) ∧ f 6 = (.pointer (some ⟨w.heap.size + 1, 0, none⟩)) ∧ f 8 = (.pointer (some ⟨g8, 0, none⟩)) := ⟨fun i => tm.getD i undef, arr_eta tm hsz, hk1, hk2, hk3, hk6, hk8⟩
  rewrite [show ((List.range 84).map f).toArray = #[f 0, f 1, f 2, f 3, f 4, f 5, f 6, f 7, f 8, f 9, f 10, f 11, f 12, f 13, f 14, f 15, f 16, f 17, f 18, f 19, f 20, f 21, f 22, f 23, f 24, f 25, f 26, f 27, f 28, f 29, f 30, f 31, f 32, f 33, f 34, f 35, f 36, f 37, f 38, f 39, f 40, f 41, f 42, f 43, f 44, f 45, f 46, f 47, f 48, f 49, f 50, f 51, f 52, f 53, f 54, f 55, f 56, f 57, f 58, f 59, f 60, f 61, f 62, f 63, f 64, f 65, f 66, f 67, f 68, f 69, f 70, f 71, f 72, f 73, f 74, f 75, f 76, f 77, f 78, f 79, f 80, f 81, f 82, f 83] from rfl]
  rewrite [hk1, hk2, hk3, hk6, hk8]
  dsimp only
  clear hsz hk1 hk2 hk3 hk6 hk8
  have b2' : W4.cell? ⟨w.heap.size, 2, none⟩ = some (.int .i64 F.fuse) := T.c3.2.2.2.1
  have hfd : decide (0 < F.fuse) = false := by have := HFU.out; simp; omega
  obtain ⟨o0, o1, o2, o3, o4, c6⟩ := T.c6
  have HC6 := Kept.mk c6
  have HF6 := Kept.mk T.f6
  obtain ⟨hfl, hB5, hr5⟩ := ti_end T
  have HFL := Kept.mk hfl
  have HR5 := Kept.mk hr5
  obtain ⟨_, k0, k1, k2, k3, k4⟩ := T.c8
  clear T c6 hfl hr5
  go_wp2_with (refine wpList_store5 rfl (.tmp 6) (.tmp 83) rfl (w.heap.size + 1) _ _ _ _ _ rfl rfl HC6.out HF6.out oo1 oo2 rfl rfl rfl ?_)
  exact bodyPost_ret (results2 rfl _ _ (w.heap.size + 1) _ _ _ _ _ (.int .i64 0) rfl rfl HR5.out) rfl ⟨_, rfl, HFL.out, hB5⟩

set_option maxRecDepth 100000 in
set_option maxHeartbeats 2000000 in
theorem take_pburn (F : Fl) (v : Value) (w : World) (hv : isFl F v w) (k : Nat) (at_ : Nat) (s : List UInt8) (hs : s.length ≤ 1000000) (hat : at_ + s.length ≤ (F.pages.getD k []).length) (hdead : F.dead = false) (hfuse : 0 < F.fuse) (hfz : F.fuse ≤ 9223372036854775807) (hhas : hasB F (k : Int) = true) :
    Calls Tryz.prog 54 #[v, .int .i64 (k : Int), (.iface 77 (.agg #[.int .i64 (at_ : Int), .string ⟨s.toArray⟩]))] w fun e w' => ∃ v', e = .returned (.tuple #[v', .int .i64 0]) ∧ isFlN w.heap.size { F with pages := F.pages.set k (progL (F.pages.getD k []) at_ s), wear := F.wear.set k (F.wear.getD k 0), fuse := F.fuse - 1 } v' w' ∧ Below w.heap.size w w' := by
  have HDD := Kept.mk hdead
  clear hdead
  have HFU := Kept.mk hfuse
  clear hfuse
  have HFZ := Kept.mk hfz
  clear hfz
  have HHF := Kept.mk (has_facts F k hhas)
  obtain ⟨hk, h6, hwl, htl, hpg, hwr⟩ := HHF.out
  obtain ⟨was, hwas⟩ : ∃ was, F.pages[k]? = some was := ⟨_, List.getElem?_eq_getElem hk⟩
  obtain ⟨wn, hwn⟩ : ∃ wn, F.wear[k]? = some wn := ⟨_, List.getElem?_eq_getElem (by omega)⟩
  have hwm : was.length ≤ 8192 := (hpg _ (List.mem_of_getElem? hwas)).2.1
  have hn01 := hwr wn (List.mem_of_getElem? hwn)
  obtain ⟨vp, vw, rfl, hp, hq⟩ := hv
  obtain ⟨b, off, cap, hvp, hb, hc⟩ := hp.some_ (by rw [List.length_map]; omega)
  obtain ⟨b2, off2, cap2, hvw, hb2, hc2⟩ := hq.some_ (by rw [List.length_map]; omega)
  rw [List.length_map] at hvp hvw
  subst hvp hvw
  have hcell : w.cell? ⟨b, off + k, none⟩ = some (.string ⟨was.toArray⟩) := hc k _ (by simp [hwas, strC])
  have hcell2 : w.cell? ⟨b2, off2 + k, none⟩ = some (.int .i64 wn) := hc2 k _ (by simp [hwn, intC])
  have hkw : k < F.wear.length := by omega
  have hwl6 : F.wear.length ≤ 6 := by omega
  have HWL := Kept.mk hwl
  clear hwl
  have hget1 : F.pages.getD k [] = was := by simp [List.getD_eq_getElem?_getD, hwas]
  have hget2 : F.wear.getD k 0 = wn := by simp [List.getD_eq_getElem?_getD, hwn]
  try rw [hget1]
  try rw [hget2]
  have hatw : at_ + s.length ≤ was.length := by rw [← hget1]; exact hat
  have hfit : (decide (0 ≤ (at_ : Int)) && decide ((at_ : Int) ≤ (was.length : Int) - (s.length : Int))) = true := by simp; omega
  have HFIT := Kept.mk hfit
  clear hget1 hget2 hat hfit
  have HW := Kept.mk hwas
  have HWN := Kept.mk hwn
  have HC1 := Kept.mk hcell
  have HC2 := Kept.mk hcell2
  have hb0 : Below w.heap.size w ((w.alloc (.cells #[.slice (some ⟨b, off, none⟩) F.pages.length cap, .slice (some ⟨b2, off2, none⟩) F.wear.length cap2, .int .i64 F.fuse, strC F.torn, .bool F.dead] 31)).alloc (.cells #[.slice none 0 0, .slice none 0 0, .int .i64 0, .string ⟨#[]⟩, .bool false] 31)) := ((Below.refl _ _).alloc (Nat.le_refl _) _).alloc (by simp) _
  have HP := Kept.mk hp
  have HQ := Kept.mk hq
  have HB0 := Kept.mk hb0
  clear hp hq hb0 hc hc2 hcell hcell2 hwas hwn hpg hwr
  go_enter Tryz.func54, Tryz.ntmps54
  go_wp2_with fail
  refine (copied_any F _ _ ⟨.slice (some ⟨b, off, none⟩) F.pages.length cap, .slice (some ⟨b2, off2, none⟩) F.wear.length cap2, rfl, stable_cells _ _ _ _ HP.out HB0.out, stable_cells _ _ _ _ HQ.out HB0.out⟩ (by omega) (by omega)).mono ?_
  rintro e w1 ⟨vp', vw', rfl, ho1, ho2, hb1⟩
  have TI0 := Lib.hid (ti_start F w w1 (.slice (some ⟨b, off, none⟩) F.pages.length cap) (.slice (some ⟨b2, off2, none⟩) F.wear.length cap2) vp' vw' HP.out HQ.out hb1 ho1 ho2)
  have HC8 := Lib.hid (cells5_new w1 31 (.slice none 0 0) (.slice none 0 0) (.int .i64 0) (.string ⟨#[]⟩) (.bool false))
  have HF8 := Lib.hid (free5_new w1 #[.slice none 0 0, .slice none 0 0, .int .i64 0, .string ⟨#[]⟩, .bool false] 31)
  have oo1 := (ho1.one).2
  have oo2 := (ho2.one).2
  clear ho1 ho2 hb1 HB0
  go_wp2_with (refine wpList_store5 rfl (.tmp 8) (.tmp 12) rfl w1.heap.size vp' vw' (.int .i64 F.fuse) (strC F.torn) (.bool F.dead) rfl rfl HC8.out HF8.out oo1 oo2 rfl rfl rfl ?_)
  have T := TI0.out
  clear TI0 HC8 HF8
  generalize set5 (w1.alloc (.cells #[.slice none 0 0, .slice none 0 0, .int .i64 0, .string ⟨#[]⟩, .bool false] 31)) w1.heap.size vp' vw' (.int .i64 F.fuse) (strC F.torn) (.bool F.dead) = W at *
  generalize w1.heap.size = g8 at *
  refine take2_pyes _ _ _ rfl w.heap.size F _ (at_ : Int) s hs k b off F.pages.length cap was hk ((T.below.cell (p := ⟨b, off + k, none⟩) hb).trans HC1.out) (Nat.lt_of_lt_of_le hb T.below.size) (by omega) HFIT.out rfl rfl rfl T.c3 T.fl (by omega) (by omega) hhas ?_
  intro act W2 hdf hsz hkeep hn30 hbT
  have hk1 : act.tmps.getD 1 undef = (.int .i64 (k : Int)) := hkeep 1 (by kernel_rfl)
  have hk2 : act.tmps.getD 2 undef = (.iface 77 (.agg #[.int .i64 (at_ : Int), .string ⟨s.toArray⟩])) := hkeep 2 (by kernel_rfl)
  have hk3 : act.tmps.getD 3 undef = (.pointer (some ⟨w.heap.size, 0, none⟩)) := hkeep 3 (by kernel_rfl)
  have hk6 : act.tmps.getD 6 undef = (.pointer (some ⟨w.heap.size + 1, 0, none⟩)) := hkeep 6 (by kernel_rfl)
  have hk8 : act.tmps.getD 8 undef = (.pointer (some ⟨g8, 0, none⟩)) := hkeep 8 (by kernel_rfl)
  obtain ⟨tm, df⟩ := act
  obtain rfl : df = [] := hdf
  clear hkeep
  obtain ⟨f, rfl, hk1, hk2, hk3, hk6, hk8, hn30⟩ : ∃ f : Nat → Value, tm = ((List.range 84).map f).toArray ∧ f 1 = (.int .i64 (k : Int)) ∧ f 2 = (.iface 77 (.agg #[.int .i64 (at_ : Int), .string ⟨s.toArray⟩])) ∧ f 3 = (.pointer (some ⟨w.heap.size, 0, none⟩)) ∧ f 6 = (.pointer (some ⟨w.heap.size + 1, 0, none⟩)) ∧ f 8 = (.pointer (some ⟨g8, 0, none⟩)) ∧ f 30 = (.bool false) := ⟨fun i => tm.getD i undef, arr_eta tm hsz, hk1, hk2, hk3, hk6, hk8, hn30⟩
  rewrite [show ((List.range 84).map f).toArray = #[f 0, f 1, f 2, f 3, f 4, f 5, f 6, f 7, f 8, f 9, f 10, f 11, f 12, f 13, f 14, f 15, f 16, f 17, f 18, f 19, f 20, f 21, f 22, f 23, f 24, f 25, f 26, f 27, f 28, f 29, f 30, f 31, f 32, f 33, f 34, f 35, f 36, f 37, f 38, f 39, f 40, f 41, f 42, f 43, f 44, f 45, f 46, f 47, f 48, f 49, f 50, f 51, f 52, f 53, f 54, f 55, f 56, f 57, f 58, f 59, f 60, f 61, f 62, f 63, f 64, f 65, f 66, f 67, f 68, f 69, f 70, f 71, f 72, f 73, f 74, f 75, f 76, f 77, f 78, f 79, f 80, f 81, f 82, f 83] from rfl]
  rewrite [hk1, hk2, hk3, hk6, hk8, hn30]
  dsimp only
  clear hsz hk1 hk2 hk3 hk6 hk8 hn30
  replace T := T.grow hbT
  clear hbT
  have b4 : W2.cell? ⟨w.heap.size, 4, none⟩ = some (.bool false) := by rw [← HDD.out]; exact T.c3.2.2.2.2.2
  have b0 := T.c3.2.1
  have bw := (T.below.cell (p := ⟨b, off + k, none⟩) hb).trans HC1.out
  go_wp2_with fail
  refine (pPage_any at_ s was _ (by omega) (by omega) hs).mono ?_
  rintro e W3 ⟨rfl, hb3⟩
  replace T := T.grow hb3
  clear hb3 b4 b0 bw
  have b2' : W3.cell? ⟨w.heap.size, 2, none⟩ = some (.int .i64 F.fuse) := T.c3.2.2.2.1
  obtain ⟨gp, capp, _, hvp, _⟩ := T.p'.some_ (by rw [List.length_map]; omega)
  obtain ⟨gw, capw, _, hvw, _⟩ := T.q'.some_ (by rw [List.length_map]; omega)
  rw [List.length_map] at hvp hvw
  subst hvp hvw
  have hf0 : (F.fuse == 0) = false := by have := HFU.out; simp; omega
  go_wp2_with fail
  refine take11_p _ _ w _ rfl (w.heap.size + 2) g8 w.heap.size (w.heap.size + 1) g8 k gp F.pages.length capp gw F.wear.length capw b2 off2 F.wear.length cap2 F F _ (progL was at_ s) wn (at_ : Int) s hs rfl rfl rfl rfl rfl T hk hk hkw hkw hkw ((T.below.cell (p := ⟨b2, off2 + k, none⟩) hb2).trans HC2.out) hb2 hn01.1 hn01.2 ?_
  clear T b2'
  intro act W4 hdf hsz hkeep T
  have hk1 : act.tmps.getD 1 undef = (.int .i64 (k : Int)) := hkeep 1 (by kernel_rfl)
  have hk2 : act.tmps.getD 2 undef = (.iface 77 (.agg #[.int .i64 (at_ : Int), .string ⟨s.toArray⟩])) := hkeep 2 (by kernel_rfl)
  have hk3 : act.tmps.getD 3 undef = (.pointer (some ⟨w.heap.size, 0, none⟩)) := hkeep 3 (by kernel_rfl)
  have hk6 : act.tmps.getD 6 undef = (.pointer (some ⟨w.heap.size + 1, 0, none⟩)) := hkeep 6 (by kernel_rfl)
  have hk8 : act.tmps.getD 8 undef = (.pointer (some ⟨g8, 0, none⟩)) := hkeep 8 (by kernel_rfl)
  obtain ⟨tm, df⟩ := act
  obtain rfl : df = [] := hdf
  clear hkeep
  obtain ⟨f, rfl, hk1, hk2, hk3, hk6, hk8⟩ : ∃ f : Nat → Value, tm = ((List.range 84).map f).toArray ∧ f 1 = (.int .i64 (k : Int)) ∧ f 2 = (.iface 77 (.agg #[.int .i64 (at_ : Int), .string ⟨s.toArray⟩])) ∧ f 3 = (.pointer (some ⟨w.heap.size, 0, none⟩)) ∧ f 6 = (.pointer (some ⟨w.heap.size + 1, 0, none⟩)) ∧ f 8 = (.pointer (some ⟨g8, 0, none⟩)) := ⟨fun i => tm.getD i undef, arr_eta tm hsz, hk1, hk2, hk3, hk6, hk8⟩
  rewrite [show ((List.range 84).map f).toArray = #[f 0, f 1, f 2, f 3, f 4, f 5, f 6, f 7, f 8, f 9, f 10, f 11, f 12, f 13, f 14, f 15, f 16, f 17, f 18, f 19, f 20, f 21, f 22, f 23, f 24, f 25, f 26, f 27, f 28, f 29, f 30, f 31, f 32, f 33, f 34, f 35, f 36, f 37, f 38, f 39, f 40, f 41, f 42, f 43, f 44, f 45, f 46, f 47, f 48, f 49, f 50, f 51, f 52, f 53, f 54, f 55, f 56, f 57, f 58, f 59, f 60, f 61, f 62, f 63, f 64, f 65, f 66, f 67, f 68, f 69, f 70, f 71, f 72, f 73, f 74, f 75, f 76, f 77, f 78, f 79, f 80, f 81, f 82, f 83] from rfl]
  rewrite [hk1, hk2, hk3, hk6, hk8]
  dsimp only
  clear hsz hk1 hk2 hk3 hk6 hk8
  have b2' : W4.cell? ⟨w.heap.size, 2, none⟩ = some (.int .i64 F.fuse) := T.c3.2.2.2.1
  have hfd : decide (0 < F.fuse) = true := by have := HFU.out; simp; omega
  have hfb := HFZ.out
  have hfb1 := HFU.out
  have k2' : W4.cell? ⟨g8, 2, none⟩ = some (.int .i64 F.fuse) := T.c8.2.2.2.1
  have f2' := T.f8 2
  replace T := T.burn (F.fuse - 1)
  obtain ⟨o0, o1, o2, o3, o4, c6⟩ := T.c6
  have HC6 := Kept.mk c6
  have HF6 := Kept.mk T.f6
  obtain ⟨hfl, hB5, hr5⟩ := ti_end T
  have HFL := Kept.mk hfl
  have HR5 := Kept.mk hr5
  obtain ⟨_, k0, k1, k2, k3, k4⟩ := T.c8
  clear T c6 hfl hr5
  go_wp2_with (refine wpList_store5 rfl (.tmp 6) (.tmp 83) rfl (w.heap.size + 1) _ _ _ _ _ rfl rfl HC6.out HF6.out oo1 oo2 rfl rfl rfl ?_)
  exact bodyPost_ret (results2 rfl _ _ (w.heap.size + 1) _ _ _ _ _ (.int .i64 0) rfl rfl HR5.out) rfl ⟨_, rfl, HFL.out, hB5⟩

set_option maxRecDepth 100000 in
set_option maxHeartbeats 2000000 in
theorem take_pout (F : Fl) (v : Value) (w : World) (hv : isFl F v w) (k : Nat) (at_ : Int) (s : List UInt8) (hs : s.length ≤ 1000000) (hfits : (decide (0 ≤ at_) && decide (at_ ≤ ((F.pages.getD k []).length : Int) - (s.length : Int))) = false) (hhas : hasB F (k : Int) = true) :
    Calls Tryz.prog 54 #[v, .int .i64 (k : Int), (.iface 77 (.agg #[.int .i64 at_, .string ⟨s.toArray⟩]))] w fun e w' => ∃ v', e = .returned (.tuple #[v', .int .i64 1]) ∧ isFlN w.heap.size F v' w' ∧ Below w.heap.size w w' := by
  have HHF := Kept.mk (has_facts F k hhas)
  obtain ⟨hk, h6, hwl, htl, hpg, hwr⟩ := HHF.out
  obtain ⟨was, hwas⟩ : ∃ was, F.pages[k]? = some was := ⟨_, List.getElem?_eq_getElem hk⟩
  obtain ⟨wn, hwn⟩ : ∃ wn, F.wear[k]? = some wn := ⟨_, List.getElem?_eq_getElem (by omega)⟩
  have hwm : was.length ≤ 8192 := (hpg _ (List.mem_of_getElem? hwas)).2.1
  have hn01 := hwr wn (List.mem_of_getElem? hwn)
  obtain ⟨vp, vw, rfl, hp, hq⟩ := hv
  obtain ⟨b, off, cap, hvp, hb, hc⟩ := hp.some_ (by rw [List.length_map]; omega)
  obtain ⟨b2, off2, cap2, hvw, hb2, hc2⟩ := hq.some_ (by rw [List.length_map]; omega)
  rw [List.length_map] at hvp hvw
  subst hvp hvw
  have hcell : w.cell? ⟨b, off + k, none⟩ = some (.string ⟨was.toArray⟩) := hc k _ (by simp [hwas, strC])
  have hcell2 : w.cell? ⟨b2, off2 + k, none⟩ = some (.int .i64 wn) := hc2 k _ (by simp [hwn, intC])
  have hkw : k < F.wear.length := by omega
  have hwl6 : F.wear.length ≤ 6 := by omega
  have HWL := Kept.mk hwl
  clear hwl
  have hget1 : F.pages.getD k [] = was := by simp [List.getD_eq_getElem?_getD, hwas]
  have hget2 : F.wear.getD k 0 = wn := by simp [List.getD_eq_getElem?_getD, hwn]
  try rw [hget1]
  try rw [hget2]
  have hfit : (decide (0 ≤ at_) && decide (at_ ≤ (was.length : Int) - (s.length : Int))) = false := by rw [← hget1]; exact hfits
  have HFIT := Kept.mk hfit
  clear hget1 hget2 hfits hfit
  have HW := Kept.mk hwas
  have HWN := Kept.mk hwn
  have HC1 := Kept.mk hcell
  have HC2 := Kept.mk hcell2
  have hb0 : Below w.heap.size w ((w.alloc (.cells #[.slice (some ⟨b, off, none⟩) F.pages.length cap, .slice (some ⟨b2, off2, none⟩) F.wear.length cap2, .int .i64 F.fuse, strC F.torn, .bool F.dead] 31)).alloc (.cells #[.slice none 0 0, .slice none 0 0, .int .i64 0, .string ⟨#[]⟩, .bool false] 31)) := ((Below.refl _ _).alloc (Nat.le_refl _) _).alloc (by simp) _
  have HP := Kept.mk hp
  have HQ := Kept.mk hq
  have HB0 := Kept.mk hb0
  clear hp hq hb0 hc hc2 hcell hcell2 hwas hwn hpg hwr
  go_enter Tryz.func54, Tryz.ntmps54
  go_wp2_with fail
  refine (copied_any F _ _ ⟨.slice (some ⟨b, off, none⟩) F.pages.length cap, .slice (some ⟨b2, off2, none⟩) F.wear.length cap2, rfl, stable_cells _ _ _ _ HP.out HB0.out, stable_cells _ _ _ _ HQ.out HB0.out⟩ (by omega) (by omega)).mono ?_
  rintro e w1 ⟨vp', vw', rfl, ho1, ho2, hb1⟩
  have TI0 := Lib.hid (ti_start F w w1 (.slice (some ⟨b, off, none⟩) F.pages.length cap) (.slice (some ⟨b2, off2, none⟩) F.wear.length cap2) vp' vw' HP.out HQ.out hb1 ho1 ho2)
  have HC8 := Lib.hid (cells5_new w1 31 (.slice none 0 0) (.slice none 0 0) (.int .i64 0) (.string ⟨#[]⟩) (.bool false))
  have HF8 := Lib.hid (free5_new w1 #[.slice none 0 0, .slice none 0 0, .int .i64 0, .string ⟨#[]⟩, .bool false] 31)
  have oo1 := (ho1.one).2
  have oo2 := (ho2.one).2
  clear ho1 ho2 hb1 HB0
  go_wp2_with (refine wpList_store5 rfl (.tmp 8) (.tmp 12) rfl w1.heap.size vp' vw' (.int .i64 F.fuse) (strC F.torn) (.bool F.dead) rfl rfl HC8.out HF8.out oo1 oo2 rfl rfl rfl ?_)
  have T := TI0.out
  clear TI0 HC8 HF8
  generalize set5 (w1.alloc (.cells #[.slice none 0 0, .slice none 0 0, .int .i64 0, .string ⟨#[]⟩, .bool false] 31)) w1.heap.size vp' vw' (.int .i64 F.fuse) (strC F.torn) (.bool F.dead) = W at *
  generalize w1.heap.size = g8 at *
  refine take2_pout _ _ _ rfl w.heap.size F _ at_ s hs k b off F.pages.length cap was hk ((T.below.cell (p := ⟨b, off + k, none⟩) hb).trans HC1.out) (Nat.lt_of_lt_of_le hb T.below.size) (by omega) HFIT.out rfl rfl rfl T.c3 T.fl (by omega) (by omega) hhas ?_
  intro act W2 hdf hsz hkeep hn30 hbT
  have hk1 : act.tmps.getD 1 undef = (.int .i64 (k : Int)) := hkeep 1 (by kernel_rfl)
  have hk2 : act.tmps.getD 2 undef = (.iface 77 (.agg #[.int .i64 at_, .string ⟨s.toArray⟩])) := hkeep 2 (by kernel_rfl)
  have hk3 : act.tmps.getD 3 undef = (.pointer (some ⟨w.heap.size, 0, none⟩)) := hkeep 3 (by kernel_rfl)
  have hk6 : act.tmps.getD 6 undef = (.pointer (some ⟨w.heap.size + 1, 0, none⟩)) := hkeep 6 (by kernel_rfl)
  have hk8 : act.tmps.getD 8 undef = (.pointer (some ⟨g8, 0, none⟩)) := hkeep 8 (by kernel_rfl)
  obtain ⟨tm, df⟩ := act
  obtain rfl : df = [] := hdf
  clear hkeep
  obtain ⟨f, rfl, hk1, hk2, hk3, hk6, hk8, hn30⟩ : ∃ f : Nat → Value, tm = ((List.range 84).map f).toArray ∧ f 1 = (.int .i64 (k : Int)) ∧ f 2 = (.iface 77 (.agg #[.int .i64 at_, .string ⟨s.toArray⟩])) ∧ f 3 = (.pointer (some ⟨w.heap.size, 0, none⟩)) ∧ f 6 = (.pointer (some ⟨w.heap.size + 1, 0, none⟩)) ∧ f 8 = (.pointer (some ⟨g8, 0, none⟩)) ∧ f 30 = (.bool true) := ⟨fun i => tm.getD i undef, arr_eta tm hsz, hk1, hk2, hk3, hk6, hk8, hn30⟩
  rewrite [show ((List.range 84).map f).toArray = #[f 0, f 1, f 2, f 3, f 4, f 5, f 6, f 7, f 8, f 9, f 10, f 11, f 12, f 13, f 14, f 15, f 16, f 17, f 18, f 19, f 20, f 21, f 22, f 23, f 24, f 25, f 26, f 27, f 28, f 29, f 30, f 31, f 32, f 33, f 34, f 35, f 36, f 37, f 38, f 39, f 40, f 41, f 42, f 43, f 44, f 45, f 46, f 47, f 48, f 49, f 50, f 51, f 52, f 53, f 54, f 55, f 56, f 57, f 58, f 59, f 60, f 61, f 62, f 63, f 64, f 65, f 66, f 67, f 68, f 69, f 70, f 71, f 72, f 73, f 74, f 75, f 76, f 77, f 78, f 79, f 80, f 81, f 82, f 83] from rfl]
  rewrite [hk1, hk2, hk3, hk6, hk8, hn30]
  dsimp only
  clear hsz hk1 hk2 hk3 hk6 hk8 hn30
  replace T := T.grow hbT
  clear hbT
  obtain ⟨o0, o1, o2, o3, o4, c6⟩ := T.c6
  have HC6 := Kept.mk c6
  have HF6 := Kept.mk T.f6
  obtain ⟨hfl, hB5, hr5⟩ := ti_end T
  have HFL := Kept.mk hfl
  have HR5 := Kept.mk hr5
  obtain ⟨_, k0, k1, k2, k3, k4⟩ := T.c8
  clear T c6 hfl hr5
  go_wp2_with (refine wpList_store5 rfl (.tmp 6) (.tmp 31) rfl (w.heap.size + 1) _ _ _ _ _ rfl rfl HC6.out HF6.out oo1 oo2 rfl rfl rfl ?_)
  exact bodyPost_ret (results2 rfl _ _ (w.heap.size + 1) _ _ _ _ _ (.int .i64 1) rfl rfl HR5.out) rfl ⟨_, rfl, HFL.out, hB5⟩

/-- What an erase makes of a device, and what it tells. -/
def eraseF (F : Fl) (page : Int) : Fl :=
  if hasB F page = false then F else if F.dead = true then F else
  if F.fuse = 0 then { F with pages := F.pages.set page.toNat (betweenL (F.pages.getD page.toNat []) (List.replicate (F.pages.getD page.toNat []).length 255) F.torn), dead := true } else
  { F with pages := F.pages.set page.toNat (List.replicate (F.pages.getD page.toNat []).length 255), wear := F.wear.set page.toNat (wornN (F.wear.getD page.toNat 0)), fuse := if 0 < F.fuse then F.fuse - 1 else F.fuse }
def eraseE (F : Fl) (page : Int) : Int := if hasB F page = false then 1 else if F.dead = true then 8 else if F.fuse = 0 then 8 else 0
/-- What a program makes of it. -/
def fitsB (F : Fl) (page at_ : Int) (s : List UInt8) : Bool := decide (0 ≤ at_) && decide (at_ ≤ ((F.pages.getD page.toNat []).length : Int) - (s.length : Int))
def progF (F : Fl) (page at_ : Int) (s : List UInt8) : Fl :=
  if hasB F page = false then F else if fitsB F page at_ s = false then F else if F.dead = true then F else
  if F.fuse = 0 then { F with pages := F.pages.set page.toNat (betweenL (F.pages.getD page.toNat []) (progL (F.pages.getD page.toNat []) at_.toNat s) F.torn), dead := true } else
  { F with pages := F.pages.set page.toNat (progL (F.pages.getD page.toNat []) at_.toNat s), wear := F.wear.set page.toNat (F.wear.getD page.toNat 0), fuse := if 0 < F.fuse then F.fuse - 1 else F.fuse }
def progE (F : Fl) (page at_ : Int) (s : List UInt8) : Int := if hasB F page = false then 1 else if fitsB F page at_ s = false then 1 else if F.dead = true then 8 else if F.fuse = 0 then 8 else 0
theorem has_nat {F : Fl} {page : Int} (h : hasB F page = true) : ∃ k : Nat, page = (k : Int) := by
  unfold hasB at h
  simp only [Bool.and_eq_true, decide_eq_true_eq] at h
  exact Int.eq_ofNat_of_zero_le h.1.2
theorem take_e (F : Fl) (page : Int) (v : Value) (w : World) (hv : isFl F v w) (h1 : F.pages.length ≤ 1000000) (h2 : F.wear.length ≤ 1000000) (hfz : F.fuse ≤ 9223372036854775807) :
    Calls Tryz.prog 54 #[v, .int .i64 page, .iface 64 (.agg #[])] w fun e w' => ∃ v', e = .returned (.tuple #[v', .int .i64 (eraseE F page)]) ∧ isFlN w.heap.size (eraseF F page) v' w' ∧ Below w.heap.size w w' := by
  cases hh : hasB F page with
  | false =>
    rw [show eraseE F page = 1 by simp [eraseE, hh], show eraseF F page = F by simp [eraseF, hh]]
    exact take_eno F v w hv h1 h2 page hh
  | true =>
    obtain ⟨k, rfl⟩ := has_nat hh
    cases hd : F.dead with
    | true =>
      rw [show eraseE F k = 8 by simp [eraseE, hh, hd], show eraseF F k = F by simp [eraseF, hh, hd]]
      exact take_edead F v w hv k hd hh
    | false =>
      by_cases h0 : F.fuse = 0
      · rw [show eraseE F k = 8 by simp [eraseE, hh, hd, h0]]
        unfold eraseF
        rw [if_neg (by simp [hh]), if_neg (by simp [hd]), if_pos h0, Int.toNat_natCast]
        exact take_etorn F v w hv k hd h0 hh
      · rw [show eraseE F k = 0 by simp [eraseE, hh, hd, h0]]
        unfold eraseF
        rw [if_neg (by simp [hh]), if_neg (by simp [hd]), if_neg h0, Int.toNat_natCast]
        by_cases hp : 0 < F.fuse
        · rw [if_pos hp]
          exact take_eburn F v w hv k hd hp hfz hh
        · rw [if_neg hp]
          exact take_edone F v w hv k hd (by omega) hh
theorem take_p (F : Fl) (page at_ : Int) (s : List UInt8) (v : Value) (w : World) (hv : isFl F v w) (hs : s.length ≤ 1000000) (h1 : F.pages.length ≤ 1000000) (h2 : F.wear.length ≤ 1000000) (hfz : F.fuse ≤ 9223372036854775807) :
    Calls Tryz.prog 54 #[v, .int .i64 page, .iface 77 (.agg #[.int .i64 at_, .string ⟨s.toArray⟩])] w fun e w' => ∃ v', e = .returned (.tuple #[v', .int .i64 (progE F page at_ s)]) ∧ isFlN w.heap.size (progF F page at_ s) v' w' ∧ Below w.heap.size w w' := by
  cases hh : hasB F page with
  | false =>
    rw [show progE F page at_ s = 1 by simp [progE, hh], show progF F page at_ s = F by simp [progF, hh]]
    exact take_pno F v w hv h1 h2 at_ s hs page hh
  | true =>
    obtain ⟨k, rfl⟩ := has_nat hh
    cases hf : fitsB F k at_ s with
    | false =>
      rw [show progE F k at_ s = 1 by simp [progE, hh, hf], show progF F k at_ s = F by simp [progF, hh, hf]]
      unfold fitsB at hf
      rw [Int.toNat_natCast] at hf
      exact take_pout F v w hv k at_ s hs hf hh
    | true =>
      have hf' := hf
      unfold fitsB at hf'
      rw [Int.toNat_natCast] at hf'
      simp only [Bool.and_eq_true, decide_eq_true_eq] at hf'
      obtain ⟨n, rfl⟩ := Int.eq_ofNat_of_zero_le hf'.1
      cases hd : F.dead with
      | true =>
        rw [show progE F k n s = 8 by simp [progE, hh, hd, hf], show progF F k n s = F by simp [progF, hh, hd, hf]]
        exact take_pdead F v w hv k n s hs (by omega) hd hh
      | false =>
        by_cases h0 : F.fuse = 0
        · rw [show progE F k n s = 8 by simp [progE, hh, hd, h0, hf]]
          unfold progF
          rw [if_neg (by simp [hh]), if_neg (by simp [hf]), if_neg (by simp [hd]), if_pos h0, Int.toNat_natCast, Int.toNat_natCast]
          exact take_ptorn F v w hv k n s hs (by omega) hd h0 hh
        · rw [show progE F k n s = 0 by simp [progE, hh, hd, h0, hf]]
          unfold progF
          rw [if_neg (by simp [hh]), if_neg (by simp [hf]), if_neg (by simp [hd]), if_neg h0, Int.toNat_natCast, Int.toNat_natCast]
          by_cases hp : 0 < F.fuse
          · rw [if_pos hp]
            exact take_pburn F v w hv k n s hs (by omega) hd hp hfz hh
          · rw [if_neg hp]
            exact take_pdone F v w hv k n s hs (by omega) hd (by omega) hh
end Go.Proofs.YtipiioggdalkoaaGreatDoor
