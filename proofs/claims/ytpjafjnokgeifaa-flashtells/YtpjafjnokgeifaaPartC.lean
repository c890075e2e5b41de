/- Joined texts: contracts of the program's functions, and the mathematics that they lean on. -/
import Derived.Test.YtpjafjnokgeifaaPartB
import Derived.Handy
import Derived.Laws.CopyRow
import Derived.Shelf.Strings.Builder1
import Derived.Shelf.Strings.Builder2
import Derived.Shelf.Strings.BuilderF
import Derived.Shelf.Strings.Prefix
import Derived.Shelf.Bits.Mul64
import Derived.Shelf.Strings.Repeat
import Derived.Shelf.Slices.Equal
import Derived.Ground.Names2Prog
import Derived.Shelf.Slices.Clone
import Derived.Shelf.Slices.Empties2
import Derived.Test.YtpjafjnokgeifaaProg
import Derived.Laws.CopyOwn
section
namespace Go.Proofs.Ytpjafjnokgeifaa
open Go.RowKit
set_option linter.unusedVariables false
set_option linter.unusedSimpArgs false
attribute [local irreducible] set5

theorem has_facts (F : Fl) (k : Nat) (h : hasB F (k : Int) = true) : k < F.pages.length ∧ F.pages.length ≤ 6 ∧ F.wear.length = F.pages.length ∧ F.torn.length ≤ 64 ∧ (∀ x ∈ F.pages, 1 ≤ x.length ∧ x.length ≤ 8192 ∧ x.length = (F.pages.headD []).length) ∧ ∀ x ∈ F.wear, 0 ≤ x ∧ x ≤ 2147483647 := by
  unfold hasB mayB oneSize okWear at h
  simp only [Bool.and_eq_true, decide_eq_true_eq, List.all_eq_true] at h
  obtain ⟨⟨⟨⟨⟨⟨h1, h2⟩, ⟨⟨h3, h4⟩, h5⟩⟩, h6, h7⟩, h8⟩, h9⟩, h10⟩ := h
  refine ⟨by omega, by omega, h6, by omega, fun x hx => ?_, fun x hx => h7 x hx⟩
  have := h5 x hx
  omega
/-- Where a device is copied first. -/
theorem ti_start (F : Fl) (w w1 : World) (vp vw vp' vw' : Value) (hp : isCells (F.pages.map strC) vp w) (hq : isCells (F.wear.map intC) vw w)
    (hb1 : Below (((w.alloc (.cells #[vp, vw, .int .i64 F.fuse, strC F.torn, .bool F.dead] 25)).alloc (.cells #[.slice none 0 0, .slice none 0 0, .int .i64 0, .string ⟨#[]⟩, .bool false] 25))).heap.size ((w.alloc (.cells #[vp, vw, .int .i64 F.fuse, strC F.torn, .bool F.dead] 25)).alloc (.cells #[.slice none 0 0, .slice none 0 0, .int .i64 0, .string ⟨#[]⟩, .bool false] 25)) w1)
    (ho1 : isOwn ((w.alloc (.cells #[vp, vw, .int .i64 F.fuse, strC F.torn, .bool F.dead] 25)).alloc (.cells #[.slice none 0 0, .slice none 0 0, .int .i64 0, .string ⟨#[]⟩, .bool false] 25)).heap.size 9 (F.pages.map strC) vp' w1)
    (ho2 : isOwn ((w.alloc (.cells #[vp, vw, .int .i64 F.fuse, strC F.torn, .bool F.dead] 25)).alloc (.cells #[.slice none 0 0, .slice none 0 0, .int .i64 0, .string ⟨#[]⟩, .bool false] 25)).heap.size 3 (F.wear.map intC) vw' w1) :
    TI w (set5 (w1.alloc (.cells #[.slice none 0 0, .slice none 0 0, .int .i64 0, .string ⟨#[]⟩, .bool false] 25)) w1.heap.size vp' vw' (.int .i64 F.fuse) (strC F.torn) (.bool F.dead)) (w.heap.size + 2) w1.heap.size w.heap.size (w.heap.size + 1) w1.heap.size F F vp vw vp' vw' := by
  have hb0 : Below w.heap.size w ((w.alloc (.cells #[vp, vw, .int .i64 F.fuse, strC F.torn, .bool F.dead] 25)).alloc (.cells #[.slice none 0 0, .slice none 0 0, .int .i64 0, .string ⟨#[]⟩, .bool false] 25)) := ((Below.refl _ _).alloc (Nat.le_refl _) _).alloc (by simp) _
  have hbn := (Below.refl (w.alloc (.cells #[vp, vw, .int .i64 F.fuse, strC F.torn, .bool F.dead] 25)).heap.size (w.alloc (.cells #[vp, vw, .int .i64 F.fuse, strC F.torn, .bool F.dead] 25))).alloc (Nat.le_refl _) (.cells #[.slice none 0 0, .slice none 0 0, .int .i64 0, .string ⟨#[]⟩, .bool false] 25)
  have hbz := (Below.refl w1.heap.size w1).alloc (Nat.le_refl _) (.cells #[.slice none 0 0, .slice none 0 0, .int .i64 0, .string ⟨#[]⟩, .bool false] 25)
  have hs1 : w.heap.size + 2 ≤ w1.heap.size := by have := hb1.size; simp at this; omega
  have hsz : ((w.alloc (.cells #[vp, vw, .int .i64 F.fuse, strC F.torn, .bool F.dead] 25)).alloc (.cells #[.slice none 0 0, .slice none 0 0, .int .i64 0, .string ⟨#[]⟩, .bool false] 25)).heap.size = w.heap.size + 2 := by simp
  have c3 := (((cells5_new w 25 vp vw (.int .i64 F.fuse) (strC F.torn) (.bool F.dead)).keep hbn (by simp)).keep hb1 (by simp <;> omega)).keep hbz (by omega)
  have c6 := ((cells5_at (w.alloc (.cells #[vp, vw, .int .i64 F.fuse, strC F.torn, .bool F.dead] 25)) 25 (.slice none 0 0) (.slice none 0 0) (.int .i64 0) (.string ⟨#[]⟩) (.bool false) (w.heap.size + 1) (by simp)).keep hb1 (by simp <;> omega)).keep hbz (by omega)
  have f6 := ((free5_at (w.alloc (.cells #[vp, vw, .int .i64 F.fuse, strC F.torn, .bool F.dead] 25)) #[.slice none 0 0, .slice none 0 0, .int .i64 0, .string ⟨#[]⟩, .bool false] 25 (w.heap.size + 1) (by simp)).keep hb1 (by simp <;> omega)).keep hbz (by omega)
  have c8 := (cells5_new w1 25 (.slice none 0 0) (.slice none 0 0) (.int .i64 0) (.string ⟨#[]⟩) (.bool false))
  have f8 := free5_new w1 #[.slice none 0 0, .slice none 0 0, .int .i64 0, .string ⟨#[]⟩, .bool false] 25
  rw [hsz] at ho1 ho2
  have hbt : ∀ {e : TypeId} {cs : List Value} {v : Value}, isOwn (w.heap.size + 2) e cs v w1 → isBtw (w.heap.size + 2) w1.heap.size e cs v (set5 (w1.alloc (.cells #[.slice none 0 0, .slice none 0 0, .int .i64 0, .string ⟨#[]⟩, .bool false] 25)) w1.heap.size vp' vw' (.int .i64 F.fuse) (strC F.torn) (.bool F.dead)) := by
    intro e cs v h
    have h' := (isBtw_own h).grow hbz
    unfold set5
    exact ((((h'.out (p := ⟨w1.heap.size, 0, none⟩) (.inr (Nat.le_refl _)) _).out (p := ⟨w1.heap.size, 1, none⟩) (.inr (Nat.le_refl _)) _).out (p := ⟨w1.heap.size, 2, none⟩) (.inr (Nat.le_refl _)) _).out (p := ⟨w1.heap.size, 3, none⟩) (.inr (Nat.le_refl _)) _).out (p := ⟨w1.heap.size, 4, none⟩) (.inr (Nat.le_refl _)) _
  exact {
    below := below_set5 ((hb0.trans (hb1.mono hb0.size)).alloc (by omega) _) (by omega) _ _ _ _ _
    o3 := ⟨Nat.le_refl _, by omega⟩
    o6 := ⟨by omega, by omega⟩
    o36 := by omega
    o8 := ⟨by omega, hs1, Nat.le_refl _⟩
    c3 := c3.apart5 _ _ _ _ _ (by omega)
    c6 := ⟨_, _, _, _, _, c6.apart5 _ _ _ _ _ (by omega)⟩
    f6 := f6.set5_ _ _ _ _ _ _
    c8 := c8.set5_ _ _ _ _ _
    f8 := f8.set5_ _ _ _ _ _ _
    p := hp
    q := hq
    p' := hbt ho1
    q' := hbt ho2 }
theorem ti_end {w0 W : World} {lo hi g3 g6 g8 : Nat} {F G : Fl} {vp vw vp' vw' : Value} (h : TI w0 W lo hi g3 g6 g8 F G vp vw vp' vw') :
    isFlN w0.heap.size G (.agg #[vp', vw', .int .i64 G.fuse, strC G.torn, .bool G.dead]) (set5 W g6 vp' vw' (.int .i64 G.fuse) (strC G.torn) (.bool G.dead)) ∧ Below w0.heap.size w0 (set5 W g6 vp' vw' (.int .i64 G.fuse) (strC G.torn) (.bool G.dead)) ∧
      Cells5 (set5 W g6 vp' vw' (.int .i64 G.fuse) (strC G.torn) (.bool G.dead)) g6 vp' vw' (.int .i64 G.fuse) (strC G.torn) (.bool G.dead) := by
  have o6 := h.o6
  obtain ⟨o0, o1, o2, o3, o4, c6⟩ := h.c6
  have hbt : ∀ {e : TypeId} {cs : List Value} {v : Value}, isBtw lo hi e cs v W → isBtw lo hi e cs v (set5 W g6 vp' vw' (.int .i64 G.fuse) (strC G.torn) (.bool G.dead)) := by
    intro e cs v h'
    unfold set5
    exact ((((h'.out (p := ⟨g6, 0, none⟩) (.inl o6.2) _).out (p := ⟨g6, 1, none⟩) (.inl o6.2) _).out (p := ⟨g6, 2, none⟩) (.inl o6.2) _).out (p := ⟨g6, 3, none⟩) (.inl o6.2) _).out (p := ⟨g6, 4, none⟩) (.inl o6.2) _
  have o8 := h.o8
  have hs8 := h.c8.1
  exact ⟨⟨vp', vw', rfl, (hbt h.p').weak (by omega) (by rw [size_set5]; omega), (hbt h.q').weak (by omega) (by rw [size_set5]; omega)⟩, below_set5 h.below o6.1 _ _ _ _ _, c6.set5_ _ _ _ _ _⟩

set_option maxRecDepth 100000 in
set_option maxHeartbeats 2000000 in
theorem take_eno (F : Fl) (v : Value) (w : World) (hv : isFl F v w) (h1 : F.pages.length ≤ 1000000) (h2 : F.wear.length ≤ 1000000) (page : Int) (hhas : hasB F page = false) :
    Calls Try.prog 60 #[v, .int .i64 page, (.iface 69 (.agg #[]))] w fun e w' => ∃ v', e = .returned (.tuple #[v', .int .i64 1]) ∧ isFlN w.heap.size F v' w' ∧ Below w.heap.size w w' := by
  obtain ⟨vp, vw, rfl, hp, hq⟩ := hv
  have hb0 : Below w.heap.size w ((w.alloc (.cells #[vp, vw, .int .i64 F.fuse, strC F.torn, .bool F.dead] 25)).alloc (.cells #[.slice none 0 0, .slice none 0 0, .int .i64 0, .string ⟨#[]⟩, .bool false] 25)) := ((Below.refl _ _).alloc (Nat.le_refl _) _).alloc (by simp) _
  have HP := Lib.hid hp
  have HQ := Lib.hid hq
  have HB0 := Lib.hid hb0
  clear hp hq hb0
  go_enter Try.func60, Try.ntmps60
  go_wp2_with fail
  refine (copied_any F _ _ ⟨vp, vw, rfl, stable_cells _ _ _ _ HP.out HB0.out, stable_cells _ _ _ _ HQ.out HB0.out⟩ (by omega) (by omega)).mono ?_
  rintro e w1 ⟨vp', vw', rfl, ho1, ho2, hb1⟩
  have TI0 := Lib.hid (ti_start F w w1 vp vw vp' vw' HP.out HQ.out hb1 ho1 ho2)
  have HC8 := Lib.hid (cells5_new w1 25 (.slice none 0 0) (.slice none 0 0) (.int .i64 0) (.string ⟨#[]⟩) (.bool false))
  have HF8 := Lib.hid (free5_new w1 #[.slice none 0 0, .slice none 0 0, .int .i64 0, .string ⟨#[]⟩, .bool false] 25)
  have oo1 := (ho1.one).2
  have oo2 := (ho2.one).2
  clear ho1 ho2 hb1 HB0
  go_wp2_with (refine wpList_store5 rfl (.tmp 8) (.tmp 12) rfl w1.heap.size vp' vw' (.int .i64 F.fuse) (strC F.torn) (.bool F.dead) rfl rfl HC8.out HF8.out oo1 oo2 rfl rfl rfl ?_)
  have T := TI0.out
  clear TI0 HC8 HF8
  generalize set5 (w1.alloc (.cells #[.slice none 0 0, .slice none 0 0, .int .i64 0, .string ⟨#[]⟩, .bool false] 25)) w1.heap.size vp' vw' (.int .i64 F.fuse) (strC F.torn) (.bool F.dead) = W at *
  generalize w1.heap.size = g8 at *
  refine take2_eno _ _ _ rfl w.heap.size F vp vw page rfl rfl rfl T.c3 T.fl (by omega) (by omega) hhas ?_
  intro act W2 hdf hsz hkeep hn30 hbT
  have hk1 : act.tmps.getD 1 undef = (.int .i64 page) := hkeep 1 (by kernel_rfl)
  have hk2 : act.tmps.getD 2 undef = (.iface 69 (.agg #[])) := hkeep 2 (by kernel_rfl)
  have hk3 : act.tmps.getD 3 undef = (.pointer (some ⟨w.heap.size, 0, none⟩)) := hkeep 3 (by kernel_rfl)
  have hk6 : act.tmps.getD 6 undef = (.pointer (some ⟨w.heap.size + 1, 0, none⟩)) := hkeep 6 (by kernel_rfl)
  have hk8 : act.tmps.getD 8 undef = (.pointer (some ⟨g8, 0, none⟩)) := hkeep 8 (by kernel_rfl)
  obtain ⟨tm, df⟩ := act
  obtain rfl : df = [] := hdf
  clear hkeep
  obtain ⟨f, rfl, hk1, hk2, hk3, hk6, hk8, hn30⟩ : ∃ f : Nat → Value, tm = ((List.range 84).map f).toArray ∧ f 1 = (.int .i64 page) ∧ f 2 = (.iface 69 (.agg #[])) ∧ f 3 = (.pointer (some ⟨w.heap.size, 0, none⟩)) ∧ f 6 = (.pointer (some ⟨w.heap.size + 1, 0, none⟩)) ∧ f 8 = (.pointer (some ⟨g8, 0, none⟩)) ∧ f 30 = (.bool true) := ⟨fun i => tm.getD i undef, arr_eta tm hsz, hk1, hk2, hk3, hk6, hk8, hn30⟩
  rewrite [show ((List.range 84).map f).toArray = #[f 0, f 1, f 2, f 3, f 4, f 5, f 6, f 7, f 8, f 9, f 10, f 11, f 12, f 13, f 14, f 15, f 16, f 17, f 18, f 19, f 20, f 21, f 22, f 23, f 24, f 25, f 26, f 27, f 28, f 29, f 30, f 31, f 32, f 33, f 34, f 35, f 36, f 37, f 38, f 39, f 40, f 41, f 42, f 43, f 44, f 45, f 46, f 47, f 48, f 49, f 50, f 51, f 52, f 53, f 54, f 55, f 56, f 57, f 58, f 59, f 60, f 61, f 62, f 63, f 64, f 65, f 66, f 67, f 68, f 69, f 70, f 71, f 72, f 73, f 74, f 75, f 76, f 77, f 78, f 79, f 80, f 81, f 82, f 83] from rfl]
  rewrite [hk1, hk2, hk3, hk6, hk8, hn30]
  dsimp only
  clear hsz hk1 hk2 hk3 hk6 hk8 hn30
  replace T := T.grow hbT
  clear hbT
  obtain ⟨o0, o1, o2, o3, o4, c6⟩ := T.c6
  have HC6 := Kept.mk c6
  have HF6 := Kept.mk T.f6
  obtain ⟨hfl, hB5, hr5⟩ := ti_end T
  have HFL := Kept.mk hfl
  have HR5 := Kept.mk hr5
  obtain ⟨_, k0, k1, k2, k3, k4⟩ := T.c8
  clear T c6 hfl hr5
  go_wp2_with (refine wpList_store5 rfl (.tmp 6) (.tmp 31) rfl (w.heap.size + 1) _ _ _ _ _ rfl rfl HC6.out HF6.out oo1 oo2 rfl rfl rfl ?_)
  exact bodyPost_ret (results2 rfl _ _ (w.heap.size + 1) _ _ _ _ _ (.int .i64 1) rfl rfl HR5.out) rfl ⟨_, rfl, HFL.out, hB5⟩

set_option maxRecDepth 100000 in
set_option maxHeartbeats 2000000 in
theorem take_pno (F : Fl) (v : Value) (w : World) (hv : isFl F v w) (h1 : F.pages.length ≤ 1000000) (h2 : F.wear.length ≤ 1000000) (at_ : Int) (s : List UInt8) (hs : s.length ≤ 1000000) (page : Int) (hhas : hasB F page = false) :
    Calls Try.prog 60 #[v, .int .i64 page, (.iface 67 (.agg #[.int .i64 at_, .string ⟨s.toArray⟩]))] w fun e w' => ∃ v', e = .returned (.tuple #[v', .int .i64 1]) ∧ isFlN w.heap.size F v' w' ∧ Below w.heap.size w w' := by
  obtain ⟨vp, vw, rfl, hp, hq⟩ := hv
  have hb0 : Below w.heap.size w ((w.alloc (.cells #[vp, vw, .int .i64 F.fuse, strC F.torn, .bool F.dead] 25)).alloc (.cells #[.slice none 0 0, .slice none 0 0, .int .i64 0, .string ⟨#[]⟩, .bool false] 25)) := ((Below.refl _ _).alloc (Nat.le_refl _) _).alloc (by simp) _
  have HP := Lib.hid hp
  have HQ := Lib.hid hq
  have HB0 := Lib.hid hb0
  clear hp hq hb0
  go_enter Try.func60, Try.ntmps60
  go_wp2_with fail
  refine (copied_any F _ _ ⟨vp, vw, rfl, stable_cells _ _ _ _ HP.out HB0.out, stable_cells _ _ _ _ HQ.out HB0.out⟩ (by omega) (by omega)).mono ?_
  rintro e w1 ⟨vp', vw', rfl, ho1, ho2, hb1⟩
  have TI0 := Lib.hid (ti_start F w w1 vp vw vp' vw' HP.out HQ.out hb1 ho1 ho2)
  have HC8 := Lib.hid (cells5_new w1 25 (.slice none 0 0) (.slice none 0 0) (.int .i64 0) (.string ⟨#[]⟩) (.bool false))
  have HF8 := Lib.hid (free5_new w1 #[.slice none 0 0, .slice none 0 0, .int .i64 0, .string ⟨#[]⟩, .bool false] 25)
  have oo1 := (ho1.one).2
  have oo2 := (ho2.one).2
  clear ho1 ho2 hb1 HB0
  go_wp2_with (refine wpList_store5 rfl (.tmp 8) (.tmp 12) rfl w1.heap.size vp' vw' (.int .i64 F.fuse) (strC F.torn) (.bool F.dead) rfl rfl HC8.out HF8.out oo1 oo2 rfl rfl rfl ?_)
  have T := TI0.out
  clear TI0 HC8 HF8
  generalize set5 (w1.alloc (.cells #[.slice none 0 0, .slice none 0 0, .int .i64 0, .string ⟨#[]⟩, .bool false] 25)) w1.heap.size vp' vw' (.int .i64 F.fuse) (strC F.torn) (.bool F.dead) = W at *
  generalize w1.heap.size = g8 at *
  refine take2_pno _ _ _ rfl w.heap.size F vp vw at_ s hs page rfl rfl rfl T.c3 T.fl (by omega) (by omega) hhas ?_
  intro act W2 hdf hsz hkeep hn30 hbT
  have hk1 : act.tmps.getD 1 undef = (.int .i64 page) := hkeep 1 (by kernel_rfl)
  have hk2 : act.tmps.getD 2 undef = (.iface 67 (.agg #[.int .i64 at_, .string ⟨s.toArray⟩])) := hkeep 2 (by kernel_rfl)
  have hk3 : act.tmps.getD 3 undef = (.pointer (some ⟨w.heap.size, 0, none⟩)) := hkeep 3 (by kernel_rfl)
  have hk6 : act.tmps.getD 6 undef = (.pointer (some ⟨w.heap.size + 1, 0, none⟩)) := hkeep 6 (by kernel_rfl)
  have hk8 : act.tmps.getD 8 undef = (.pointer (some ⟨g8, 0, none⟩)) := hkeep 8 (by kernel_rfl)
  obtain ⟨tm, df⟩ := act
  obtain rfl : df = [] := hdf
  clear hkeep
  obtain ⟨f, rfl, hk1, hk2, hk3, hk6, hk8, hn30⟩ : ∃ f : Nat → Value, tm = ((List.range 84).map f).toArray ∧ f 1 = (.int .i64 page) ∧ f 2 = (.iface 67 (.agg #[.int .i64 at_, .string ⟨s.toArray⟩])) ∧ f 3 = (.pointer (some ⟨w.heap.size, 0, none⟩)) ∧ f 6 = (.pointer (some ⟨w.heap.size + 1, 0, none⟩)) ∧ f 8 = (.pointer (some ⟨g8, 0, none⟩)) ∧ f 30 = (.bool true) := ⟨fun i => tm.getD i undef, arr_eta tm hsz, hk1, hk2, hk3, hk6, hk8, hn30⟩
  rewrite [show ((List.range 84).map f).toArray = #[f 0, f 1, f 2, f 3, f 4, f 5, f 6, f 7, f 8, f 9, f 10, f 11, f 12, f 13, f 14, f 15, f 16, f 17, f 18, f 19, f 20, f 21, f 22, f 23, f 24, f 25, f 26, f 27, f 28, f 29, f 30, f 31, f 32, f 33, f 34, f 35, f 36, f 37, f 38, f 39, f 40, f 41, f 42, f 43, f 44, f 45, f 46, f 47, f 48, f 49, f 50, f 51, f 52, f 53, f 54, f 55, f 56, f 57, f 58, f 59, f 60, f 61, f 62, f 63, f 64, f 65, f 66, f 67, f 68, f 69, f 70, f 71, f 72, f 73, f 74, f 75, f 76, f 77, f 78, f 79, f 80, f 81, f 82, f 83] from rfl]
  rewrite [hk1, hk2, hk3, hk6, hk8, hn30]
  dsimp only
  clear hsz hk1 hk2 hk3 hk6 hk8 hn30
  replace T := T.grow hbT
  clear hbT
  obtain ⟨o0, o1, o2, o3, o4, c6⟩ := T.c6
  have HC6 := Kept.mk c6
  have HF6 := Kept.mk T.f6
  obtain ⟨hfl, hB5, hr5⟩ := ti_end T
  have HFL := Kept.mk hfl
  have HR5 := Kept.mk hr5
  obtain ⟨_, k0, k1, k2, k3, k4⟩ := T.c8
  clear T c6 hfl hr5
  go_wp2_with (refine wpList_store5 rfl (.tmp 6) (.tmp 31) rfl (w.heap.size + 1) _ _ _ _ _ rfl rfl HC6.out HF6.out oo1 oo2 rfl rfl rfl ?_)
  exact bodyPost_ret (results2 rfl _ _ (w.heap.size + 1) _ _ _ _ _ (.int .i64 1) rfl rfl HR5.out) rfl ⟨_, rfl, HFL.out, hB5⟩

set_option maxRecDepth 100000 in
set_option maxHeartbeats 2000000 in
theorem take_edead (F : Fl) (v : Value) (w : World) (hv : isFl F v w) (k : Nat) (hdead : F.dead = true) (hhas : hasB F (k : Int) = true) :
    Calls Try.prog 60 #[v, .int .i64 (k : Int), (.iface 69 (.agg #[]))] w fun e w' => ∃ v', e = .returned (.tuple #[v', .int .i64 8]) ∧ isFlN w.heap.size F v' w' ∧ Below w.heap.size w w' := by
  have HDD := Kept.mk hdead
  clear hdead
  have HHF := Kept.mk (has_facts F k hhas)
  obtain ⟨hk, h6, hwl, htl, hpg, hwr⟩ := HHF.out
  obtain ⟨was, hwas⟩ : ∃ was, F.pages[k]? = some was := ⟨_, List.getElem?_eq_getElem hk⟩
  obtain ⟨wn, hwn⟩ : ∃ wn, F.wear[k]? = some wn := ⟨_, List.getElem?_eq_getElem (by omega)⟩
  have hwm : was.length ≤ 8192 := (hpg _ (List.mem_of_getElem? hwas)).2.1
  have hn01 := hwr wn (List.mem_of_getElem? hwn)
  obtain ⟨vp, vw, rfl, hp, hq⟩ := hv
  obtain ⟨b, off, cap, hvp, hb, hc⟩ := hp.some_ (by rw [List.length_map]; omega)
  obtain ⟨b2, off2, cap2, hvw, hb2, hc2⟩ := hq.some_ (by rw [List.length_map]; omega)
  rw [List.length_map] at hvp hvw
  subst hvp hvw
  have hcell : w.cell? ⟨b, off + k, none⟩ = some (.string ⟨was.toArray⟩) := hc k _ (by simp [hwas, strC])
  have hcell2 : w.cell? ⟨b2, off2 + k, none⟩ = some (.int .i64 wn) := hc2 k _ (by simp [hwn, intC])
  have hkw : k < F.wear.length := by omega
  have hwl6 : F.wear.length ≤ 6 := by omega
  have HWL := Kept.mk hwl
  clear hwl
  have hget1 : F.pages.getD k [] = was := by simp [List.getD_eq_getElem?_getD, hwas]
  have hget2 : F.wear.getD k 0 = wn := by simp [List.getD_eq_getElem?_getD, hwn]
  try rw [hget1]
  try rw [hget2]
  clear hget1 hget2
  have HW := Kept.mk hwas
  have HWN := Kept.mk hwn
  have HC1 := Kept.mk hcell
  have HC2 := Kept.mk hcell2
  have hb0 : Below w.heap.size w ((w.alloc (.cells #[.slice (some ⟨b, off, none⟩) F.pages.length cap, .slice (some ⟨b2, off2, none⟩) F.wear.length cap2, .int .i64 F.fuse, strC F.torn, .bool F.dead] 25)).alloc (.cells #[.slice none 0 0, .slice none 0 0, .int .i64 0, .string ⟨#[]⟩, .bool false] 25)) := ((Below.refl _ _).alloc (Nat.le_refl _) _).alloc (by simp) _
  have HP := Kept.mk hp
  have HQ := Kept.mk hq
  have HB0 := Kept.mk hb0
  clear hp hq hb0 hc hc2 hcell hcell2 hwas hwn hpg hwr
  go_enter Try.func60, Try.ntmps60
  go_wp2_with fail
  refine (copied_any F _ _ ⟨.slice (some ⟨b, off, none⟩) F.pages.length cap, .slice (some ⟨b2, off2, none⟩) F.wear.length cap2, rfl, stable_cells _ _ _ _ HP.out HB0.out, stable_cells _ _ _ _ HQ.out HB0.out⟩ (by omega) (by omega)).mono ?_
  rintro e w1 ⟨vp', vw', rfl, ho1, ho2, hb1⟩
  have TI0 := Lib.hid (ti_start F w w1 (.slice (some ⟨b, off, none⟩) F.pages.length cap) (.slice (some ⟨b2, off2, none⟩) F.wear.length cap2) vp' vw' HP.out HQ.out hb1 ho1 ho2)
  have HC8 := Lib.hid (cells5_new w1 25 (.slice none 0 0) (.slice none 0 0) (.int .i64 0) (.string ⟨#[]⟩) (.bool false))
  have HF8 := Lib.hid (free5_new w1 #[.slice none 0 0, .slice none 0 0, .int .i64 0, .string ⟨#[]⟩, .bool false] 25)
  have oo1 := (ho1.one).2
  have oo2 := (ho2.one).2
  clear ho1 ho2 hb1 HB0
  go_wp2_with (refine wpList_store5 rfl (.tmp 8) (.tmp 12) rfl w1.heap.size vp' vw' (.int .i64 F.fuse) (strC F.torn) (.bool F.dead) rfl rfl HC8.out HF8.out oo1 oo2 rfl rfl rfl ?_)
  have T := TI0.out
  clear TI0 HC8 HF8
  generalize set5 (w1.alloc (.cells #[.slice none 0 0, .slice none 0 0, .int .i64 0, .string ⟨#[]⟩, .bool false] 25)) w1.heap.size vp' vw' (.int .i64 F.fuse) (strC F.torn) (.bool F.dead) = W at *
  generalize w1.heap.size = g8 at *
  refine take2_eyes _ _ _ rfl w.heap.size F _ k b off F.pages.length cap was hk ((T.below.cell (p := ⟨b, off + k, none⟩) hb).trans HC1.out) (Nat.lt_of_lt_of_le hb T.below.size) (by omega) rfl rfl rfl T.c3 T.fl (by omega) (by omega) hhas ?_
  intro act W2 hdf hsz hkeep hn30 hbT
  have hk1 : act.tmps.getD 1 undef = (.int .i64 (k : Int)) := hkeep 1 (by kernel_rfl)
  have hk2 : act.tmps.getD 2 undef = (.iface 69 (.agg #[])) := hkeep 2 (by kernel_rfl)
  have hk3 : act.tmps.getD 3 undef = (.pointer (some ⟨w.heap.size, 0, none⟩)) := hkeep 3 (by kernel_rfl)
  have hk6 : act.tmps.getD 6 undef = (.pointer (some ⟨w.heap.size + 1, 0, none⟩)) := hkeep 6 (by kernel_rfl)
  have hk8 : act.tmps.getD 8 undef = (.pointer (some ⟨g8, 0, none⟩)) := hkeep 8 (by kernel_rfl)
  obtain ⟨tm, df⟩ := act
  obtain rfl : df = [] := hdf
  clear hkeep
  obtain ⟨f, rfl, hk1, hk2, hk3, hk6, hk8, hn30⟩ : ∃ f : Nat → Value, tm = ((List.range 84).map f).toArray ∧ f 1 = (.int .i64 (k : Int)) ∧ f 2 = (.iface 69 (.agg #[])) ∧ f 3 = (.pointer (some ⟨w.heap.size, 0, none⟩)) ∧ f 6 = (.pointer (some ⟨w.heap.size + 1, 0, none⟩)) ∧ f 8 = (.pointer (some ⟨g8, 0, none⟩)) ∧ f 30 = (.bool false) := ⟨fun i => tm.getD i undef, arr_eta tm hsz, hk1, hk2, hk3, hk6, hk8, hn30⟩
  rewrite [show ((List.range 84).map f).toArray = #[f 0, f 1, f 2, f 3, f 4, f 5, f 6, f 7, f 8, f 9, f 10, f 11, f 12, f 13, f 14, f 15, f 16, f 17, f 18, f 19, f 20, f 21, f 22, f 23, f 24, f 25, f 26, f 27, f 28, f 29, f 30, f 31, f 32, f 33, f 34, f 35, f 36, f 37, f 38, f 39, f 40, f 41, f 42, f 43, f 44, f 45, f 46, f 47, f 48, f 49, f 50, f 51, f 52, f 53, f 54, f 55, f 56, f 57, f 58, f 59, f 60, f 61, f 62, f 63, f 64, f 65, f 66, f 67, f 68, f 69, f 70, f 71, f 72, f 73, f 74, f 75, f 76, f 77, f 78, f 79, f 80, f 81, f 82, f 83] from rfl]
  rewrite [hk1, hk2, hk3, hk6, hk8, hn30]
  dsimp only
  clear hsz hk1 hk2 hk3 hk6 hk8 hn30
  replace T := T.grow hbT
  clear hbT
  have b4 : W2.cell? ⟨w.heap.size, 4, none⟩ = some (.bool true) := by rw [← HDD.out]; exact T.c3.2.2.2.2.2
  obtain ⟨o0, o1, o2, o3, o4, c6⟩ := T.c6
  have HC6 := Kept.mk c6
  have HF6 := Kept.mk T.f6
  obtain ⟨hfl, hB5, hr5⟩ := ti_end T
  have HFL := Kept.mk hfl
  have HR5 := Kept.mk hr5
  obtain ⟨_, k0, k1, k2, k3, k4⟩ := T.c8
  clear T c6 hfl hr5
  go_wp2_with (refine wpList_store5 rfl (.tmp 6) (.tmp 34) rfl (w.heap.size + 1) _ _ _ _ _ rfl rfl HC6.out HF6.out oo1 oo2 rfl rfl rfl ?_)
  exact bodyPost_ret (results2 rfl _ _ (w.heap.size + 1) _ _ _ _ _ (.int .i64 8) rfl rfl HR5.out) rfl ⟨_, rfl, HFL.out, hB5⟩

set_option maxRecDepth 100000 in
set_option maxHeartbeats 2000000 in
theorem take_etorn (F : Fl) (v : Value) (w : World) (hv : isFl F v w) (k : Nat) (hdead : F.dead = false) (hfuse : F.fuse = 0) (hhas : hasB F (k : Int) = true) :
    Calls Try.prog 60 #[v, .int .i64 (k : Int), (.iface 69 (.agg #[]))] w fun e w' => ∃ v', e = .returned (.tuple #[v', .int .i64 8]) ∧ isFlN w.heap.size { F with pages := F.pages.set k (betweenL (F.pages.getD k []) (List.replicate (F.pages.getD k []).length 255) F.torn), dead := true } v' w' ∧ Below w.heap.size w w' := by
  have HDD := Kept.mk hdead
  clear hdead
  have HFU := Kept.mk hfuse
  clear hfuse
  have HHF := Kept.mk (has_facts F k hhas)
  obtain ⟨hk, h6, hwl, htl, hpg, hwr⟩ := HHF.out
  obtain ⟨was, hwas⟩ : ∃ was, F.pages[k]? = some was := ⟨_, List.getElem?_eq_getElem hk⟩
  obtain ⟨wn, hwn⟩ : ∃ wn, F.wear[k]? = some wn := ⟨_, List.getElem?_eq_getElem (by omega)⟩
  have hwm : was.length ≤ 8192 := (hpg _ (List.mem_of_getElem? hwas)).2.1
  have hn01 := hwr wn (List.mem_of_getElem? hwn)
  obtain ⟨vp, vw, rfl, hp, hq⟩ := hv
  obtain ⟨b, off, cap, hvp, hb, hc⟩ := hp.some_ (by rw [List.length_map]; omega)
  obtain ⟨b2, off2, cap2, hvw, hb2, hc2⟩ := hq.some_ (by rw [List.length_map]; omega)
  rw [List.length_map] at hvp hvw
  subst hvp hvw
  have hcell : w.cell? ⟨b, off + k, none⟩ = some (.string ⟨was.toArray⟩) := hc k _ (by simp [hwas, strC])
  have hcell2 : w.cell? ⟨b2, off2 + k, none⟩ = some (.int .i64 wn) := hc2 k _ (by simp [hwn, intC])
  have hkw : k < F.wear.length := by omega
  have hwl6 : F.wear.length ≤ 6 := by omega
  have HWL := Kept.mk hwl
  clear hwl
  have hget1 : F.pages.getD k [] = was := by simp [List.getD_eq_getElem?_getD, hwas]
  have hget2 : F.wear.getD k 0 = wn := by simp [List.getD_eq_getElem?_getD, hwn]
  try rw [hget1]
  try rw [hget2]
  clear hget1 hget2
  have HW := Kept.mk hwas
  have HWN := Kept.mk hwn
  have HC1 := Kept.mk hcell
  have HC2 := Kept.mk hcell2
  have hb0 : Below w.heap.size w ((w.alloc (.cells #[.slice (some ⟨b, off, none⟩) F.pages.length cap, .slice (some ⟨b2, off2, none⟩) F.wear.length cap2, .int .i64 F.fuse, strC F.torn, .bool F.dead] 25)).alloc (.cells #[.slice none 0 0, .slice none 0 0, .int .i64 0, .string ⟨#[]⟩, .bool false] 25)) := ((Below.refl _ _).alloc (Nat.le_refl _) _).alloc (by simp) _
  have HP := Kept.mk hp
  have HQ := Kept.mk hq
  have HB0 := Kept.mk hb0
  clear hp hq hb0 hc hc2 hcell hcell2 hwas hwn hpg hwr
  go_enter Try.func60, Try.ntmps60
  go_wp2_with fail
  refine (copied_any F _ _ ⟨.slice (some ⟨b, off, none⟩) F.pages.length cap, .slice (some ⟨b2, off2, none⟩) F.wear.length cap2, rfl, stable_cells _ _ _ _ HP.out HB0.out, stable_cells _ _ _ _ HQ.out HB0.out⟩ (by omega) (by omega)).mono ?_
  rintro e w1 ⟨vp', vw', rfl, ho1, ho2, hb1⟩
  have TI0 := Lib.hid (ti_start F w w1 (.slice (some ⟨b, off, none⟩) F.pages.length cap) (.slice (some ⟨b2, off2, none⟩) F.wear.length cap2) vp' vw' HP.out HQ.out hb1 ho1 ho2)
  have HC8 := Lib.hid (cells5_new w1 25 (.slice none 0 0) (.slice none 0 0) (.int .i64 0) (.string ⟨#[]⟩) (.bool false))
  have HF8 := Lib.hid (free5_new w1 #[.slice none 0 0, .slice none 0 0, .int .i64 0, .string ⟨#[]⟩, .bool false] 25)
  have oo1 := (ho1.one).2
  have oo2 := (ho2.one).2
  clear ho1 ho2 hb1 HB0
  go_wp2_with (refine wpList_store5 rfl (.tmp 8) (.tmp 12) rfl w1.heap.size vp' vw' (.int .i64 F.fuse) (strC F.torn) (.bool F.dead) rfl rfl HC8.out HF8.out oo1 oo2 rfl rfl rfl ?_)
  have T := TI0.out
  clear TI0 HC8 HF8
  generalize set5 (w1.alloc (.cells #[.slice none 0 0, .slice none 0 0, .int .i64 0, .string ⟨#[]⟩, .bool false] 25)) w1.heap.size vp' vw' (.int .i64 F.fuse) (strC F.torn) (.bool F.dead) = W at *
  generalize w1.heap.size = g8 at *
  refine take2_eyes _ _ _ rfl w.heap.size F _ k b off F.pages.length cap was hk ((T.below.cell (p := ⟨b, off + k, none⟩) hb).trans HC1.out) (Nat.lt_of_lt_of_le hb T.below.size) (by omega) rfl rfl rfl T.c3 T.fl (by omega) (by omega) hhas ?_
  intro act W2 hdf hsz hkeep hn30 hbT
  have hk1 : act.tmps.getD 1 undef = (.int .i64 (k : Int)) := hkeep 1 (by kernel_rfl)
  have hk2 : act.tmps.getD 2 undef = (.iface 69 (.agg #[])) := hkeep 2 (by kernel_rfl)
  have hk3 : act.tmps.getD 3 undef = (.pointer (some ⟨w.heap.size, 0, none⟩)) := hkeep 3 (by kernel_rfl)
  have hk6 : act.tmps.getD 6 undef = (.pointer (some ⟨w.heap.size + 1, 0, none⟩)) := hkeep 6 (by kernel_rfl)
  have hk8 : act.tmps.getD 8 undef = (.pointer (some ⟨g8, 0, none⟩)) := hkeep 8 (by kernel_rfl)
  obtain ⟨tm, df⟩ := act
  obtain rfl : df = [] := hdf
  clear hkeep
  obtain ⟨f, rfl, hk1, hk2, hk3, hk6, hk8, hn30⟩ : ∃ f : Nat → Value, tm = ((List.range 84).map f).toArray ∧ f 1 = (.int .i64 (k : Int)) ∧ f 2 = (.iface 69 (.agg #[])) ∧ f 3 = (.pointer (some ⟨w.heap.size, 0, none⟩)) ∧ f 6 = (.pointer (some ⟨w.heap.size + 1, 0, none⟩)) ∧ f 8 = (.pointer (some ⟨g8, 0, none⟩)) ∧ f 30 = (.bool false) := ⟨fun i => tm.getD i undef, arr_eta tm hsz, hk1, hk2, hk3, hk6, hk8, hn30⟩
  rewrite [show ((List.range 84).map f).toArray = #[f 0, f 1, f 2, f 3, f 4, f 5, f 6, f 7, f 8, f 9, f 10, f 11, f 12, f 13, f 14, f 15, f 16, f 17, f 18, f 19, f 20, f 21, f 22, f 23, f 24, f 25, f 26, f 27, f 28, f 29, f 30, f 31, f 32, f 33, f 34, f 35, f 36, f 37, f 38, f 39, f 40, f 41, f 42, f 43, f 44, f 45, f 46, f 47, f 48, f 49, f 50, f 51, f 52, f 53, f 54, f 55, f 56, f 57, f 58, f 59, f 60, f 61, f 62, f 63, f 64, f 65, f 66, f 67, f 68, f 69, f 70, f 71, f 72, f 73, f 74, f 75, f 76, f 77, f 78, f 79, f 80, f 81, f 82, f 83] from rfl]
  rewrite [hk1, hk2, hk3, hk6, hk8, hn30]
  dsimp only
  clear hsz hk1 hk2 hk3 hk6 hk8 hn30
  replace T := T.grow hbT
  clear hbT
  have b4 : W2.cell? ⟨w.heap.size, 4, none⟩ = some (.bool false) := by rw [← HDD.out]; exact T.c3.2.2.2.2.2
  have b0 := T.c3.2.1
  have bw := (T.below.cell (p := ⟨b, off + k, none⟩) hb).trans HC1.out
  go_wp2_with fail
  refine (ePage_any was _ (by omega)).mono ?_
  rintro e W3 ⟨rfl, hb3⟩
  replace T := T.grow hb3
  clear hb3 b4 b0 bw
  have b2' : W3.cell? ⟨w.heap.size, 2, none⟩ = some (.int .i64 0) := by rw [← HFU.out]; exact T.c3.2.2.2.1
  obtain ⟨gp, capp, _, hvp, _⟩ := T.p'.some_ (by rw [List.length_map]; omega)
  rw [List.length_map] at hvp
  subst hvp
  go_wp2_with fail
  refine take9 _ _ w _ rfl (w.heap.size + 2) g8 w.heap.size (w.heap.size + 1) g8 k gp F.pages.length capp F F _ _ vw' was (List.replicate was.length 255) rfl rfl rfl rfl rfl T hk hk (by omega) (by simp; omega) (by omega) ?_
  clear T b2'
  intro act W4 hdf hsz hkeep T
  have hk1 : act.tmps.getD 1 undef = (.int .i64 (k : Int)) := hkeep 1 (by kernel_rfl)
  have hk2 : act.tmps.getD 2 undef = (.iface 69 (.agg #[])) := hkeep 2 (by kernel_rfl)
  have hk3 : act.tmps.getD 3 undef = (.pointer (some ⟨w.heap.size, 0, none⟩)) := hkeep 3 (by kernel_rfl)
  have hk6 : act.tmps.getD 6 undef = (.pointer (some ⟨w.heap.size + 1, 0, none⟩)) := hkeep 6 (by kernel_rfl)
  have hk8 : act.tmps.getD 8 undef = (.pointer (some ⟨g8, 0, none⟩)) := hkeep 8 (by kernel_rfl)
  obtain ⟨tm, df⟩ := act
  obtain rfl : df = [] := hdf
  clear hkeep
  obtain ⟨f, rfl, hk1, hk2, hk3, hk6, hk8⟩ : ∃ f : Nat → Value, tm = ((List.range 84).map f).toArray ∧ f 1 = (.int .i64 (k : Int)) ∧ f 2 = (.iface 69 (.agg #[])) ∧ f 3 = (.pointer (some ⟨w.heap.size, 0, none⟩)) ∧ f 6 = (.pointer (some ⟨w.heap.size + 1, 0, none⟩)) ∧ f 8 = (.pointer (some ⟨g8, 0, none⟩)) := ⟨fun i => tm.getD i undef, arr_eta tm hsz, hk1, hk2, hk3, hk6, hk8⟩
  rewrite [show ((List.range 84).map f).toArray = #[f 0, f 1, f 2, f 3, f 4, f 5, f 6, f 7, f 8, f 9, f 10, f 11, f 12, f 13, f 14, f 15, f 16, f 17, f 18, f 19, f 20, f 21, f 22, f 23, f 24, f 25, f 26, f 27, f 28, f 29, f 30, f 31, f 32, f 33, f 34, f 35, f 36, f 37, f 38, f 39, f 40, f 41, f 42, f 43, f 44, f 45, f 46, f 47, f 48, f 49, f 50, f 51, f 52, f 53, f 54, f 55, f 56, f 57, f 58, f 59, f 60, f 61, f 62, f 63, f 64, f 65, f 66, f 67, f 68, f 69, f 70, f 71, f 72, f 73, f 74, f 75, f 76, f 77, f 78, f 79, f 80, f 81, f 82, f 83] from rfl]
  rewrite [hk1, hk2, hk3, hk6, hk8]
  dsimp only
  clear hsz hk1 hk2 hk3 hk6 hk8
  obtain ⟨o0, o1, o2, o3, o4, c6⟩ := T.c6
  have HC6 := Kept.mk c6
  have HF6 := Kept.mk T.f6
  obtain ⟨hfl, hB5, hr5⟩ := ti_end T
  have HFL := Kept.mk hfl
  have HR5 := Kept.mk hr5
  obtain ⟨_, k0, k1, k2, k3, k4⟩ := T.c8
  clear T c6 hfl hr5
  go_wp2_with (refine wpList_store5 rfl (.tmp 6) (.tmp 56) rfl (w.heap.size + 1) _ _ _ _ _ rfl rfl HC6.out HF6.out oo1 oo2 rfl rfl rfl ?_)
  exact bodyPost_ret (results2 rfl _ _ (w.heap.size + 1) _ _ _ _ _ (.int .i64 8) rfl rfl HR5.out) rfl ⟨_, rfl, HFL.out, hB5⟩

set_option maxRecDepth 100000 in
set_option maxHeartbeats 2000000 in
theorem take_edone (F : Fl) (v : Value) (w : World) (hv : isFl F v w) (k : Nat) (hdead : F.dead = false) (hfuse : F.fuse < 0) (hhas : hasB F (k : Int) = true) :
    Calls Try.prog 60 #[v, .int .i64 (k : Int), (.iface 69 (.agg #[]))] w fun e w' => ∃ v', e = .returned (.tuple #[v', .int .i64 0]) ∧ isFlN w.heap.size { F with pages := F.pages.set k (List.replicate (F.pages.getD k []).length 255), wear := F.wear.set k (wornN (F.wear.getD k 0)) } v' w' ∧ Below w.heap.size w w' := by
  have HDD := Kept.mk hdead
  clear hdead
  have HFU := Kept.mk hfuse
  clear hfuse
  have HHF := Kept.mk (has_facts F k hhas)
  obtain ⟨hk, h6, hwl, htl, hpg, hwr⟩ := HHF.out
  obtain ⟨was, hwas⟩ : ∃ was, F.pages[k]? = some was := ⟨_, List.getElem?_eq_getElem hk⟩
  obtain ⟨wn, hwn⟩ : ∃ wn, F.wear[k]? = some wn := ⟨_, List.getElem?_eq_getElem (by omega)⟩
  have hwm : was.length ≤ 8192 := (hpg _ (List.mem_of_getElem? hwas)).2.1
  have hn01 := hwr wn (List.mem_of_getElem? hwn)
  obtain ⟨vp, vw, rfl, hp, hq⟩ := hv
  obtain ⟨b, off, cap, hvp, hb, hc⟩ := hp.some_ (by rw [List.length_map]; omega)
  obtain ⟨b2, off2, cap2, hvw, hb2, hc2⟩ := hq.some_ (by rw [List.length_map]; omega)
  rw [List.length_map] at hvp hvw
  subst hvp hvw
  have hcell : w.cell? ⟨b, off + k, none⟩ = some (.string ⟨was.toArray⟩) := hc k _ (by simp [hwas, strC])
  have hcell2 : w.cell? ⟨b2, off2 + k, none⟩ = some (.int .i64 wn) := hc2 k _ (by simp [hwn, intC])
  have hkw : k < F.wear.length := by omega
  have hwl6 : F.wear.length ≤ 6 := by omega
  have HWL := Kept.mk hwl
  clear hwl
  have hget1 : F.pages.getD k [] = was := by simp [List.getD_eq_getElem?_getD, hwas]
  have hget2 : F.wear.getD k 0 = wn := by simp [List.getD_eq_getElem?_getD, hwn]
  try rw [hget1]
  try rw [hget2]
  clear hget1 hget2
  have HW := Kept.mk hwas
  have HWN := Kept.mk hwn
  have HC1 := Kept.mk hcell
  have HC2 := Kept.mk hcell2
  have hb0 : Below w.heap.size w ((w.alloc (.cells #[.slice (some ⟨b, off, none⟩) F.pages.length cap, .slice (some ⟨b2, off2, none⟩) F.wear.length cap2, .int .i64 F.fuse, strC F.torn, .bool F.dead] 25)).alloc (.cells #[.slice none 0 0, .slice none 0 0, .int .i64 0, .string ⟨#[]⟩, .bool false] 25)) := ((Below.refl _ _).alloc (Nat.le_refl _) _).alloc (by simp) _
  have HP := Kept.mk hp
  have HQ := Kept.mk hq
  have HB0 := Kept.mk hb0
  clear hp hq hb0 hc hc2 hcell hcell2 hwas hwn hpg hwr
  go_enter Try.func60, Try.ntmps60
  go_wp2_with fail
  refine (copied_any F _ _ ⟨.slice (some ⟨b, off, none⟩) F.pages.length cap, .slice (some ⟨b2, off2, none⟩) F.wear.length cap2, rfl, stable_cells _ _ _ _ HP.out HB0.out, stable_cells _ _ _ _ HQ.out HB0.out⟩ (by omega) (by omega)).mono ?_
  rintro e w1 ⟨vp', vw', rfl, ho1, ho2, hb1⟩
  have TI0 := Lib.hid (ti_start F w w1 (.slice (some ⟨b, off, none⟩) F.pages.length cap) (.slice (some ⟨b2, off2, none⟩) F.wear.length cap2) vp' vw' HP.out HQ.out hb1 ho1 ho2)
  have HC8 := Lib.hid (cells5_new w1 25 (.slice none 0 0) (.slice none 0 0) (.int .i64 0) (.string ⟨#[]⟩) (.bool false))
  have HF8 := Lib.hid (free5_new w1 #[.slice none 0 0, .slice none 0 0, .int .i64 0, .string ⟨#[]⟩, .bool false] 25)
  have oo1 := (ho1.one).2
  have oo2 := (ho2.one).2
  clear ho1 ho2 hb1 HB0
  go_wp2_with (refine wpList_store5 rfl (.tmp 8) (.tmp 12) rfl w1.heap.size vp' vw' (.int .i64 F.fuse) (strC F.torn) (.bool F.dead) rfl rfl HC8.out HF8.out oo1 oo2 rfl rfl rfl ?_)
  have T := TI0.out
  clear TI0 HC8 HF8
  generalize set5 (w1.alloc (.cells #[.slice none 0 0, .slice none 0 0, .int .i64 0, .string ⟨#[]⟩, .bool false] 25)) w1.heap.size vp' vw' (.int .i64 F.fuse) (strC F.torn) (.bool F.dead) = W at *
  generalize w1.heap.size = g8 at *
  refine take2_eyes _ _ _ rfl w.heap.size F _ k b off F.pages.length cap was hk ((T.below.cell (p := ⟨b, off + k, none⟩) hb).trans HC1.out) (Nat.lt_of_lt_of_le hb T.below.size) (by omega) rfl rfl rfl T.c3 T.fl (by omega) (by omega) hhas ?_
  intro act W2 hdf hsz hkeep hn30 hbT
  have hk1 : act.tmps.getD 1 undef = (.int .i64 (k : Int)) := hkeep 1 (by kernel_rfl)
  have hk2 : act.tmps.getD 2 undef = (.iface 69 (.agg #[])) := hkeep 2 (by kernel_rfl)
  have hk3 : act.tmps.getD 3 undef = (.pointer (some ⟨w.heap.size, 0, none⟩)) := hkeep 3 (by kernel_rfl)
  have hk6 : act.tmps.getD 6 undef = (.pointer (some ⟨w.heap.size + 1, 0, none⟩)) := hkeep 6 (by kernel_rfl)
  have hk8 : act.tmps.getD 8 undef = (.pointer (some ⟨g8, 0, none⟩)) := hkeep 8 (by kernel_rfl)
  obtain ⟨tm, df⟩ := act
  obtain rfl : df = [] := hdf
  clear hkeep
  obtain ⟨f, rfl, hk1, hk2, hk3, hk6, hk8, hn30⟩ : ∃ f : Nat → Value, tm = ((List.range 84).map f).toArray ∧ f 1 = (.int .i64 (k : Int)) ∧ f 2 = (.iface 69 (.agg #[])) ∧ f 3 = (.pointer (some ⟨w.heap.size, 0, none⟩)) ∧ f 6 = (.pointer (some ⟨w.heap.size + 1, 0, none⟩)) ∧ f 8 = (.pointer (some ⟨g8, 0, none⟩)) ∧ f 30 = (.bool false) := ⟨fun i => tm.getD i undef, arr_eta tm hsz, hk1, hk2, hk3, hk6, hk8, hn30⟩
  rewrite [show ((List.range 84).map f).toArray = #[f 0, f 1, f 2, f 3, f 4, f 5, f 6, f 7, f 8, f 9, f 10, f 11, f 12, f 13, f 14, f 15, f 16, f 17, f 18, f 19, f 20, f 21, f 22, f 23, f 24, f 25, f 26, f 27, f 28, f 29, f 30, f 31, f 32, f 33, f 34, f 35, f 36, f 37, f 38, f 39, f 40, f 41, f 42, f 43, f 44, f 45, f 46, f 47, f 48, f 49, f 50, f 51, f 52, f 53, f 54, f 55, f 56, f 57, f 58, f 59, f 60, f 61, f 62, f 63, f 64, f 65, f 66, f 67, f 68, f 69, f 70, f 71, f 72, f 73, f 74, f 75, f 76, f 77, f 78, f 79, f 80, f 81, f 82, f 83] from rfl]
  rewrite [hk1, hk2, hk3, hk6, hk8, hn30]
  dsimp only
  clear hsz hk1 hk2 hk3 hk6 hk8 hn30
  replace T := T.grow hbT
  clear hbT
  have b4 : W2.cell? ⟨w.heap.size, 4, none⟩ = some (.bool false) := by rw [← HDD.out]; exact T.c3.2.2.2.2.2
  have b0 := T.c3.2.1
  have bw := (T.below.cell (p := ⟨b, off + k, none⟩) hb).trans HC1.out
  go_wp2_with fail
  refine (ePage_any was _ (by omega)).mono ?_
  rintro e W3 ⟨rfl, hb3⟩
  replace T := T.grow hb3
  clear hb3 b4 b0 bw
  have b2' : W3.cell? ⟨w.heap.size, 2, none⟩ = some (.int .i64 F.fuse) := T.c3.2.2.2.1
  obtain ⟨gp, capp, _, hvp, _⟩ := T.p'.some_ (by rw [List.length_map]; omega)
  obtain ⟨gw, capw, _, hvw, _⟩ := T.q'.some_ (by rw [List.length_map]; omega)
  rw [List.length_map] at hvp hvw
  subst hvp hvw
  have hf0 : (F.fuse == 0) = false := by have := HFU.out; simp; omega
  go_wp2_with fail
  refine take11_e _ _ w _ rfl (w.heap.size + 2) g8 w.heap.size (w.heap.size + 1) g8 k gp F.pages.length capp gw F.wear.length capw b2 off2 F.wear.length cap2 F F _ (List.replicate was.length 255) wn rfl rfl rfl rfl rfl T hk hk hkw hkw hkw ((T.below.cell (p := ⟨b2, off2 + k, none⟩) hb2).trans HC2.out) hb2 hn01.1 hn01.2 ?_
  clear T b2'
  intro act W4 hdf hsz hkeep T
  have hk1 : act.tmps.getD 1 undef = (.int .i64 (k : Int)) := hkeep 1 (by kernel_rfl)
  have hk2 : act.tmps.getD 2 undef = (.iface 69 (.agg #[])) := hkeep 2 (by kernel_rfl)
  have hk3 : act.tmps.getD 3 undef = (.pointer (some ⟨w.heap.size, 0, none⟩)) := hkeep 3 (by kernel_rfl)
  have hk6 : act.tmps.getD 6 undef = (.pointer (some ⟨w.heap.size + 1, 0, none⟩)) := hkeep 6 (by kernel_rfl)
  have hk8 : act.tmps.getD 8 undef = (.pointer (some ⟨g8, 0, none⟩)) := hkeep 8 (by kernel_rfl)
  obtain ⟨tm, df⟩ := act
  obtain rfl : df = [] := hdf
  clear hkeep
  obtain ⟨f, rfl, hk1, hk2, hk3, hk6, hk8⟩ : ∃ f : Nat → Value, tm = ((List.range 84).map f).toArray ∧ f 1 = (.int .i64 (k : Int)) ∧ f 2 = (.iface 69 (.agg #[])) ∧ f 3 = (.pointer (some ⟨w.heap.size, 0, none⟩)) ∧ f 6 = (.pointer (some ⟨w.heap.size + 1, 0, none⟩)) ∧ f 8 = (.pointer (some ⟨g8, 0, none⟩)) := ⟨fun i => tm.getD i undef, arr_eta tm hsz, hk1, hk2, hk3, hk6, hk8⟩
  rewrite [show ((List.range 84).map f).toArray = #[f 0, f 1, f 2, f 3, f 4, f 5, f 6, f 7, f 8, f 9, f 10, f 11, f 12, f 13, f 14, f 15, f 16, f 17, f 18, f 19, f 20, f 21, f 22, f 23, f 24, f 25, f 26, f 27, f 28, f 29, f 30, f 31, f 32, f 33, f 34, f 35, f 36, f 37, f 38, f 39, f 40, f 41, f 42, f 43, f 44, f 45, f 46, f 47, f 48, f 49, f 50, f 51, f 52, f 53, f 54, f 55, f 56, f 57, f 58, f 59, f 60, f 61, f 62, f 63, f 64, f 65, f 66, f 67, f 68, f 69, f 70, f 71, f 72, f 73, f 74, f 75, f 76, f 77, f 78, f 79, f 80, f 81, f 82, f 83] from rfl]
  rewrite [hk1, hk2, hk3, hk6, hk8]
  dsimp only
  clear hsz hk1 hk2 hk3 hk6 hk8
  have b2' : W4.cell? ⟨w.heap.size, 2, none⟩ = some (.int .i64 F.fuse) := T.c3.2.2.2.1
  have hfd : decide (0 < F.fuse) = false := by have := HFU.out; simp; omega
  obtain ⟨o0, o1, o2, o3, o4, c6⟩ := T.c6
  have HC6 := Kept.mk c6
  have HF6 := Kept.mk T.f6
  obtain ⟨hfl, hB5, hr5⟩ := ti_end T
  have HFL := Kept.mk hfl
  have HR5 := Kept.mk hr5
  obtain ⟨_, k0, k1, k2, k3, k4⟩ := T.c8
  clear T c6 hfl hr5
  go_wp2_with (refine wpList_store5 rfl (.tmp 6) (.tmp 83) rfl (w.heap.size + 1) _ _ _ _ _ rfl rfl HC6.out HF6.out oo1 oo2 rfl rfl rfl ?_)
  exact bodyPost_ret (results2 rfl _ _ (w.heap.size + 1) _ _ _ _ _ (.int .i64 0) rfl rfl HR5.out) rfl ⟨_, rfl, HFL.out, hB5⟩

set_option maxRecDepth 100000 in
set_option maxHeartbeats 2000000 in
theorem take_eburn (F : Fl) (v : Value) (w : World) (hv : isFl F v w) (k : Nat) (hdead : F.dead = false) (hfuse : 0 < F.fuse) (hfz : F.fuse ≤ 9223372036854775807) (hhas : hasB F (k : Int) = true) :
    Calls Try.prog 60 #[v, .int .i64 (k : Int), (.iface 69 (.agg #[]))] w fun e w' => ∃ v', e = .returned (.tuple #[v', .int .i64 0]) ∧ isFlN w.heap.size { F with pages := F.pages.set k (List.replicate (F.pages.getD k []).length 255), wear := F.wear.set k (wornN (F.wear.getD k 0)), fuse := F.fuse - 1 } v' w' ∧ Below w.heap.size w w' := by
  have HDD := Kept.mk hdead
  clear hdead
  have HFU := Kept.mk hfuse
  clear hfuse
  have HFZ := Kept.mk hfz
  clear hfz
  have HHF := Kept.mk (has_facts F k hhas)
  obtain ⟨hk, h6, hwl, htl, hpg, hwr⟩ := HHF.out
  obtain ⟨was, hwas⟩ : ∃ was, F.pages[k]? = some was := ⟨_, List.getElem?_eq_getElem hk⟩
  obtain ⟨wn, hwn⟩ : ∃ wn, F.wear[k]? = some wn := ⟨_, List.getElem?_eq_getElem (by omega)⟩
  have hwm : was.length ≤ 8192 := (hpg _ (List.mem_of_getElem? hwas)).2.1
  have hn01 := hwr wn (List.mem_of_getElem? hwn)
  obtain ⟨vp, vw, rfl, hp, hq⟩ := hv
  obtain ⟨b, off, cap, hvp, hb, hc⟩ := hp.some_ (by rw [List.length_map]; omega)
  obtain ⟨b2, off2, cap2, hvw, hb2, hc2⟩ := hq.some_ (by rw [List.length_map]; omega)
  rw [List.length_map] at hvp hvw
  subst hvp hvw
  have hcell : w.cell? ⟨b, off + k, none⟩ = some (.string ⟨was.toArray⟩) := hc k _ (by simp [hwas, strC])
  have hcell2 : w.cell? ⟨b2, off2 + k, none⟩ = some (.int .i64 wn) := hc2 k _ (by simp [hwn, intC])
  have hkw : k < F.wear.length := by omega
  have hwl6 : F.wear.length ≤ 6 := by omega
  have HWL := Kept.mk hwl
  clear hwl
  have hget1 : F.pages.getD k [] = was := by simp [List.getD_eq_getElem?_getD, hwas]
  have hget2 : F.wear.getD k 0 = wn := by simp [List.getD_eq_getElem?_getD, hwn]
  try rw [hget1]
  try rw [hget2]
  clear hget1 hget2
  have HW := Kept.mk hwas
  have HWN := Kept.mk hwn
  have HC1 := Kept.mk hcell
  have HC2 := Kept.mk hcell2
  have hb0 : Below w.heap.size w ((w.alloc (.cells #[.slice (some ⟨b, off, none⟩) F.pages.length cap, .slice (some ⟨b2, off2, none⟩) F.wear.length cap2, .int .i64 F.fuse, strC F.torn, .bool F.dead] 25)).alloc (.cells #[.slice none 0 0, .slice none 0 0, .int .i64 0, .string ⟨#[]⟩, .bool false] 25)) := ((Below.refl _ _).alloc (Nat.le_refl _) _).alloc (by simp) _
  have HP := Kept.mk hp
  have HQ := Kept.mk hq
  have HB0 := Kept.mk hb0
  clear hp hq hb0 hc hc2 hcell hcell2 hwas hwn hpg hwr
  go_enter Try.func60, Try.ntmps60
  go_wp2_with fail
  refine (copied_any F _ _ ⟨.slice (some ⟨b, off, none⟩) F.pages.length cap, .slice (some ⟨b2, off2, none⟩) F.wear.length cap2, rfl, stable_cells _ _ _ _ HP.out HB0.out, stable_cells _ _ _ _ HQ.out HB0.out⟩ (by omega) (by omega)).mono ?_
  rintro e w1 ⟨vp', vw', rfl, ho1, ho2, hb1⟩
  have TI0 := Lib.hid (ti_start F w w1 (.slice (some ⟨b, off, none⟩) F.pages.length cap) (.slice (some ⟨b2, off2, none⟩) F.wear.length cap2) vp' vw' HP.out HQ.out hb1 ho1 ho2)
  have HC8 := Lib.hid (cells5_new w1 25 (.slice none 0 0) (.slice none 0 0) (.int .i64 0) (.string ⟨#[]⟩) (.bool false))
  have HF8 := Lib.hid (free5_new w1 #[.slice none 0 0, .slice none 0 0, .int .i64 0, .string ⟨#[]⟩, .bool false] 25)
  have oo1 := (ho1.one).2
  have oo2 := (ho2.one).2
  clear ho1 ho2 hb1 HB0
  go_wp2_with (refine wpList_store5 rfl (.tmp 8) (.tmp 12) rfl w1.heap.size vp' vw' (.int .i64 F.fuse) (strC F.torn) (.bool F.dead) rfl rfl HC8.out HF8.out oo1 oo2 rfl rfl rfl ?_)
  have T := TI0.out
  clear TI0 HC8 HF8
  generalize set5 (w1.alloc (.cells #[.slice none 0 0, .slice none 0 0, .int .i64 0, .string ⟨#[]⟩, .bool false] 25)) w1.heap.size vp' vw' (.int .i64 F.fuse) (strC F.torn) (.bool F.dead) = W at *
  generalize w1.heap.size = g8 at *
  refine take2_eyes _ _ _ rfl w.heap.size F _ k b off F.pages.length cap was hk ((T.below.cell (p := ⟨b, off + k, none⟩) hb).trans HC1.out) (Nat.lt_of_lt_of_le hb T.below.size) (by omega) rfl rfl rfl T.c3 T.fl (by omega) (by omega) hhas ?_
  intro act W2 hdf hsz hkeep hn30 hbT
  have hk1 : act.tmps.getD 1 undef = (.int .i64 (k : Int)) := hkeep 1 (by kernel_rfl)
  have hk2 : act.tmps.getD 2 undef = (.iface 69 (.agg #[])) := hkeep 2 (by kernel_rfl)
  have hk3 : act.tmps.getD 3 undef = (.pointer (some ⟨w.heap.size, 0, none⟩)) := hkeep 3 (by kernel_rfl)
  have hk6 : act.tmps.getD 6 undef = (.pointer (some ⟨w.heap.size + 1, 0, none⟩)) := hkeep 6 (by kernel_rfl)
  have hk8 : act.tmps.getD 8 undef = (.pointer (some ⟨g8, 0, none⟩)) := hkeep 8 (by kernel_rfl)
  obtain ⟨tm, df⟩ := act
  obtain rfl : df = [] := hdf
  clear hkeep
  obtain ⟨f, rfl, hk1, hk2, hk3, hk6, hk8, hn30⟩ : ∃ f : Nat → Value, tm = ((List.range 84).map f).toArray ∧ f 1 = (.int .i64 (k : Int)) ∧ f 2 = (.iface 69 (.agg #[])) ∧ f 3 = (.pointer (some ⟨w.heap.size, 0, none⟩)) ∧ f 6 = (.pointer (some ⟨w.heap.size + 1, 0, none⟩)) ∧ f 8 = (.pointer (some ⟨g8, 0, none⟩)) ∧ f 30 = (.bool false) := ⟨fun i => tm.getD i undef, arr_eta tm hsz, hk1, hk2, hk3, hk6, hk8, hn30⟩
  rewrite [show ((List.range 84).map f).toArray = #[f 0, f 1, f 2, f 3, f 4, f 5, f 6, f 7, f 8, f 9, f 10, f 11, f 12, f 13, f 14, f 15, f 16, f 17, f 18, f 19, f 20, f 21, f 22, f 23, f 24, f 25, f 26, f 27, f 28, f 29, f 30, f 31, f 32, f 33, f 34, f 35, f 36, f 37, f 38, f 39, f 40, f 41, f 42, f 43, f 44, f 45, f 46, f 47, f 48, f 49, f 50, f 51, f 52, f 53, f 54, f 55, f 56, f 57, f 58, f 59, f 60, f 61, f 62, f 63, f 64, f 65, f 66, f 67, f 68, f 69, f 70, f 71, f 72, f 73, f 74, f 75, f 76, f 77, f 78, f 79, f 80, f 81, f 82, f 83] from rfl]
  rewrite [hk1, hk2, hk3, hk6, hk8, hn30]
  dsimp only
  clear hsz hk1 hk2 hk3 hk6 hk8 hn30
  replace T := T.grow hbT
  clear hbT
  have b4 : W2.cell? ⟨w.heap.size, 4, none⟩ = some (.bool false) := by rw [← HDD.out]; exact T.c3.2.2.2.2.2
  have b0 := T.c3.2.1
  have bw := (T.below.cell (p := ⟨b, off + k, none⟩) hb).trans HC1.out
  go_wp2_with fail
  refine (ePage_any was _ (by omega)).mono ?_
  rintro e W3 ⟨rfl, hb3⟩
  replace T := T.grow hb3
  clear hb3 b4 b0 bw
  have b2' : W3.cell? ⟨w.heap.size, 2, none⟩ = some (.int .i64 F.fuse) := T.c3.2.2.2.1
  obtain ⟨gp, capp, _, hvp, _⟩ := T.p'.some_ (by rw [List.length_map]; omega)
  obtain ⟨gw, capw, _, hvw, _⟩ := T.q'.some_ (by rw [List.length_map]; omega)
  rw [List.length_map] at hvp hvw
  subst hvp hvw
  have hf0 : (F.fuse == 0) = false := by have := HFU.out; simp; omega
  go_wp2_with fail
  refine take11_e _ _ w _ rfl (w.heap.size + 2) g8 w.heap.size (w.heap.size + 1) g8 k gp F.pages.length capp gw F.wear.length capw b2 off2 F.wear.length cap2 F F _ (List.replicate was.length 255) wn rfl rfl rfl rfl rfl T hk hk hkw hkw hkw ((T.below.cell (p := ⟨b2, off2 + k, none⟩) hb2).trans HC2.out) hb2 hn01.1 hn01.2 ?_
  clear T b2'
  intro act W4 hdf hsz hkeep T
  have hk1 : act.tmps.getD 1 undef = (.int .i64 (k : Int)) := hkeep 1 (by kernel_rfl)
  have hk2 : act.tmps.getD 2 undef = (.iface 69 (.agg #[])) := hkeep 2 (by kernel_rfl)
  have hk3 : act.tmps.getD 3 undef = (.pointer (some ⟨w.heap.size, 0, none⟩)) := hkeep 3 (by kernel_rfl)
  have hk6 : act.tmps.getD 6 undef = (.pointer (some ⟨w.heap.size + 1, 0, none⟩)) := hkeep 6 (by kernel_rfl)
  have hk8 : act.tmps.getD 8 undef = (.pointer (some ⟨g8, 0, none⟩)) := hkeep 8 (by kernel_rfl)
  obtain ⟨tm, df⟩ := act
  obtain rfl : df = [] := hdf
  clear hkeep
  obtain ⟨f, rfl, hk1, hk2, hk3, hk6, hk8⟩ : ∃ f : Nat → Value, tm = ((List.range 84).map f).toArray ∧ f 1 = (.int .i64 (k : Int)) ∧ f 2 = (.iface 69 (.agg #[])) ∧ f 3 = (.pointer (some ⟨w.heap.size, 0, none⟩)) ∧ f 6 = (.pointer (some ⟨w.heap.size + 1, 0, none⟩)) ∧ f 8 = (.pointer (some ⟨g8, 0, none⟩)) := ⟨fun i => tm.getD i undef, arr_eta tm hsz, hk1, hk2, hk3, hk6, hk8⟩
  rewrite [show ((List.range 84).map f).toArray = #[f 0, f 1, f 2, f 3, f 4, f 5, f 6, f 7, f 8, f 9, f 10, f 11, f 12, f 13, f 14, f 15, f 16, f 17, f 18, f 19, f 20, f 21, f 22, f 23, f 24, f 25, f 26, f 27, f 28, f 29, f 30, f 31, f 32, f 33, f 34, f 35, f 36, f 37, f 38, f 39, f 40, f 41, f 42, f 43, f 44, f 45, f 46, f 47, f 48, f 49, f 50, f 51, f 52, f 53, f 54, f 55, f 56, f 57, f 58, f 59, f 60, f 61, f 62, f 63, f 64, f 65, f 66, f 67, f 68, f 69, f 70, f 71, f 72, f 73, f 74, f 75, f 76, f 77, f 78, f 79, f 80, f 81, f 82, f 83] from rfl]
  rewrite [hk1, hk2, hk3, hk6, hk8]
  dsimp only
  clear hsz hk1 hk2 hk3 hk6 hk8
  have b2' : W4.cell? ⟨w.heap.size, 2, none⟩ = some (.int .i64 F.fuse) := T.c3.2.2.2.1
  have hfd : decide (0 < F.fuse) = true := by have := HFU.out; simp; omega
  have hfb := HFZ.out
  have hfb1 := HFU.out
  have k2' : W4.cell? ⟨g8, 2, none⟩ = some (.int .i64 F.fuse) := T.c8.2.2.2.1
  have f2' := T.f8 2
  replace T := T.burn (F.fuse - 1)
  obtain ⟨o0, o1, o2, o3, o4, c6⟩ := T.c6
  have HC6 := Kept.mk c6
  have HF6 := Kept.mk T.f6
  obtain ⟨hfl, hB5, hr5⟩ := ti_end T
  have HFL := Kept.mk hfl
  have HR5 := Kept.mk hr5
  obtain ⟨_, k0, k1, k2, k3, k4⟩ := T.c8
  clear T c6 hfl hr5
  go_wp2_with (refine wpList_store5 rfl (.tmp 6) (.tmp 83) rfl (w.heap.size + 1) _ _ _ _ _ rfl rfl HC6.out HF6.out oo1 oo2 rfl rfl rfl ?_)
  exact bodyPost_ret (results2 rfl _ _ (w.heap.size + 1) _ _ _ _ _ (.int .i64 0) rfl rfl HR5.out) rfl ⟨_, rfl, HFL.out, hB5⟩

set_option maxRecDepth 100000 in
set_option maxHeartbeats 2000000 in
theorem take_pdead (F : Fl) (v : Value) (w : World) (hv : isFl F v w) (k : Nat) (at_ : Nat) (s : List UInt8) (hs : s.length ≤ 1000000) (hat : at_ + s.length ≤ (F.pages.getD k []).length) (hdead : F.dead = true) (hhas : hasB F (k : Int) = true) :
    Calls Try.prog 60 #[v, .int .i64 (k : Int), (.iface 67 (.agg #[.int .i64 (at_ : Int), .string ⟨s.toArray⟩]))] w fun e w' => ∃ v', e = .returned (.tuple #[v', .int .i64 8]) ∧ isFlN w.heap.size F v' w' ∧ Below w.heap.size w w' := by
  have HDD := Kept.mk hdead
  clear hdead
  have HHF := Kept.mk (has_facts F k hhas)
  obtain ⟨hk, h6, hwl, htl, hpg, hwr⟩ := HHF.out
  obtain ⟨was, hwas⟩ : ∃ was, F.pages[k]? = some was := ⟨_, List.getElem?_eq_getElem hk⟩
  obtain ⟨wn, hwn⟩ : ∃ wn, F.wear[k]? = some wn := ⟨_, List.getElem?_eq_getElem (by omega)⟩
  have hwm : was.length ≤ 8192 := (hpg _ (List.mem_of_getElem? hwas)).2.1
  have hn01 := hwr wn (List.mem_of_getElem? hwn)
  obtain ⟨vp, vw, rfl, hp, hq⟩ := hv
  obtain ⟨b, off, cap, hvp, hb, hc⟩ := hp.some_ (by rw [List.length_map]; omega)
  obtain ⟨b2, off2, cap2, hvw, hb2, hc2⟩ := hq.some_ (by rw [List.length_map]; omega)
  rw [List.length_map] at hvp hvw
  subst hvp hvw
  have hcell : w.cell? ⟨b, off + k, none⟩ = some (.string ⟨was.toArray⟩) := hc k _ (by simp [hwas, strC])
  have hcell2 : w.cell? ⟨b2, off2 + k, none⟩ = some (.int .i64 wn) := hc2 k _ (by simp [hwn, intC])
  have hkw : k < F.wear.length := by omega
  have hwl6 : F.wear.length ≤ 6 := by omega
  have HWL := Kept.mk hwl
  clear hwl
  have hget1 : F.pages.getD k [] = was := by simp [List.getD_eq_getElem?_getD, hwas]
  have hget2 : F.wear.getD k 0 = wn := by simp [List.getD_eq_getElem?_getD, hwn]
  try rw [hget1]
  try rw [hget2]
  have hatw : at_ + s.length ≤ was.length := by rw [← hget1]; exact hat
  have hfit : (decide (0 ≤ (at_ : Int)) && decide ((at_ : Int) ≤ (was.length : Int) - (s.length : Int))) = true := by simp; omega
  have HFIT := Kept.mk hfit
  clear hget1 hget2 hat hfit
  have HW := Kept.mk hwas
  have HWN := Kept.mk hwn
  have HC1 := Kept.mk hcell
  have HC2 := Kept.mk hcell2
  have hb0 : Below w.heap.size w ((w.alloc (.cells #[.slice (some ⟨b, off, none⟩) F.pages.length cap, .slice (some ⟨b2, off2, none⟩) F.wear.length cap2, .int .i64 F.fuse, strC F.torn, .bool F.dead] 25)).alloc (.cells #[.slice none 0 0, .slice none 0 0, .int .i64 0, .string ⟨#[]⟩, .bool false] 25)) := ((Below.refl _ _).alloc (Nat.le_refl _) _).alloc (by simp) _
  have HP := Kept.mk hp
  have HQ := Kept.mk hq
  have HB0 := Kept.mk hb0
  clear hp hq hb0 hc hc2 hcell hcell2 hwas hwn hpg hwr
  go_enter Try.func60, Try.ntmps60
  go_wp2_with fail
  refine (copied_any F _ _ ⟨.slice (some ⟨b, off, none⟩) F.pages.length cap, .slice (some ⟨b2, off2, none⟩) F.wear.length cap2, rfl, stable_cells _ _ _ _ HP.out HB0.out, stable_cells _ _ _ _ HQ.out HB0.out⟩ (by omega) (by omega)).mono ?_
  rintro e w1 ⟨vp', vw', rfl, ho1, ho2, hb1⟩
  have TI0 := Lib.hid (ti_start F w w1 (.slice (some ⟨b, off, none⟩) F.pages.length cap) (.slice (some ⟨b2, off2, none⟩) F.wear.length cap2) vp' vw' HP.out HQ.out hb1 ho1 ho2)
  have HC8 := Lib.hid (cells5_new w1 25 (.slice none 0 0) (.slice none 0 0) (.int .i64 0) (.string ⟨#[]⟩) (.bool false))
  have HF8 := Lib.hid (free5_new w1 #[.slice none 0 0, .slice none 0 0, .int .i64 0, .string ⟨#[]⟩, .bool false] 25)
  have oo1 := (ho1.one).2
  have oo2 := (ho2.one).2
  clear ho1 ho2 hb1 HB0
  go_wp2_with (refine wpList_store5 rfl (.tmp 8) (.tmp 12) rfl w1.heap.size vp' vw' (.int .i64 F.fuse) (strC F.torn) (.bool F.dead) rfl rfl HC8.out HF8.out oo1 oo2 rfl rfl rfl ?_)
  have T := TI0.out
  clear TI0 HC8 HF8
  generalize set5 (w1.alloc (.cells #[.slice none 0 0, .slice none 0 0, .int .i64 0, .string ⟨#[]⟩, .bool false] 25)) w1.heap.size vp' vw' (.int .i64 F.fuse) (strC F.torn) (.bool F.dead) = W at *
  generalize w1.heap.size = g8 at *
  refine take2_pyes _ _ _ rfl w.heap.size F _ (at_ : Int) s hs k b off F.pages.length cap was hk ((T.below.cell (p := ⟨b, off + k, none⟩) hb).trans HC1.out) (Nat.lt_of_lt_of_le hb T.below.size) (by omega) HFIT.out rfl rfl rfl T.c3 T.fl (by omega) (by omega) hhas ?_
  intro act W2 hdf hsz hkeep hn30 hbT
  have hk1 : act.tmps.getD 1 undef = (.int .i64 (k : Int)) := hkeep 1 (by kernel_rfl)
  have hk2 : act.tmps.getD 2 undef = (.iface 67 (.agg #[.int .i64 (at_ : Int), .string ⟨s.toArray⟩])) := hkeep 2 (by kernel_rfl)
  have hk3 : act.tmps.getD 3 undef = (.pointer (some ⟨w.heap.size, 0, none⟩)) := hkeep 3 (by kernel_rfl)
  have hk6 : act.tmps.getD 6 undef = (.pointer (some ⟨w.heap.size + 1, 0, none⟩)) := hkeep 6 (by kernel_rfl)
  have hk8 : act.tmps.getD 8 undef = (.pointer (some ⟨g8, 0, none⟩)) := hkeep 8 (by kernel_rfl)
  obtain ⟨tm, df⟩ := act
  obtain rfl : df = [] := hdf
  clear hkeep
  obtain ⟨f, rfl, hk1, hk2, hk3, hk6, hk8, hn30⟩ : ∃ f : Nat → Value, tm = ((List.range 84).map f).toArray ∧ f 1 = (.int .i64 (k : Int)) ∧ f 2 = (.iface 67 (.agg #[.int .i64 (at_ : Int), .string ⟨s.toArray⟩])) ∧ f 3 = (.pointer (some ⟨w.heap.size, 0, none⟩)) ∧ f 6 = (.pointer (some ⟨w.heap.size + 1, 0, none⟩)) ∧ f 8 = (.pointer (some ⟨g8, 0, none⟩)) ∧ f 30 = (.bool false) := ⟨fun i => tm.getD i undef, arr_eta tm hsz, hk1, hk2, hk3, hk6, hk8, hn30⟩
  rewrite [show ((List.range 84).map f).toArray = #[f 0, f 1, f 2, f 3, f 4, f 5, f 6, f 7, f 8, f 9, f 10, f 11, f 12, f 13, f 14, f 15, f 16, f 17, f 18, f 19, f 20, f 21, f 22, f 23, f 24, f 25, f 26, f 27, f 28, f 29, f 30, f 31, f 32, f 33, f 34, f 35, f 36, f 37, f 38, f 39, f 40, f 41, f 42, f 43, f 44, f 45, f 46, f 47, f 48, f 49, f 50, f 51, f 52, f 53, f 54, f 55, f 56, f 57, f 58, f 59, f 60, f 61, f 62, f 63, f 64, f 65, f 66, f 67, f 68, f 69, f 70, f 71, f 72, f 73, f 74, f 75, f 76, f 77, f 78, f 79, f 80, f 81, f 82, f 83] from rfl]
  rewrite [hk1, hk2, hk3, hk6, hk8, hn30]
  dsimp only
  clear hsz hk1 hk2 hk3 hk6 hk8 hn30
  replace T := T.grow hbT
  clear hbT
  have b4 : W2.cell? ⟨w.heap.size, 4, none⟩ = some (.bool true) := by rw [← HDD.out]; exact T.c3.2.2.2.2.2
  obtain ⟨o0, o1, o2, o3, o4, c6⟩ := T.c6
  have HC6 := Kept.mk c6
  have HF6 := Kept.mk T.f6
  obtain ⟨hfl, hB5, hr5⟩ := ti_end T
  have HFL := Kept.mk hfl
  have HR5 := Kept.mk hr5
  obtain ⟨_, k0, k1, k2, k3, k4⟩ := T.c8
  clear T c6 hfl hr5
  go_wp2_with (refine wpList_store5 rfl (.tmp 6) (.tmp 34) rfl (w.heap.size + 1) _ _ _ _ _ rfl rfl HC6.out HF6.out oo1 oo2 rfl rfl rfl ?_)
  exact bodyPost_ret (results2 rfl _ _ (w.heap.size + 1) _ _ _ _ _ (.int .i64 8) rfl rfl HR5.out) rfl ⟨_, rfl, HFL.out, hB5⟩

set_option maxRecDepth 100000 in
set_option maxHeartbeats 2000000 in
theorem take_ptorn (F : Fl) (v : Value) (w : World) (hv : isFl F v w) (k : Nat) (at_ : Nat) (s : List UInt8) (hs : s.length ≤ 1000000) (hat : at_ + s.length ≤ (F.pages.getD k []).length) (hdead : F.dead = false) (hfuse : F.fuse = 0) (hhas : hasB F (k : Int) = true) :
    Calls Try.prog 60 #[v, .int .i64 (k : Int), (.iface 67 (.agg #[.int .i64 (at_ : Int), .string ⟨s.toArray⟩]))] w fun e w' => ∃ v', e = .returned (.tuple #[v', .int .i64 8]) ∧ isFlN w.heap.size { F with pages := F.pages.set k (betweenL (F.pages.getD k []) (progL (F.pages.getD k []) at_ s) F.torn), dead := true } v' w' ∧ Below w.heap.size w w' := by
  have HDD := Kept.mk hdead
  clear hdead
  have HFU := Kept.mk hfuse
  clear hfuse
  have HHF := Kept.mk (has_facts F k hhas)
  obtain ⟨hk, h6, hwl, htl, hpg, hwr⟩ := HHF.out
  obtain ⟨was, hwas⟩ : ∃ was, F.pages[k]? = some was := ⟨_, List.getElem?_eq_getElem hk⟩
  obtain ⟨wn, hwn⟩ : ∃ wn, F.wear[k]? = some wn := ⟨_, List.getElem?_eq_getElem (by omega)⟩
  have hwm : was.length ≤ 8192 := (hpg _ (List.mem_of_getElem? hwas)).2.1
  have hn01 := hwr wn (List.mem_of_getElem? hwn)
  obtain ⟨vp, vw, rfl, hp, hq⟩ := hv
  obtain ⟨b, off, cap, hvp, hb, hc⟩ := hp.some_ (by rw [List.length_map]; omega)
  obtain ⟨b2, off2, cap2, hvw, hb2, hc2⟩ := hq.some_ (by rw [List.length_map]; omega)
  rw [List.length_map] at hvp hvw
  subst hvp hvw
  have hcell : w.cell? ⟨b, off + k, none⟩ = some (.string ⟨was.toArray⟩) := hc k _ (by simp [hwas, strC])
  have hcell2 : w.cell? ⟨b2, off2 + k, none⟩ = some (.int .i64 wn) := hc2 k _ (by simp [hwn, intC])
  have hkw : k < F.wear.length := by omega
  have hwl6 : F.wear.length ≤ 6 := by omega
  have HWL := Kept.mk hwl
  clear hwl
  have hget1 : F.pages.getD k [] = was := by simp [List.getD_eq_getElem?_getD, hwas]
  have hget2 : F.wear.getD k 0 = wn := by simp [List.getD_eq_getElem?_getD, hwn]
  try rw [hget1]
  try rw [hget2]
  have hatw : at_ + s.length ≤ was.length := by rw [← hget1]; exact hat
  have hfit : (decide (0 ≤ (at_ : Int)) && decide ((at_ : Int) ≤ (was.length : Int) - (s.length : Int))) = true := by simp; omega
  have HFIT := Kept.mk hfit
  clear hget1 hget2 hat hfit
  have HW := Kept.mk hwas
  have HWN := Kept.mk hwn
  have HC1 := Kept.mk hcell
  have HC2 := Kept.mk hcell2
  have hb0 : Below w.heap.size w ((w.alloc (.cells #[.slice (some ⟨b, off, none⟩) F.pages.length cap, .slice (some ⟨b2, off2, none⟩) F.wear.length cap2, .int .i64 F.fuse, strC F.torn, .bool F.dead] 25)).alloc (.cells #[.slice none 0 0, .slice none 0 0, .int .i64 0, .string ⟨#[]⟩, .bool false] 25)) := ((Below.refl _ _).alloc (Nat.le_refl _) _).alloc (by simp) _
  have HP := Kept.mk hp
  have HQ := Kept.mk hq
  have HB0 := Kept.mk hb0
  clear hp hq hb0 hc hc2 hcell hcell2 hwas hwn hpg hwr
  go_enter Try.func60, Try.ntmps60
  go_wp2_with fail
  refine (copied_any F _ _ ⟨.slice (some ⟨b, off, none⟩) F.pages.length cap, .slice (some ⟨b2, off2, none⟩) F.wear.length cap2, rfl, stable_cells _ _ _ _ HP.out HB0.out, stable_cells _ _ _ _ HQ.out HB0.out⟩ (by omega) (by omega)).mono ?_
  rintro e w1 ⟨vp', vw', rfl, ho1, ho2, hb1⟩
  have TI0 := Lib.hid (ti_start F w w1 (.slice (some ⟨b, off, none⟩) F.pages.length cap) (.slice (some ⟨b2, off2, none⟩) F.wear.length cap2) vp' vw' HP.out HQ.out hb1 ho1 ho2)
  have HC8 := Lib.hid (cells5_new w1 25 (.slice none 0 0) (.slice none 0 0) (.int .i64 0) (.string ⟨#[]⟩) (.bool false))
  have HF8 := Lib.hid (free5_new w1 #[.slice none 0 0, .slice none 0 0, .int .i64 0, .string ⟨#[]⟩, .bool false] 25)
  have oo1 := (ho1.one).2
  have oo2 := (ho2.one).2
  clear ho1 ho2 hb1 HB0
  go_wp2_with (refine wpList_store5 rfl (.tmp 8) (.tmp 12) rfl w1.heap.size vp' vw' (.int .i64 F.fuse) (strC F.torn) (.bool F.dead) rfl rfl HC8.out HF8.out oo1 oo2 rfl rfl rfl ?_)
  have T := TI0.out
  clear TI0 HC8 HF8
  generalize set5 (w1.alloc (.cells #[.slice none 0 0, .slice none 0 0, .int .i64 0, .string ⟨#[]⟩, .bool false] 25)) w1.heap.size vp' vw' (.int .i64 F.fuse) (strC F.torn) (.bool F.dead) = W at *
  generalize w1.heap.size = g8 at *
  refine take2_pyes _ _ _ rfl w.heap.size F _ (at_ : Int) s hs k b off F.pages.length cap was hk ((T.below.cell (p := ⟨b, off + k, none⟩) hb).trans HC1.out) (Nat.lt_of_lt_of_le hb T.below.size) (by omega) HFIT.out rfl rfl rfl T.c3 T.fl (by omega) (by omega) hhas ?_
  intro act W2 hdf hsz hkeep hn30 hbT
  have hk1 : act.tmps.getD 1 undef = (.int .i64 (k : Int)) := hkeep 1 (by kernel_rfl)
  have hk2 : act.tmps.getD 2 undef = (.iface 67 (.agg #[.int .i64 (at_ : Int), .string ⟨s.toArray⟩])) := hkeep 2 (by kernel_rfl)
  have hk3 : act.tmps.getD 3 undef = (.pointer (some ⟨w.heap.size, 0, none⟩)) := hkeep 3 (by kernel_rfl)
  have hk6 : act.tmps.getD 6 undef = (.pointer (some ⟨w.heap.size + 1, 0, none⟩)) := hkeep 6 (by kernel_rfl)
  have hk8 : act.tmps.getD 8 undef = (.pointer (some ⟨g8, 0, none⟩)) := hkeep 8 (by kernel_rfl)
  obtain ⟨tm, df⟩ := act
  obtain rfl : df = [] := hdf
  clear hkeep
  obtain ⟨f, rfl, hk1, hk2, hk3, hk6, hk8, hn30⟩ : ∃ f : Nat → Value, tm = ((List.range 84).map f).toArray ∧ f 1 = (.int .i64 (k : Int)) ∧ f 2 = (.iface 67 (.agg #[.int .i64 (at_ : Int), .string ⟨s.toArray⟩])) ∧ f 3 = (.pointer (some ⟨w.heap.size, 0, none⟩)) ∧ f 6 = (.pointer (some ⟨w.heap.size + 1, 0, none⟩)) ∧ f 8 = (.pointer (some ⟨g8, 0, none⟩)) ∧ f 30 = (.bool false) := ⟨fun i => tm.getD i undef, arr_eta tm hsz, hk1, hk2, hk3, hk6, hk8, hn30⟩
  rewrite [show ((List.range 84).map f).toArray = #[f 0, f 1, f 2, f 3, f 4, f 5, f 6, f 7, f 8, f 9, f 10, f 11, f 12, f 13, f 14, f 15, f 16, f 17, f 18, f 19, f 20, f 21, f 22, f 23, f 24, f 25, f 26, f 27, f 28, f 29, f 30, f 31, f 32, f 33, f 34, f 35, f 36, f 37, f 38, f 39, f 40, f 41, f 42, f 43, f 44, f 45, f 46, f 47, f 48, f 49, f 50, f 51, f 52, f 53, f 54, f 55, f 56, f 57, f 58, f 59, f 60, f 61, f 62, f 63, f 64, f 65, f 66, f 67, f 68, f 69, f 70, f 71, f 72, f 73, f 74, f 75, f 76, f 77, f 78, f 79, f 80, f 81, f 82, f 83] from rfl]
  rewrite [hk1, hk2, hk3, hk6, hk8, hn30]
  dsimp only
  clear hsz hk1 hk2 hk3 hk6 hk8 hn30
  replace T := T.grow hbT
  clear hbT
  have b4 : W2.cell? ⟨w.heap.size, 4, none⟩ = some (.bool false) := by rw [← HDD.out]; exact T.c3.2.2.2.2.2
  have b0 := T.c3.2.1
  have bw := (T.below.cell (p := ⟨b, off + k, none⟩) hb).trans HC1.out
  go_wp2_with fail
  refine (pPage_any at_ s was _ (by omega) (by omega) hs).mono ?_
  rintro e W3 ⟨rfl, hb3⟩
  replace T := T.grow hb3
  clear hb3 b4 b0 bw
  have b2' : W3.cell? ⟨w.heap.size, 2, none⟩ = some (.int .i64 0) := by rw [← HFU.out]; exact T.c3.2.2.2.1
  obtain ⟨gp, capp, _, hvp, _⟩ := T.p'.some_ (by rw [List.length_map]; omega)
  rw [List.length_map] at hvp
  subst hvp
  go_wp2_with fail
  refine take9 _ _ w _ rfl (w.heap.size + 2) g8 w.heap.size (w.heap.size + 1) g8 k gp F.pages.length capp F F _ _ vw' was (progL was at_ s) rfl rfl rfl rfl rfl T hk hk (by omega) (by rw [length_progL]; omega) (by omega) ?_
  clear T b2'
  intro act W4 hdf hsz hkeep T
  have hk1 : act.tmps.getD 1 undef = (.int .i64 (k : Int)) := hkeep 1 (by kernel_rfl)
  have hk2 : act.tmps.getD 2 undef = (.iface 67 (.agg #[.int .i64 (at_ : Int), .string ⟨s.toArray⟩])) := hkeep 2 (by kernel_rfl)
  have hk3 : act.tmps.getD 3 undef = (.pointer (some ⟨w.heap.size, 0, none⟩)) := hkeep 3 (by kernel_rfl)
  have hk6 : act.tmps.getD 6 undef = (.pointer (some ⟨w.heap.size + 1, 0, none⟩)) := hkeep 6 (by kernel_rfl)
  have hk8 : act.tmps.getD 8 undef = (.pointer (some ⟨g8, 0, none⟩)) := hkeep 8 (by kernel_rfl)
  obtain ⟨tm, df⟩ := act
  obtain rfl : df = [] := hdf
  clear hkeep
  obtain ⟨f, rfl, hk1, hk2, hk3, hk6, hk8⟩ : ∃ f : Nat → Value, tm = ((List.range 84).map f).toArray ∧ f 1 = (.int .i64 (k : Int)) ∧ f 2 = (.iface 67 (.agg #[.int .i64 (at_ : Int), .string ⟨s.toArray⟩])) ∧ f 3 = (.pointer (some ⟨w.heap.size, 0, none⟩)) ∧ f 6 = (.pointer (some ⟨w.heap.size + 1, 0, none⟩)) ∧ f 8 = (.pointer (some ⟨g8, 0, none⟩)) := ⟨fun i => tm.getD i undef, arr_eta tm hsz, hk1, hk2, hk3, hk6, hk8⟩
  rewrite [show ((List.range 84).map f).toArray = #[f 0, f 1, f 2, f 3, f 4, f 5, f 6, f 7, f 8, f 9, f 10, f 11, f 12, f 13, f 14, f 15, f 16, f 17, f 18, f 19, f 20, f 21, f 22, f 23, f 24, f 25, f 26, f 27, f 28, f 29, f 30, f 31, f 32, f 33, f 34, f 35, f 36, f 37, f 38, f 39, f 40, f 41, f 42, f 43, f 44, f 45, f 46, f 47, f 48, f 49, f 50, f 51, f 52, f 53, f 54, f 55, f 56, f 57, f 58, f 59, f 60, f 61, f 62, f 63, f 64, f 65, f 66, f 67, f 68, f 69, f 70, f 71, f 72, f 73, f 74, f 75, f 76, f 77, f 78, f 79, f 80, f 81, f 82, f 83] from rfl]
  rewrite [hk1, hk2, hk3, hk6, hk8]
  dsimp only
  clear hsz hk1 hk2 hk3 hk6 hk8
  obtain ⟨o0, o1, o2, o3, o4, c6⟩ := T.c6
  have HC6 := Kept.mk c6
  have HF6 := Kept.mk T.f6
  obtain ⟨hfl, hB5, hr5⟩ := ti_end T
  have HFL := Kept.mk hfl
  have HR5 := Kept.mk hr5
  obtain ⟨_, k0, k1, k2, k3, k4⟩ := T.c8
  clear T c6 hfl hr5
  go_wp2_with (refine wpList_store5 rfl (.tmp 6) (.tmp 56) rfl (w.heap.size + 1) _ _ _ _ _ rfl rfl HC6.out HF6.out oo1 oo2 rfl rfl rfl ?_)
  exact bodyPost_ret (results2 rfl _ _ (w.heap.size + 1) _ _ _ _ _ (.int .i64 8) rfl rfl HR5.out) rfl ⟨_, rfl, HFL.out, hB5⟩

set_option maxRecDepth 100000 in
set_option maxHeartbeats 2000000 in
theorem take_pdone (F : Fl) (v : Value) (w : World) (hv : isFl F v w) (k : Nat) (at_ : Nat) (s : List UInt8) (hs : s.length ≤ 1000000) (hat : at_ + s.length ≤ (F.pages.getD k []).length) (hdead : F.dead = false) (hfuse : F.fuse < 0) (hhas : hasB F (k : Int) = true) :
    Calls Try.prog 60 #[v, .int .i64 (k : Int), (.iface 67 (.agg #[.int .i64 (at_ : Int), .string ⟨s.toArray⟩]))] w fun e w' => ∃ v', e = .returned (.tuple #[v', .int .i64 0]) ∧ isFlN w.heap.size { F with pages := F.pages.set k (progL (F.pages.getD k []) at_ s), wear := F.wear.set k (F.wear.getD k 0) } v' w' ∧ Below w.heap.size w w' := by
  have HDD := Kept.mk hdead
  clear hdead
  have HFU := Kept.mk hfuse
  clear hfuse
  have HHF := Kept.mk (has_facts F k hhas)
  obtain ⟨hk, h6, hwl, htl, hpg, hwr⟩ := HHF.out
  obtain ⟨was, hwas⟩ : ∃ was, F.pages[k]? = some was := ⟨_, List.getElem?_eq_getElem hk⟩
  obtain ⟨wn, hwn⟩ : ∃ wn, F.wear[k]? = some wn := ⟨_, List.getElem?_eq_getElem (by omega)⟩
  have hwm : was.length ≤ 8192 := (hpg _ (List.mem_of_getElem? hwas)).2.1
  have hn01 := hwr wn (List.mem_of_getElem? hwn)
  obtain ⟨vp, vw, rfl, hp, hq⟩ := hv
  obtain ⟨b, off, cap, hvp, hb, hc⟩ := hp.some_ (by rw [List.length_map]; omega)
  obtain ⟨b2, off2, cap2, hvw, hb2, hc2⟩ := hq.some_ (by rw [List.length_map]; omega)
  rw [List.length_map] at hvp hvw
  subst hvp hvw
  have hcell : w.cell? ⟨b, off + k, none⟩ = some (.string ⟨was.toArray⟩) := hc k _ (by simp [hwas, strC])
  have hcell2 : w.cell? ⟨b2, off2 + k, none⟩ = some (.int .i64 wn) := hc2 k _ (by simp [hwn, intC])
  have hkw : k < F.wear.length := by omega
  have hwl6 : F.wear.length ≤ 6 := by omega
  have HWL := Kept.mk hwl
  clear hwl
  have hget1 : F.pages.getD k [] = was := by simp [List.getD_eq_getElem?_getD, hwas]
  have hget2 : F.wear.getD k 0 = wn := by simp [List.getD_eq_getElem?_getD, hwn]
  try rw [hget1]
  try rw [hget2]
  have hatw : at_ + s.length ≤ was.length := by rw [← hget1]; exact hat
  have hfit : (decide (0 ≤ (at_ : Int)) && decide ((at_ : Int) ≤ (was.length : Int) - (s.length : Int))) = true := by simp; omega
  have HFIT := Kept.mk hfit
  clear hget1 hget2 hat hfit
  have HW := Kept.mk hwas
  have HWN := Kept.mk hwn
  have HC1 := Kept.mk hcell
  have HC2 := Kept.mk hcell2
  have hb0 : Below w.heap.size w ((w.alloc (.cells #[.slice (some ⟨b, off, none⟩) F.pages.length cap, .slice (some ⟨b2, off2, none⟩) F.wear.length cap2, .int .i64 F.fuse, strC F.torn, .bool F.dead] 25)).alloc (.cells #[.slice none 0 0, .slice none 0 0, .int .i64 0, .string ⟨#[]⟩, .bool false] 25)) := ((Below.refl _ _).alloc (Nat.le_refl _) _).alloc (by simp) _
  have HP := Kept.mk hp
  have HQ := Kept.mk hq
  have HB0 := Kept.mk hb0
  clear hp hq hb0 hc hc2 hcell hcell2 hwas hwn hpg hwr
  go_enter Try.func60, Try.ntmps60
  go_wp2_with fail
  refine (copied_any F _ _ ⟨.slice (some ⟨b, off, none⟩) F.pages.length cap, .slice (some ⟨b2, off2, none⟩) F.wear.length cap2, rfl, stable_cells _ _ _ _ HP.out HB0.out, stable_cells _ _ _ _ HQ.out HB0.out⟩ (by omega) (by omega)).mono ?_
  rintro e w1 ⟨vp', vw', rfl, ho1, ho2, hb1⟩
  have TI0 := Lib.hid (ti_start F w w1 (.slice (some ⟨b, off, none⟩) F.pages.length cap) (.slice (some ⟨b2, off2, none⟩) F.wear.length cap2) vp' vw' HP.out HQ.out hb1 ho1 ho2)
  have HC8 := Lib.hid (cells5_new w1 25 (.slice none 0 0) (.slice none 0 0) (.int .i64 0) (.string ⟨#[]⟩) (.bool false))
  have HF8 := Lib.hid (free5_new w1 #[.slice none 0 0, .slice none 0 0, .int .i64 0, .string ⟨#[]⟩, .bool false] 25)
  have oo1 := (ho1.one).2
  have oo2 := (ho2.one).2
  clear ho1 ho2 hb1 HB0
  go_wp2_with (refine wpList_store5 rfl (.tmp 8) (.tmp 12) rfl w1.heap.size vp' vw' (.int .i64 F.fuse) (strC F.torn) (.bool F.dead) rfl rfl HC8.out HF8.out oo1 oo2 rfl rfl rfl ?_)
  have T := TI0.out
  clear TI0 HC8 HF8
  generalize set5 (w1.alloc (.cells #[.slice none 0 0, .slice none 0 0, .int .i64 0, .string ⟨#[]⟩, .bool false] 25)) w1.heap.size vp' vw' (.int .i64 F.fuse) (strC F.torn) (.bool F.dead) = W at *
  generalize w1.heap.size = g8 at *
  refine take2_pyes _ _ _ rfl w.heap.size F _ (at_ : Int) s hs k b off F.pages.length cap was hk ((T.below.cell (p := ⟨b, off + k, none⟩) hb).trans HC1.out) (Nat.lt_of_lt_of_le hb T.below.size) (by omega) HFIT.out rfl rfl rfl T.c3 T.fl (by omega) (by omega) hhas ?_
  intro act W2 hdf hsz hkeep hn30 hbT
  have hk1 : act.tmps.getD 1 undef = (.int .i64 (k : Int)) := hkeep 1 (by kernel_rfl)
  have hk2 : act.tmps.getD 2 undef = (.iface 67 (.agg #[.int .i64 (at_ : Int), .string ⟨s.toArray⟩])) := hkeep 2 (by kernel_rfl)
  have hk3 : act.tmps.getD 3 undef = (.pointer (some ⟨w.heap.size, 0, none⟩)) := hkeep 3 (by kernel_rfl)
  have hk6 : act.tmps.getD 6 undef = (.pointer (some ⟨w.heap.size + 1, 0, none⟩)) := hkeep 6 (by kernel_rfl)
  have hk8 : act.tmps.getD 8 undef = (.pointer (some ⟨g8, 0, none⟩)) := hkeep 8 (by kernel_rfl)
  obtain ⟨tm, df⟩ := act
  obtain rfl : df = [] := hdf
  clear hkeep
  obtain ⟨f, rfl, hk1, hk2, hk3, hk6, hk8, hn30⟩ : ∃ f : Nat → Value, tm = ((List.range 84).map f).toArray ∧ f 1 = (.int .i64 (k : Int)) ∧ f 2 = (.iface 67 (.agg #[.int .i64 (at_ : Int), .string ⟨s.toArray⟩])) ∧ f 3 = (.pointer (some ⟨w.heap.size, 0, none⟩)) ∧ f 6 = (.pointer (some ⟨w.heap.size + 1, 0, none⟩)) ∧ f 8 = (.pointer (some ⟨g8, 0, none⟩)) ∧ f 30 = (.bool false) := ⟨fun i => tm.getD i undef, arr_eta tm hsz, hk1, hk2, hk3, hk6, hk8, hn30⟩
  rewrite [show ((List.range 84).map f).toArray = #[f 0, f 1, f 2, f 3, f 4, f 5, f 6, f 7, f 8, f 9, f 10, f 11, f 12, f 13, f 14, f 15, f 16, f 17, f 18, f 19, f 20, f 21, f 22, f 23, f 24, f 25, f 26, f 27, f 28, f 29, f 30, f 31, f 32, f 33, f 34, f 35, f 36, f 37, f 38, f 39, f 40, f 41, f 42, f 43, f 44, f 45, f 46, f 47, f 48, f 49, f 50, f 51, f 52, f 53, f 54, f 55, f 56, f 57, f 58, f 59, f 60, f 61, f 62, f 63, f 64, f 65, f 66, f 67, f 68, f 69, f 70, f 71, f 72, f 73, f 74, f 75, f 76, f 77, f 78, f 79, f 80, f 81, f 82, f 83] from rfl]
  rewrite [hk1, hk2, hk3, hk6, hk8, hn30]
  dsimp only
  clear hsz hk1 hk2 hk3 hk6 hk8 hn30
  replace T := T.grow hbT
  clear hbT
  have b4 : W2.cell? ⟨w.heap.size, 4, none⟩ = some (.bool false) := by rw [← HDD.out]; exact T.c3.2.2.2.2.2
  have b0 := T.c3.2.1
  have bw := (T.below.cell (p := ⟨b, off + k, none⟩) hb).trans HC1.out
  go_wp2_with fail
  refine (pPage_any at_ s was _ (by omega) (by omega) hs).mono ?_
  rintro e W3 ⟨rfl, hb3⟩
  replace T := T.grow hb3
  clear hb3 b4 b0 bw
  have b2' : W3.cell? ⟨w.heap.size, 2, none⟩ = some (.int .i64 F.fuse) := T.c3.2.2.2.1
  obtain ⟨gp, capp, _, hvp, _⟩ := T.p'.some_ (by rw [List.length_map]; omega)
  obtain ⟨gw, capw, _, hvw, _⟩ := T.q'.some_ (by rw [List.length_map]; omega)
  rw [List.length_map] at hvp hvw
  subst hvp hvw
  have hf0 : (F.fuse == 0) = false := by have := HFU.out; simp; omega
  go_wp2_with fail
  refine take11_p _ _ w _ rfl (w.heap.size + 2) g8 w.heap.size (w.heap.size + 1) g8 k gp F.pages.length capp gw F.wear.length capw b2 off2 F.wear.length cap2 F F _ (progL was at_ s) wn (at_ : Int) s hs rfl rfl rfl rfl rfl T hk hk hkw hkw hkw ((T.below.cell (p := ⟨b2, off2 + k, none⟩) hb2).trans HC2.out) hb2 hn01.1 hn01.2 ?_
  clear T b2'
  intro act W4 hdf hsz hkeep T
  have hk1 : act.tmps.getD 1 undef = (.int .i64 (k : Int)) := hkeep 1 (by kernel_rfl)
  have hk2 : act.tmps.getD 2 undef = (.iface 67 (.agg #[.int .i64 (at_ : Int), .string ⟨s.toArray⟩])) := hkeep 2 (by kernel_rfl)
  have hk3 : act.tmps.getD 3 undef = (.pointer (some ⟨w.heap.size, 0, none⟩)) := hkeep 3 (by kernel_rfl)
  have hk6 : act.tmps.getD 6 undef = (.pointer (some ⟨w.heap.size + 1, 0, none⟩)) := hkeep 6 (by kernel_rfl)
  have hk8 : act.tmps.getD 8 undef = (.pointer (some ⟨g8, 0, none⟩)) := hkeep 8 (by kernel_rfl)
  obtain ⟨tm, df⟩ := act
  obtain rfl : df = [] := hdf
  clear hkeep
  obtain ⟨f, rfl, hk1, hk2, hk3, hk6, hk8⟩ : ∃ f : Nat → Value, tm = ((List.range 84).map f).toArray ∧ f 1 = (.int .i64 (k : Int)) ∧ f 2 = (.iface 67 (.agg #[.int .i64 (at_ : Int), .string ⟨s.toArray⟩])) ∧ f 3 = (.pointer (some ⟨w.heap.size, 0, none⟩)) ∧ f 6 = (.pointer (some ⟨w.heap.size + 1, 0, none⟩)) ∧ f 8 = (.pointer (some ⟨g8, 0, none⟩)) := ⟨fun i => tm.getD i undef, arr_eta tm hsz, hk1, hk2, hk3, hk6, hk8⟩
  rewrite [show ((List.range 84).map f).toArray = #[f 0, f 1, f 2, f 3, f 4, f 5, f 6, f 7, f 8, f 9, f 10, f 11, f 12, f 13, f 14, f 15, f 16, f 17, f 18, f 19, f 20, f 21, f 22, f 23, f 24, f 25, f 26, f 27, f 28, f 29, f 30, f 31, f 32, f 33, f 34, f 35, f 36, f 37, f 38, f 39, f 40, f 41, f 42, f 43, f 44, f 45, f 46, f 47, f 48, f 49, f 50, f 51, f 52, f 53, f 54, f 55, f 56, f 57, f 58, f 59, f 60, f 61, f 62, f 63, f 64, f 65, f 66, f 67, f 68, f 69, f 70, f 71, f 72, f 73, f 74, f 75, f 76, f 77, f 78, f 79, f 80, f 81, f 82, f 83] from rfl]
  rewrite [hk1, hk2, hk3, hk6, hk8]
  dsimp only
  clear hsz hk1 hk2 hk3 hk6 hk8
  have b2' : W4.cell? ⟨w.heap.size, 2, none⟩ = some (.int .i64 F.fuse) := T.c3.2.2.2.1
  have hfd : decide (0 < F.fuse) = false := by have := HFU.out; simp; omega
  obtain ⟨o0, o1, o2, o3, o4, c6⟩ := T.c6
  have HC6 := Kept.mk c6
  have HF6 := Kept.mk T.f6
  obtain ⟨hfl, hB5, hr5⟩ := ti_end T
  have HFL := Kept.mk hfl
  have HR5 := Kept.mk hr5
  obtain ⟨_, k0, k1, k2, k3, k4⟩ := T.c8
  clear T c6 hfl hr5
  go_wp2_with (refine wpList_store5 rfl (.tmp 6) (.tmp 83) rfl (w.heap.size + 1) _ _ _ _ _ rfl rfl HC6.out HF6.out oo1 oo2 rfl rfl rfl ?_)
  exact bodyPost_ret (results2 rfl _ _ (w.heap.size + 1) _ _ _ _ _ (.int .i64 0) rfl rfl HR5.out) rfl ⟨_, rfl, HFL.out, hB5⟩

set_option maxRecDepth 100000 in
set_option maxHeartbeats 2000000 in
theorem take_pburn (F : Fl) (v : Value) (w : World) (hv : isFl F v w) (k : Nat) (at_ : Nat) (s : List UInt8) (hs : s.length ≤ 1000000) (hat : at_ + s.length ≤ (F.pages.getD k []).length) (hdead : F.dead = false) (hfuse : 0 < F.fuse) (hfz : F.fuse ≤ 9223372036854775807) (hhas : hasB F (k : Int) = true) :
    Calls Try.prog 60 #[v, .int .i64 (k : Int), (.iface 67 (.agg #[.int .i64 (at_ : Int), .string ⟨s.toArray⟩]))] w fun e w' => ∃ v', e = .returned (.tuple #[v', .int .i64 0]) ∧ isFlN w.heap.size { F with pages := F.pages.set k (progL (F.pages.getD k []) at_ s), wear := F.wear.set k (F.wear.getD k 0), fuse := F.fuse - 1 } v' w' ∧ Below w.heap.size w w' := by
  have HDD := Kept.mk hdead
  clear hdead
  have HFU := Kept.mk hfuse
  clear hfuse
  have HFZ := Kept.mk hfz
  clear hfz
  have HHF := Kept.mk (has_facts F k hhas)
  obtain ⟨hk, h6, hwl, htl, hpg, hwr⟩ := HHF.out
  obtain ⟨was, hwas⟩ : ∃ was, F.pages[k]? = some was := ⟨_, List.getElem?_eq_getElem hk⟩
  obtain ⟨wn, hwn⟩ : ∃ wn, F.wear[k]? = some wn := ⟨_, List.getElem?_eq_getElem (by omega)⟩
  have hwm : was.length ≤ 8192 := (hpg _ (List.mem_of_getElem? hwas)).2.1
  have hn01 := hwr wn (List.mem_of_getElem? hwn)
  obtain ⟨vp, vw, rfl, hp, hq⟩ := hv
  obtain ⟨b, off, cap, hvp, hb, hc⟩ := hp.some_ (by rw [List.length_map]; omega)
  obtain ⟨b2, off2, cap2, hvw, hb2, hc2⟩ := hq.some_ (by rw [List.length_map]; omega)
  rw [List.length_map] at hvp hvw
  subst hvp hvw
  have hcell : w.cell? ⟨b, off + k, none⟩ = some (.string ⟨was.toArray⟩) := hc k _ (by simp [hwas, strC])
  have hcell2 : w.cell? ⟨b2, off2 + k, none⟩ = some (.int .i64 wn) := hc2 k _ (by simp [hwn, intC])
  have hkw : k < F.wear.length := by omega
  have hwl6 : F.wear.length ≤ 6 := by omega
  have HWL := Kept.mk hwl
  clear hwl
  have hget1 : F.pages.getD k [] = was := by simp [List.getD_eq_getElem?_getD, hwas]
  have hget2 : F.wear.getD k 0 = wn := by simp [List.getD_eq_getElem?_getD, hwn]
  try rw [hget1]
  try rw [hget2]
  have hatw : at_ + s.length ≤ was.length := by rw [← hget1]; exact hat
  have hfit : (decide (0 ≤ (at_ : Int)) && decide ((at_ : Int) ≤ (was.length : Int) - (s.length : Int))) = true := by simp; omega
  have HFIT := Kept.mk hfit
  clear hget1 hget2 hat hfit
  have HW := Kept.mk hwas
  have HWN := Kept.mk hwn
  have HC1 := Kept.mk hcell
  have HC2 := Kept.mk hcell2
  have hb0 : Below w.heap.size w ((w.alloc (.cells #[.slice (some ⟨b, off, none⟩) F.pages.length cap, .slice (some ⟨b2, off2, none⟩) F.wear.length cap2, .int .i64 F.fuse, strC F.torn, .bool F.dead] 25)).alloc (.cells #[.slice none 0 0, .slice none 0 0, .int .i64 0, .string ⟨#[]⟩, .bool false] 25)) := ((Below.refl _ _).alloc (Nat.le_refl _) _).alloc (by simp) _
  have HP := Kept.mk hp
  have HQ := Kept.mk hq
  have HB0 := Kept.mk hb0
  clear hp hq hb0 hc hc2 hcell hcell2 hwas hwn hpg hwr
  go_enter Try.func60, Try.ntmps60
  go_wp2_with fail
  refine (copied_any F _ _ ⟨.slice (some ⟨b, off, none⟩) F.pages.length cap, .slice (some ⟨b2, off2, none⟩) F.wear.length cap2, rfl, stable_cells _ _ _ _ HP.out HB0.out, stable_cells _ _ _ _ HQ.out HB0.out⟩ (by omega) (by omega)).mono ?_
  rintro e w1 ⟨vp', vw', rfl, ho1, ho2, hb1⟩
  have TI0 := Lib.hid (ti_start F w w1 (.slice (some ⟨b, off, none⟩) F.pages.length cap) (.slice (some ⟨b2, off2, none⟩) F.wear.length cap2) vp' vw' HP.out HQ.out hb1 ho1 ho2)
  have HC8 := Lib.hid (cells5_new w1 25 (.slice none 0 0) (.slice none 0 0) (.int .i64 0) (.string ⟨#[]⟩) (.bool false))
  have HF8 := Lib.hid (free5_new w1 #[.slice none 0 0, .slice none 0 0, .int .i64 0, .string ⟨#[]⟩, .bool false] 25)
  have oo1 := (ho1.one).2
  have oo2 := (ho2.one).2
  clear ho1 ho2 hb1 HB0
  go_wp2_with (refine wpList_store5 rfl (.tmp 8) (.tmp 12) rfl w1.heap.size vp' vw' (.int .i64 F.fuse) (strC F.torn) (.bool F.dead) rfl rfl HC8.out HF8.out oo1 oo2 rfl rfl rfl ?_)
  have T := TI0.out
  clear TI0 HC8 HF8
  generalize set5 (w1.alloc (.cells #[.slice none 0 0, .slice none 0 0, .int .i64 0, .string ⟨#[]⟩, .bool false] 25)) w1.heap.size vp' vw' (.int .i64 F.fuse) (strC F.torn) (.bool F.dead) = W at *
  generalize w1.heap.size = g8 at *
  refine take2_pyes _ _ _ rfl w.heap.size F _ (at_ : Int) s hs k b off F.pages.length cap was hk ((T.below.cell (p := ⟨b, off + k, none⟩) hb).trans HC1.out) (Nat.lt_of_lt_of_le hb T.below.size) (by omega) HFIT.out rfl rfl rfl T.c3 T.fl (by omega) (by omega) hhas ?_
  intro act W2 hdf hsz hkeep hn30 hbT
  have hk1 : act.tmps.getD 1 undef = (.int .i64 (k : Int)) := hkeep 1 (by kernel_rfl)
  have hk2 : act.tmps.getD 2 undef = (.iface 67 (.agg #[.int .i64 (at_ : Int), .string ⟨s.toArray⟩])) := hkeep 2 (by kernel_rfl)
  have hk3 : act.tmps.getD 3 undef = (.pointer (some ⟨w.heap.size, 0, none⟩)) := hkeep 3 (by kernel_rfl)
  have hk6 : act.tmps.getD 6 undef = (.pointer (some ⟨w.heap.size + 1, 0, none⟩)) := hkeep 6 (by kernel_rfl)
  have hk8 : act.tmps.getD 8 undef = (.pointer (some ⟨g8, 0, none⟩)) := hkeep 8 (by kernel_rfl)
  obtain ⟨tm, df⟩ := act
  obtain rfl : df = [] := hdf
  clear hkeep
  obtain ⟨f, rfl, hk1, hk2, hk3, hk6, hk8, hn30⟩ : ∃ f : Nat → Value, tm = ((List.range 84).map f).toArray ∧ f 1 = (.int .i64 (k : Int)) ∧ f 2 = (.iface 67 (.agg #[.int .i64 (at_ : Int), .string ⟨s.toArray⟩])) ∧ f 3 = (.pointer (some ⟨w.heap.size, 0, none⟩)) ∧ f 6 = (.pointer (some ⟨w.heap.size + 1, 0, none⟩)) ∧ f 8 = (.pointer (some ⟨g8, 0, none⟩)) ∧ f 30 = (.bool false) := ⟨fun i => tm.getD i undef, arr_eta tm hsz, hk1, hk2, hk3, hk6, hk8, hn30⟩
  rewrite [show ((List.range 84).map f).toArray = #[f 0, f 1, f 2, f 3, f 4, f 5, f 6, f 7, f 8, f 9, f 10, f 11, f 12, f 13, f 14, f 15, f 16, f 17, f 18, f 19, f 20, f 21, f 22, f 23, f 24, f 25, f 26, f 27, f 28, f 29, f 30, f 31, f 32, f 33, f 34, f 35, f 36, f 37, f 38, f 39, f 40, f 41, f 42, f 43, f 44, f 45, f 46, f 47, f 48, f 49, f 50, f 51, f 52, f 53, f 54, f 55, f 56, f 57, f 58, f 59, f 60, f 61, f 62, f 63, f 64, f 65, f 66, f 67, f 68, f 69, f 70, f 71, f 72, f 73, f 74, f 75, f 76, f 77, f 78, f 79, f 80, f 81, f 82, f 83] from rfl]
  rewrite [hk1, hk2, hk3, hk6, hk8, hn30]
  dsimp only
  clear hsz hk1 hk2 hk3 hk6 hk8 hn30
  replace T := T.grow hbT
  clear hbT
  have b4 : W2.cell? ⟨w.heap.size, 4, none⟩ = some (.bool false) := by rw [← HDD.out]; exact T.c3.2.2.2.2.2
  have b0 := T.c3.2.1
  have bw := (T.below.cell (p := ⟨b, off + k, none⟩) hb).trans HC1.out
  go_wp2_with fail
  refine (pPage_any at_ s was _ (by omega) (by omega) hs).mono ?_
  rintro e W3 ⟨rfl, hb3⟩
  replace T := T.grow hb3
  clear hb3 b4 b0 bw
  have b2' : W3.cell? ⟨w.heap.size, 2, none⟩ = some (.int .i64 F.fuse) := T.c3.2.2.2.1
  obtain ⟨gp, capp, _, hvp, _⟩ := T.p'.some_ (by rw [List.length_map]; omega)
  obtain ⟨gw, capw, _, hvw, _⟩ := T.q'.some_ (by rw [List.length_map]; omega)
  rw [List.length_map] at hvp hvw
  subst hvp hvw
  have hf0 : (F.fuse == 0) = false := by have := HFU.out; simp; omega
  go_wp2_with fail
  refine take11_p _ _ w _ rfl (w.heap.size + 2) g8 w.heap.size (w.heap.size + 1) g8 k gp F.pages.length capp gw F.wear.length capw b2 off2 F.wear.length cap2 F F _ (progL was at_ s) wn (at_ : Int) s hs rfl rfl rfl rfl rfl T hk hk hkw hkw hkw ((T.below.cell (p := ⟨b2, off2 + k, none⟩) hb2).trans HC2.out) hb2 hn01.1 hn01.2 ?_
  clear T b2'
  intro act W4 hdf hsz hkeep T
  have hk1 : act.tmps.getD 1 undef = (.int .i64 (k : Int)) := hkeep 1 (by kernel_rfl)
  have hk2 : act.tmps.getD 2 undef = (.iface 67 (.agg #[.int .i64 (at_ : Int), .string ⟨s.toArray⟩])) := hkeep 2 (by kernel_rfl)
  have hk3 : act.tmps.getD 3 undef = (.pointer (some ⟨w.heap.size, 0, none⟩)) := hkeep 3 (by kernel_rfl)
  have hk6 : act.tmps.getD 6 undef = (.pointer (some ⟨w.heap.size + 1, 0, none⟩)) := hkeep 6 (by kernel_rfl)
  have hk8 : act.tmps.getD 8 undef = (.pointer (some ⟨g8, 0, none⟩)) := hkeep 8 (by kernel_rfl)
  obtain ⟨tm, df⟩ := act
  obtain rfl : df = [] := hdf
  clear hkeep
  obtain ⟨f, rfl, hk1, hk2, hk3, hk6, hk8⟩ : ∃ f : Nat → Value, tm = ((List.range 84).map f).toArray ∧ f 1 = (.int .i64 (k : Int)) ∧ f 2 = (.iface 67 (.agg #[.int .i64 (at_ : Int), .string ⟨s.toArray⟩])) ∧ f 3 = (.pointer (some ⟨w.heap.size, 0, none⟩)) ∧ f 6 = (.pointer (some ⟨w.heap.size + 1, 0, none⟩)) ∧ f 8 = (.pointer (some ⟨g8, 0, none⟩)) := ⟨fun i => tm.getD i undef, arr_eta tm hsz, hk1, hk2, hk3, hk6, hk8⟩
  rewrite [show ((List.range 84).map f).toArray = #[f 0, f 1, f 2, f 3, f 4, f 5, f 6, f 7, f 8, f 9, f 10, f 11, f 12, f 13, f 14, f 15, f 16, f 17, f 18, f 19, f 20, f 21, f 22, f 23, f 24, f 25, f 26, f 27, f 28, f 29, f 30, f 31, f 32, f 33, f 34, f 35, f 36, f 37, f 38, f 39, f 40, f 41, f 42, f 43, f 44, f 45, f 46, f 47, f 48, f 49, f 50, f 51, f 52, f 53, f 54, f 55, f 56, f 57, f 58, f 59, f 60, f 61, f 62, f 63, f 64, f 65, f 66, f 67, f 68, f 69, f 70, f 71, f 72, f 73, f 74, f 75, f 76, f 77, f 78, f 79, f 80, f 81, f 82, f 83] from rfl]
  rewrite [hk1, hk2, hk3, hk6, hk8]
  dsimp only
  clear hsz hk1 hk2 hk3 hk6 hk8
  have b2' : W4.cell? ⟨w.heap.size, 2, none⟩ = some (.int .i64 F.fuse) := T.c3.2.2.2.1
  have hfd : decide (0 < F.fuse) = true := by have := HFU.out; simp; omega
  have hfb := HFZ.out
  have hfb1 := HFU.out
  have k2' : W4.cell? ⟨g8, 2, none⟩ = some (.int .i64 F.fuse) := T.c8.2.2.2.1
  have f2' := T.f8 2
  replace T := T.burn (F.fuse - 1)
  obtain ⟨o0, o1, o2, o3, o4, c6⟩ := T.c6
  have HC6 := Kept.mk c6
  have HF6 := Kept.mk T.f6
  obtain ⟨hfl, hB5, hr5⟩ := ti_end T
  have HFL := Kept.mk hfl
  have HR5 := Kept.mk hr5
  obtain ⟨_, k0, k1, k2, k3, k4⟩ := T.c8
  clear T c6 hfl hr5
  go_wp2_with (refine wpList_store5 rfl (.tmp 6) (.tmp 83) rfl (w.heap.size + 1) _ _ _ _ _ rfl rfl HC6.out HF6.out oo1 oo2 rfl rfl rfl ?_)
  exact bodyPost_ret (results2 rfl _ _ (w.heap.size + 1) _ _ _ _ _ (.int .i64 0) rfl rfl HR5.out) rfl ⟨_, rfl, HFL.out, hB5⟩

set_option maxRecDepth 100000 in
set_option maxHeartbeats 2000000 in
theorem take_pout (F : Fl) (v : Value) (w : World) (hv : isFl F v w) (k : Nat) (at_ : Int) (s : List UInt8) (hs : s.length ≤ 1000000) (hfits : (decide (0 ≤ at_) && decide (at_ ≤ ((F.pages.getD k []).length : Int) - (s.length : Int))) = false) (hhas : hasB F (k : Int) = true) :
    Calls Try.prog 60 #[v, .int .i64 (k : Int), (.iface 67 (.agg #[.int .i64 at_, .string ⟨s.toArray⟩]))] w fun e w' => ∃ v', e = .returned (.tuple #[v', .int .i64 1]) ∧ isFlN w.heap.size F v' w' ∧ Below w.heap.size w w' := by
  have HHF := Kept.mk (has_facts F k hhas)
  obtain ⟨hk, h6, hwl, htl, hpg, hwr⟩ := HHF.out
  obtain ⟨was, hwas⟩ : ∃ was, F.pages[k]? = some was := ⟨_, List.getElem?_eq_getElem hk⟩
  obtain ⟨wn, hwn⟩ : ∃ wn, F.wear[k]? = some wn := ⟨_, List.getElem?_eq_getElem (by omega)⟩
  have hwm : was.length ≤ 8192 := (hpg _ (List.mem_of_getElem? hwas)).2.1
  have hn01 := hwr wn (List.mem_of_getElem? hwn)
  obtain ⟨vp, vw, rfl, hp, hq⟩ := hv
  obtain ⟨b, off, cap, hvp, hb, hc⟩ := hp.some_ (by rw [List.length_map]; omega)
  obtain ⟨b2, off2, cap2, hvw, hb2, hc2⟩ := hq.some_ (by rw [List.length_map]; omega)
  rw [List.length_map] at hvp hvw
  subst hvp hvw
  have hcell : w.cell? ⟨b, off + k, none⟩ = some (.string ⟨was.toArray⟩) := hc k _ (by simp [hwas, strC])
  have hcell2 : w.cell? ⟨b2, off2 + k, none⟩ = some (.int .i64 wn) := hc2 k _ (by simp [hwn, intC])
  have hkw : k < F.wear.length := by omega
  have hwl6 : F.wear.length ≤ 6 := by omega
  have HWL := Kept.mk hwl
  clear hwl
  have hget1 : F.pages.getD k [] = was := by simp [List.getD_eq_getElem?_getD, hwas]
  have hget2 : F.wear.getD k 0 = wn := by simp [List.getD_eq_getElem?_getD, hwn]
  try rw [hget1]
  try rw [hget2]
  have hfit : (decide (0 ≤ at_) && decide (at_ ≤ (was.length : Int) - (s.length : Int))) = false := by rw [← hget1]; exact hfits
  have HFIT := Kept.mk hfit
  clear hget1 hget2 hfits hfit
  have HW := Kept.mk hwas
  have HWN := Kept.mk hwn
  have HC1 := Kept.mk hcell
  have HC2 := Kept.mk hcell2
  have hb0 : Below w.heap.size w ((w.alloc (.cells #[.slice (some ⟨b, off, none⟩) F.pages.length cap, .slice (some ⟨b2, off2, none⟩) F.wear.length cap2, .int .i64 F.fuse, strC F.torn, .bool F.dead] 25)).alloc (.cells #[.slice none 0 0, .slice none 0 0, .int .i64 0, .string ⟨#[]⟩, .bool false] 25)) := ((Below.refl _ _).alloc (Nat.le_refl _) _).alloc (by simp) _
  have HP := Kept.mk hp
  have HQ := Kept.mk hq
  have HB0 := Kept.mk hb0
  clear hp hq hb0 hc hc2 hcell hcell2 hwas hwn hpg hwr
  go_enter Try.func60, Try.ntmps60
  go_wp2_with fail
  refine (copied_any F _ _ ⟨.slice (some ⟨b, off, none⟩) F.pages.length cap, .slice (some ⟨b2, off2, none⟩) F.wear.length cap2, rfl, stable_cells _ _ _ _ HP.out HB0.out, stable_cells _ _ _ _ HQ.out HB0.out⟩ (by omega) (by omega)).mono ?_
  rintro e w1 ⟨vp', vw', rfl, ho1, ho2, hb1⟩
  have TI0 := Lib.hid (ti_start F w w1 (.slice (some ⟨b, off, none⟩) F.pages.length cap) (.slice (some ⟨b2, off2, none⟩) F.wear.length cap2) vp' vw' HP.out HQ.out hb1 ho1 ho2)
  have HC8 := Lib.hid (cells5_new w1 25 (.slice none 0 0) (.slice none 0 0) (.int .i64 0) (.string ⟨#[]⟩) (.bool false))
  have HF8 := Lib.hid (free5_new w1 #[.slice none 0 0, .slice none 0 0, .int .i64 0, .string ⟨#[]⟩, .bool false] 25)
  have oo1 := (ho1.one).2
  have oo2 := (ho2.one).2
  clear ho1 ho2 hb1 HB0
  go_wp2_with (refine wpList_store5 rfl (.tmp 8) (.tmp 12) rfl w1.heap.size vp' vw' (.int .i64 F.fuse) (strC F.torn) (.bool F.dead) rfl rfl HC8.out HF8.out oo1 oo2 rfl rfl rfl ?_)
  have T := TI0.out
  clear TI0 HC8 HF8
  generalize set5 (w1.alloc (.cells #[.slice none 0 0, .slice none 0 0, .int .i64 0, .string ⟨#[]⟩, .bool false] 25)) w1.heap.size vp' vw' (.int .i64 F.fuse) (strC F.torn) (.bool F.dead) = W at *
  generalize w1.heap.size = g8 at *
  refine take2_pout _ _ _ rfl w.heap.size F _ at_ s hs k b off F.pages.length cap was hk ((T.below.cell (p := ⟨b, off + k, none⟩) hb).trans HC1.out) (Nat.lt_of_lt_of_le hb T.below.size) (by omega) HFIT.out rfl rfl rfl T.c3 T.fl (by omega) (by omega) hhas ?_
  intro act W2 hdf hsz hkeep hn30 hbT
  have hk1 : act.tmps.getD 1 undef = (.int .i64 (k : Int)) := hkeep 1 (by kernel_rfl)
  have hk2 : act.tmps.getD 2 undef = (.iface 67 (.agg #[.int .i64 at_, .string ⟨s.toArray⟩])) := hkeep 2 (by kernel_rfl)
  have hk3 : act.tmps.getD 3 undef = (.pointer (some ⟨w.heap.size, 0, none⟩)) := hkeep 3 (by kernel_rfl)
  have hk6 : act.tmps.getD 6 undef = (.pointer (some ⟨w.heap.size + 1, 0, none⟩)) := hkeep 6 (by kernel_rfl)
  have hk8 : act.tmps.getD 8 undef = (.pointer (some ⟨g8, 0, none⟩)) := hkeep 8 (by kernel_rfl)
  obtain ⟨tm, df⟩ := act
  obtain rfl : df = [] := hdf
  clear hkeep
  obtain ⟨f, rfl, hk1, hk2, hk3, hk6, hk8, hn30⟩ : ∃ f : Nat → Value, tm = ((List.range 84).map f).toArray ∧ f 1 = (.int .i64 (k : Int)) ∧ f 2 = (.iface 67 (.agg #[.int .i64 at_, .string ⟨s.toArray⟩])) ∧ f 3 = (.pointer (some ⟨w.heap.size, 0, none⟩)) ∧ f 6 = (.pointer (some ⟨w.heap.size + 1, 0, none⟩)) ∧ f 8 = (.pointer (some ⟨g8, 0, none⟩)) ∧ f 30 = (.bool true) := ⟨fun i => tm.getD i undef, arr_eta tm hsz, hk1, hk2, hk3, hk6, hk8, hn30⟩
  rewrite [show ((List.range 84).map f).toArray = #[f 0, f 1, f 2, f 3, f 4, f 5, f 6, f 7, f 8, f 9, f 10, f 11, f 12, f 13, f 14, f 15, f 16, f 17, f 18, f 19, f 20, f 21, f 22, f 23, f 24, f 25, f 26, f 27, f 28, f 29, f 30, f 31, f 32, f 33, f 34, f 35, f 36, f 37, f 38, f 39, f 40, f 41, f 42, f 43, f 44, f 45, f 46, f 47, f 48, f 49, f 50, f 51, f 52, f 53, f 54, f 55, f 56, f 57, f 58, f 59, f 60, f 61, f 62, f 63, f 64, f 65, f 66, f 67, f 68, f 69, f 70, f 71, f 72, f 73, f 74, f 75, f 76, f 77, f 78, f 79, f 80, f 81, f 82, f 83] from rfl]
  rewrite [hk1, hk2, hk3, hk6, hk8, hn30]
  dsimp only
  clear hsz hk1 hk2 hk3 hk6 hk8 hn30
  replace T := T.grow hbT
  clear hbT
  obtain ⟨o0, o1, o2, o3, o4, c6⟩ := T.c6
  have HC6 := Kept.mk c6
  have HF6 := Kept.mk T.f6
  obtain ⟨hfl, hB5, hr5⟩ := ti_end T
  have HFL := Kept.mk hfl
  have HR5 := Kept.mk hr5
  obtain ⟨_, k0, k1, k2, k3, k4⟩ := T.c8
  clear T c6 hfl hr5
  go_wp2_with (refine wpList_store5 rfl (.tmp 6) (.tmp 31) rfl (w.heap.size + 1) _ _ _ _ _ rfl rfl HC6.out HF6.out oo1 oo2 rfl rfl rfl ?_)
  exact bodyPost_ret (results2 rfl _ _ (w.heap.size + 1) _ _ _ _ _ (.int .i64 1) rfl rfl HR5.out) rfl ⟨_, rfl, HFL.out, hB5⟩

/-- What an erase makes of a device, and what it tells. -/
def eraseF (F : Fl) (page : Int) : Fl :=
  if hasB F page = false then F else if F.dead = true then F else
  if F.fuse = 0 then { F with pages := F.pages.set page.toNat (betweenL (F.pages.getD page.toNat []) (List.replicate (F.pages.getD page.toNat []).length 255) F.torn), dead := true } else
  { F with pages := F.pages.set page.toNat (List.replicate (F.pages.getD page.toNat []).length 255), wear := F.wear.set page.toNat (wornN (F.wear.getD page.toNat 0)), fuse := if 0 < F.fuse then F.fuse - 1 else F.fuse }
def eraseE (F : Fl) (page : Int) : Int := if hasB F page = false then 1 else if F.dead = true then 8 else if F.fuse = 0 then 8 else 0
/-- What a program makes of it. -/
def fitsB (F : Fl) (page at_ : Int) (s : List UInt8) : Bool := decide (0 ≤ at_) && decide (at_ ≤ ((F.pages.getD page.toNat []).length : Int) - (s.length : Int))
def progF (F : Fl) (page at_ : Int) (s : List UInt8) : Fl :=
  if hasB F page = false then F else if fitsB F page at_ s = false then F else if F.dead = true then F else
  if F.fuse = 0 then { F with pages := F.pages.set page.toNat (betweenL (F.pages.getD page.toNat []) (progL (F.pages.getD page.toNat []) at_.toNat s) F.torn), dead := true } else
  { F with pages := F.pages.set page.toNat (progL (F.pages.getD page.toNat []) at_.toNat s), wear := F.wear.set page.toNat (F.wear.getD page.toNat 0), fuse := if 0 < F.fuse then F.fuse - 1 else F.fuse }
def progE (F : Fl) (page at_ : Int) (s : List UInt8) : Int := if hasB F page = false then 1 else if fitsB F page at_ s = false then 1 else if F.dead = true then 8 else if F.fuse = 0 then 8 else 0
theorem has_nat {F : Fl} {page : Int} (h : hasB F page = true) : ∃ k : Nat, page = (k : Int) := by
  unfold hasB at h
  simp only [Bool.and_eq_true, decide_eq_true_eq] at h
  exact Int.eq_ofNat_of_zero_le h.1.2
theorem take_e (F : Fl) (page : Int) (v : Value) (w : World) (hv : isFl F v w) (h1 : F.pages.length ≤ 1000000) (h2 : F.wear.length ≤ 1000000) (hfz : F.fuse ≤ 9223372036854775807) :
    Calls Try.prog 60 #[v, .int .i64 page, .iface 69 (.agg #[])] w fun e w' => ∃ v', e = .returned (.tuple #[v', .int .i64 (eraseE F page)]) ∧ isFlN w.heap.size (eraseF F page) v' w' ∧ Below w.heap.size w w' := by
  cases hh : hasB F page with
  | false =>
    rw [show eraseE F page = 1 by simp [eraseE, hh], show eraseF F page = F by simp [eraseF, hh]]
    exact take_eno F v w hv h1 h2 page hh
  | true =>
    obtain ⟨k, rfl⟩ := has_nat hh
    cases hd : F.dead with
    | true =>
      rw [show eraseE F k = 8 by simp [eraseE, hh, hd], show eraseF F k = F by simp [eraseF, hh, hd]]
      exact take_edead F v w hv k hd hh
    | false =>
      by_cases h0 : F.fuse = 0
      · rw [show eraseE F k = 8 by simp [eraseE, hh, hd, h0]]
        unfold eraseF
        rw [if_neg (by simp [hh]), if_neg (by simp [hd]), if_pos h0, Int.toNat_natCast]
        exact take_etorn F v w hv k hd h0 hh
      · rw [show eraseE F k = 0 by simp [eraseE, hh, hd, h0]]
        unfold eraseF
        rw [if_neg (by simp [hh]), if_neg (by simp [hd]), if_neg h0, Int.toNat_natCast]
        by_cases hp : 0 < F.fuse
        · rw [if_pos hp]
          exact take_eburn F v w hv k hd hp hfz hh
        · rw [if_neg hp]
          exact take_edone F v w hv k hd (by omega) hh
theorem take_p (F : Fl) (page at_ : Int) (s : List UInt8) (v : Value) (w : World) (hv : isFl F v w) (hs : s.length ≤ 1000000) (h1 : F.pages.length ≤ 1000000) (h2 : F.wear.length ≤ 1000000) (hfz : F.fuse ≤ 9223372036854775807) :
    Calls Try.prog 60 #[v, .int .i64 page, .iface 67 (.agg #[.int .i64 at_, .string ⟨s.toArray⟩])] w fun e w' => ∃ v', e = .returned (.tuple #[v', .int .i64 (progE F page at_ s)]) ∧ isFlN w.heap.size (progF F page at_ s) v' w' ∧ Below w.heap.size w w' := by
  cases hh : hasB F page with
  | false =>
    rw [show progE F page at_ s = 1 by simp [progE, hh], show progF F page at_ s = F by simp [progF, hh]]
    exact take_pno F v w hv h1 h2 at_ s hs page hh
  | true =>
    obtain ⟨k, rfl⟩ := has_nat hh
    cases hf : fitsB F k at_ s with
    | false =>
      rw [show progE F k at_ s = 1 by simp [progE, hh, hf], show progF F k at_ s = F by simp [progF, hh, hf]]
      unfold fitsB at hf
      rw [Int.toNat_natCast] at hf
      exact take_pout F v w hv k at_ s hs hf hh
    | true =>
      have hf' := hf
      unfold fitsB at hf'
      rw [Int.toNat_natCast] at hf'
      simp only [Bool.and_eq_true, decide_eq_true_eq] at hf'
      obtain ⟨n, rfl⟩ := Int.eq_ofNat_of_zero_le hf'.1
      cases hd : F.dead with
      | true =>
        rw [show progE F k n s = 8 by simp [progE, hh, hd, hf], show progF F k n s = F by simp [progF, hh, hd, hf]]
        exact take_pdead F v w hv k n s hs (by omega) hd hh
      | false =>
        by_cases h0 : F.fuse = 0
        · rw [show progE F k n s = 8 by simp [progE, hh, hd, h0, hf]]
          unfold progF
          rw [if_neg (by simp [hh]), if_neg (by simp [hf]), if_neg (by simp [hd]), if_pos h0, Int.toNat_natCast, Int.toNat_natCast]
          exact take_ptorn F v w hv k n s hs (by omega) hd h0 hh
        · rw [show progE F k n s = 0 by simp [progE, hh, hd, h0, hf]]
          unfold progF
          rw [if_neg (by simp [hh]), if_neg (by simp [hf]), if_neg (by simp [hd]), if_neg h0, Int.toNat_natCast, Int.toNat_natCast]
          by_cases hp : 0 < F.fuse
          · rw [if_pos hp]
            exact take_pburn F v w hv k n s hs (by omega) hd hp hfz hh
          · rw [if_neg hp]
            exact take_pdone F v w hv k n s hs (by omega) hd (by omega) hh
end Go.Proofs.Ytpjafjnokgeifaa
end
section
namespace Go.Proofs.Ytpjafjnokgeifaa
open Go.RowKit
set_option linter.unusedVariables false
set_option linter.unusedSimpArgs false
attribute [local irreducible] set5

/-- Where a result is laid down that was told by a callee. -/
theorem told {w W1 w1 : World} {B g : Nat} {G : Fl} {vp' vw' o0 o1 o2 o3 o4 : Value} (hB : g < B) (hW : W1.heap.size = B) (hbw : Below w.heap.size w W1) (hg : w.heap.size ≤ g) (hc : Cells5 W1 g o0 o1 o2 o3 o4) (hf : Free5 W1 g) (hb1 : Below W1.heap.size W1 w1)
    (hp : isBtw B w1.heap.size 9 (G.pages.map strC) vp' w1) (hq : isBtw B w1.heap.size 3 (G.wear.map intC) vw' w1) :
    Kept (Cells5 w1 g o0 o1 o2 o3 o4) ∧ Kept (Free5 w1 g) ∧ Kept (Cells5 (set5 w1 g vp' vw' (.int .i64 G.fuse) (strC G.torn) (.bool G.dead)) g vp' vw' (.int .i64 G.fuse) (strC G.torn) (.bool G.dead)) ∧
      Kept (isFlN w.heap.size G (.agg #[vp', vw', .int .i64 G.fuse, strC G.torn, .bool G.dead]) (set5 w1 g vp' vw' (.int .i64 G.fuse) (strC G.torn) (.bool G.dead))) ∧ Kept (Below w.heap.size w (set5 w1 g vp' vw' (.int .i64 G.fuse) (strC G.torn) (.bool G.dead))) := by
  have hc1 := hc.keep hb1 (by omega)
  refine ⟨⟨hc1⟩, ⟨hf.keep hb1 (by omega)⟩, ⟨hc1.set5_ _ _ _ _ _⟩, ⟨⟨vp', vw', rfl, ?_, ?_⟩⟩, ⟨below_set5 (hbw.trans (hb1.mono hbw.size)) hg _ _ _ _ _⟩⟩
  · have := (hp.out5 (g := g) (.inl hB) vp' vw' (.int .i64 G.fuse) (strC G.torn) (.bool G.dead)).weak (lo' := w.heap.size) (by omega) (Nat.le_refl _)
    rwa [← size_set5 w1 g vp' vw' (.int .i64 G.fuse) (strC G.torn) (.bool G.dead)] at this
  · have := (hq.out5 (g := g) (.inl hB) vp' vw' (.int .i64 G.fuse) (strC G.torn) (.bool G.dead)).weak (lo' := w.heap.size) (by omega) (Nat.le_refl _)
    rwa [← size_set5 w1 g vp' vw' (.int .i64 G.fuse) (strC G.torn) (.bool G.dead)] at this

set_option maxRecDepth 100000 in
set_option maxHeartbeats 1000000 in
theorem erase_any (F : Fl) (page : Int) (v : Value) (w : World) (hv : isFl F v w) (h1 : F.pages.length ≤ 1000000) (h2 : F.wear.length ≤ 1000000) (hfz : F.fuse ≤ 9223372036854775807) :
    Calls Try.prog 37 #[v, .int .i64 page] w fun e w' => ∃ v', e = .returned (.tuple #[v', .int .i64 (eraseE F page)]) ∧ isFlN w.heap.size (eraseF F page) v' w' ∧ Below w.heap.size w w' := by
  obtain ⟨G, hG⟩ : ∃ G, G = eraseF F page := ⟨_, rfl⟩
  obtain ⟨E, hE⟩ : ∃ E, E = eraseE F page := ⟨_, rfl⟩
  rw [← hG, ← hE]
  have HG := Kept.mk hG
  have HE := Kept.mk hE
  clear hG hE
  obtain ⟨vp, vw, rfl, hp, hq⟩ := hv
  have hb0 : Below w.heap.size w ((w.alloc (.cells #[vp, vw, .int .i64 F.fuse, strC F.torn, .bool F.dead] 25)).alloc (.cells #[.slice none 0 0, .slice none 0 0, .int .i64 0, .string ⟨#[]⟩, .bool false] 25)) := ((Below.refl _ _).alloc (Nat.le_refl _) _).alloc (by simp) _
  have HP := Kept.mk hp
  have HQ := Kept.mk hq
  have HB0 := Kept.mk hb0
  have HFZ := Kept.mk hfz
  clear hp hq hb0 hfz
  go_enter Try.func37, Try.ntmps37
  go_wp2_with fail
  refine (take_e F page _ _ ⟨vp, vw, rfl, stable_cells _ _ _ _ HP.out HB0.out, stable_cells _ _ _ _ HQ.out HB0.out⟩ h1 h2 HFZ.out).mono ?_
  rintro e w1 ⟨v', rfl, hf', hb1⟩
  rw [← HG.out] at hf'
  rewrite [← HE.out]
  obtain ⟨vp', vw', rfl, hp', hq'⟩ := hf'
  have oo1 := hp'.one
  have oo2 := hq'.one
  obtain ⟨K1, K2, K3, K4, K5⟩ := told (g := w.heap.size + 1) (by simp) rfl HB0.out (by omega) (cells5_at (w.alloc (.cells #[vp, vw, .int .i64 F.fuse, strC F.torn, .bool F.dead] 25)) 25 (.slice none 0 0) (.slice none 0 0) (.int .i64 0) (.string ⟨#[]⟩) (.bool false) (w.heap.size + 1) (by simp)) (free5_at (w.alloc (.cells #[vp, vw, .int .i64 F.fuse, strC F.torn, .bool F.dead] 25)) #[.slice none 0 0, .slice none 0 0, .int .i64 0, .string ⟨#[]⟩, .bool false] 25 (w.heap.size + 1) (by simp)) hb1 hp' hq'
  clear hp' hq' hb1
  go_wp2_with (refine wpList_store5 rfl (.tmp 4) (.tmp 11) rfl (w.heap.size + 1) vp' vw' (.int .i64 G.fuse) (strC G.torn) (.bool G.dead) rfl rfl K1.out K2.out oo1 oo2 rfl rfl rfl ?_)
  exact bodyPost_ret (results2 rfl _ _ (w.heap.size + 1) _ _ _ _ _ (.int .i64 E) rfl rfl K3.out) rfl ⟨_, rfl, K4.out, K5.out⟩

set_option maxRecDepth 100000 in
set_option maxHeartbeats 1000000 in
theorem program_any (F : Fl) (page at_ : Int) (s : List UInt8) (v : Value) (w : World) (hv : isFl F v w) (hs : s.length ≤ 1000000) (h1 : F.pages.length ≤ 1000000) (h2 : F.wear.length ≤ 1000000) (hfz : F.fuse ≤ 9223372036854775807) :
    Calls Try.prog 36 #[v, .int .i64 page, .int .i64 at_, .string ⟨s.toArray⟩] w fun e w' => ∃ v', e = .returned (.tuple #[v', .int .i64 (progE F page at_ s)]) ∧ isFlN w.heap.size (progF F page at_ s) v' w' ∧ Below w.heap.size w w' := by
  obtain ⟨G, hG⟩ : ∃ G, G = progF F page at_ s := ⟨_, rfl⟩
  obtain ⟨E, hE⟩ : ∃ E, E = progE F page at_ s := ⟨_, rfl⟩
  rw [← hG, ← hE]
  have HG := Kept.mk hG
  have HE := Kept.mk hE
  clear hG hE
  obtain ⟨vp, vw, rfl, hp, hq⟩ := hv
  have hb0 : Below w.heap.size w ((w.alloc (.cells #[vp, vw, .int .i64 F.fuse, strC F.torn, .bool F.dead] 25)).alloc (.cells #[.slice none 0 0, .slice none 0 0, .int .i64 0, .string ⟨#[]⟩, .bool false] 25)) := ((Below.refl _ _).alloc (Nat.le_refl _) _).alloc (by simp) _
  have HP := Kept.mk hp
  have HQ := Kept.mk hq
  have HB0 := Kept.mk hb0
  have HFZ := Kept.mk hfz
  clear hp hq hb0 hfz
  go_enter Try.func36, Try.ntmps36
  go_wp2_with fail
  refine (take_p F page at_ s _ _ ⟨vp, vw, rfl, stable_cells _ _ _ _ HP.out HB0.out, stable_cells _ _ _ _ HQ.out HB0.out⟩ hs h1 h2 HFZ.out).mono ?_
  rintro e w1 ⟨v', rfl, hf', hb1⟩
  rw [← HG.out] at hf'
  rewrite [← HE.out]
  obtain ⟨vp', vw', rfl, hp', hq'⟩ := hf'
  have oo1 := hp'.one
  have oo2 := hq'.one
  obtain ⟨K1, K2, K3, K4, K5⟩ := told (g := w.heap.size + 1) (by simp) rfl HB0.out (by omega) (cells5_at (w.alloc (.cells #[vp, vw, .int .i64 F.fuse, strC F.torn, .bool F.dead] 25)) 25 (.slice none 0 0) (.slice none 0 0) (.int .i64 0) (.string ⟨#[]⟩) (.bool false) (w.heap.size + 1) (by simp)) (free5_at (w.alloc (.cells #[vp, vw, .int .i64 F.fuse, strC F.torn, .bool F.dead] 25)) #[.slice none 0 0, .slice none 0 0, .int .i64 0, .string ⟨#[]⟩, .bool false] 25 (w.heap.size + 1) (by simp)) hb1 hp' hq'
  clear hp' hq' hb1
  go_wp2_with (refine wpList_store5 rfl (.tmp 8) (.tmp 17) rfl (w.heap.size + 1) vp' vw' (.int .i64 G.fuse) (strC G.torn) (.bool G.dead) rfl rfl K1.out K2.out oo1 oo2 rfl rfl rfl ?_)
  exact bodyPost_ret (results2 rfl _ _ (w.heap.size + 1) _ _ _ _ _ (.int .i64 E) rfl rfl K3.out) rfl ⟨_, rfl, K4.out, K5.out⟩
end Go.Proofs.Ytpjafjnokgeifaa
end
section
namespace Go.Proofs.Ytpjafjnokgeifaa
open Go.RowKit
set_option linter.unusedVariables false
set_option linter.unusedSimpArgs false


def sameB (F G : Fl) : Bool := decide (F.pages = G.pages) && decide (F.wear = G.wear) && (F.fuse == G.fuse) && (F.torn == G.torn) && (F.dead == G.dead)
set_option maxRecDepth 20000 in
set_option maxHeartbeats 1000000 in
theorem same_any (F G : Fl) (v u : Value) (w : World) (hv : isFl F v w) (hu : isFl G u w) (h1 : F.pages.length ≤ 1000000) (h2 : F.wear.length ≤ 1000000) (h3 : G.pages.length ≤ 1000000) (h4 : G.wear.length ≤ 1000000) :
    Calls Try.prog 21 #[v, u] w fun e w' => e = .returned (.bool (sameB F G)) ∧ Below w.heap.size w w' := by
  obtain ⟨vp, vw, rfl, hp, hq⟩ := hv
  obtain ⟨up, uw, rfl, gp, gq⟩ := hu
  have hb0 : Below w.heap.size w ((w.alloc (.cells #[vp, vw, .int .i64 F.fuse, strC F.torn, .bool F.dead] 25)).alloc (.cells #[up, uw, .int .i64 G.fuse, strC G.torn, .bool G.dead] 25)) := ((Below.refl _ _).alloc (Nat.le_refl _) _).alloc (by simp) _
  have hbn := (Below.refl (w.alloc (.cells #[vp, vw, .int .i64 F.fuse, strC F.torn, .bool F.dead] 25)).heap.size (w.alloc (.cells #[vp, vw, .int .i64 F.fuse, strC F.torn, .bool F.dead] 25))).alloc (Nat.le_refl _) (.cells #[up, uw, .int .i64 G.fuse, strC G.torn, .bool G.dead] 25)
  have c1 := (cells5_new w 25 vp vw (.int .i64 F.fuse) (strC F.torn) (.bool F.dead)).keep hbn (by simp)
  have c2 := cells5_at (w.alloc (.cells #[vp, vw, .int .i64 F.fuse, strC F.torn, .bool F.dead] 25)) 25 up uw (.int .i64 G.fuse) (strC G.torn) (.bool G.dead) (w.heap.size + 1) (by simp)
  have HB0 := Kept.mk hb0
  have C1 := Kept.mk c1
  have C2 := Kept.mk c2
  have HP := Kept.mk hp
  have HQ := Kept.mk hq
  have GP := Kept.mk gp
  have GQ := Kept.mk gq
  have HS := Kept.mk (show sameB F G = (decide (F.pages = G.pages) && decide (F.wear = G.wear) && (F.fuse == G.fuse) && (F.torn == G.torn) && (F.dead == G.dead)) from rfl)
  clear hp hq gp gq c1 c2 hb0 hbn
  unfold strC
  go_enter Try.func21, Try.ntmps21
  go_wp2_with fail
  refine (equal_s F.pages G.pages _ _ _ (stable_cells _ _ _ _ HP.out HB0.out) (stable_cells _ _ _ _ GP.out HB0.out) (by omega) (by omega)).mono ?_
  rintro e w1 ⟨rfl, hb1⟩
  obtain ⟨_, k0, k1, k2, k3, k4⟩ := C1.out.keep hb1 (by simp <;> omega)
  obtain ⟨_, j0, j1, j2, j3, j4⟩ := C2.out.keep hb1 (by simp <;> omega)
  unfold strC at k3 j3
  have hB := Kept.mk (HB0.out.trans (hb1.mono HB0.out.size))
  have hs1 := hb1.size
  have HB1 := Kept.mk hb1
  clear hb1
  cases d1 : decide (F.pages = G.pages) with
  | false =>
    go_wp2
    go_ret
    exact ⟨by rw [HS.out, d1]; rfl, hB.out⟩
  | true =>
    go_wp2_with fail
    refine (equal_i F.wear G.wear _ _ _ (stable_cells _ _ _ _ HQ.out hB.out) (stable_cells _ _ _ _ GQ.out hB.out) (by omega) (by omega)).mono ?_
    rintro e w2 ⟨rfl, hb2⟩
    clear k0 k1 k2 k3 k4 j0 j1 j2 j3 j4
    obtain ⟨_, k0, k1, k2, k3, k4⟩ := (C1.out.keep HB1.out (by simp <;> omega)).keep hb2 (by simp at hs1 <;> omega)
    obtain ⟨_, j0, j1, j2, j3, j4⟩ := (C2.out.keep HB1.out (by simp <;> omega)).keep hb2 (by simp at hs1 <;> omega)
    unfold strC at k3 j3
    have hB2 := Kept.mk (hB.out.trans (hb2.mono hB.out.size))
    clear hb2
    cases d2 : decide (F.wear = G.wear) with
    | false =>
      go_wp2
      go_ret
      exact ⟨by rw [HS.out, d1, d2]; rfl, hB2.out⟩
    | true =>
      cases d3 : F.fuse == G.fuse with
      | false =>
        go_wp2
        go_ret
        exact ⟨by rw [HS.out, d1, d2, d3]; rfl, hB2.out⟩
      | true =>
        cases d4 : F.torn == G.torn with
        | false =>
          go_wp2
          go_ret
          exact ⟨by rw [HS.out, d1, d2, d3, d4]; rfl, hB2.out⟩
        | true =>
          go_wp2
          go_ret
          exact ⟨by rw [HS.out, d1, d2, d3, d4]; rfl, hB2.out⟩
end Go.Proofs.Ytpjafjnokgeifaa
end
section
namespace Go.Proofs.Ytpjafjnokgeifaa
open Go.RowKit
set_option linter.unusedVariables false
set_option linter.unusedSimpArgs false
attribute [local irreducible] set5

section
variable {w0 W : World} {lo hi g3 g6 g8 : Nat} {F G : Fl} {vp vw vp' vw' : Value}
theorem TI.tear (h : TI w0 W lo hi g3 g6 g8 F G vp vw vp' vw') (t : List UInt8) : TI w0 (W.setCell ⟨g8, 3, none⟩ (strC t)) lo hi g3 g6 g8 F { G with torn := t } vp vw vp' vw' := by
  have o3 := h.o3
  have o6 := h.o6
  have o8 := h.o8
  exact {
    below := h.below.setCell (p := ⟨g8, 3, none⟩) (by show _ ≤ g8; omega) _
    o3 := o3
    o6 := o6
    o36 := h.o36
    o8 := o8
    c3 := h.c3.apart _ (by omega)
    c6 := by obtain ⟨o0, o1, o2, o3', o4, hc⟩ := h.c6; exact ⟨o0, o1, o2, o3', o4, hc.apart _ (by omega)⟩
    f6 := h.f6.set _ _
    c8 := h.c8.set3 _
    f8 := h.f8.set _ _
    p := h.p
    q := h.q
    p' := h.p'.out (p := ⟨g8, 3, none⟩) (.inr (by show _ ≤ g8; omega)) _
    q' := h.q'.out (p := ⟨g8, 3, none⟩) (.inr (by show _ ≤ g8; omega)) _ }
end
def wakeB (F : Fl) (torn : List UInt8) : Bool := mayB F && decide ((torn.length : Int) ≤ 64)
def wakeF (F : Fl) (fuse : Int) (torn : List UInt8) : Fl := if wakeB F torn = true then { F with fuse := fuse, torn := torn, dead := false } else F
def wakeE (F : Fl) (torn : List UInt8) : Int := if wakeB F torn = true then 0 else 1

set_option maxRecDepth 100000 in
set_option maxHeartbeats 2000000 in
theorem wake_no1 (F : Fl) (fuse : Int) (torn : List UInt8) (v : Value) (w : World) (hv : isFl F v w) (h1 : F.pages.length * 16 ≤ 140737488355328) (h2 : F.wear.length * 8 ≤ 140737488355328) (hm : mayB F = false) :
    Calls Try.prog 12 #[v, .int .i64 fuse, .string ⟨torn.toArray⟩] w fun e w' => ∃ v', e = .returned (.tuple #[v', .int .i64 1]) ∧ isFlN w.heap.size F v' w' ∧ Below w.heap.size w w' := by
  have hsz : (⟨torn.toArray⟩ : ByteArray).size = torn.length := size_mk torn
  have HM := Kept.mk hm
  clear hm
  obtain ⟨vp, vw, rfl, hp, hq⟩ := hv
  have hb0 : Below w.heap.size w ((w.alloc (.cells #[vp, vw, .int .i64 F.fuse, strC F.torn, .bool F.dead] 25)).alloc (.cells #[.slice none 0 0, .slice none 0 0, .int .i64 0, .string ⟨#[]⟩, .bool false] 25)) := ((Below.refl _ _).alloc (Nat.le_refl _) _).alloc (by simp) _
  have HP := Kept.mk hp
  have HQ := Kept.mk hq
  have HB0 := Kept.mk hb0
  clear hp hq hb0
  go_enter Try.func12, Try.ntmps12
  go_wp2_with fail
  refine (copied_any F _ _ ⟨vp, vw, rfl, stable_cells _ _ _ _ HP.out HB0.out, stable_cells _ _ _ _ HQ.out HB0.out⟩ (by omega) (by omega)).mono ?_
  rintro e w1 ⟨vp', vw', rfl, ho1, ho2, hb1⟩
  have TI0 := Kept.mk (ti_start F w w1 vp vw vp' vw' HP.out HQ.out hb1 ho1 ho2)
  have HC8 := Kept.mk (cells5_new w1 25 (.slice none 0 0) (.slice none 0 0) (.int .i64 0) (.string ⟨#[]⟩) (.bool false))
  have HF8 := Kept.mk (free5_new w1 #[.slice none 0 0, .slice none 0 0, .int .i64 0, .string ⟨#[]⟩, .bool false] 25)
  have oo1 := (ho1.one).2
  have oo2 := (ho2.one).2
  clear ho1 ho2 hb1 HB0
  have b3 := TI0.out.c3
  obtain ⟨_, b0, b1, b2, b3, b4⟩ := b3
  go_wp2_with (refine wpList_store5 rfl (.tmp 8) (.tmp 10) rfl w1.heap.size vp' vw' (.int .i64 F.fuse) (strC F.torn) (.bool F.dead) rfl rfl HC8.out HF8.out oo1 oo2 rfl rfl rfl ?_)
  have T := TI0.out
  clear TI0 HC8 HF8 b0 b1 b2 b3 b4
  generalize set5 (w1.alloc (.cells #[.slice none 0 0, .slice none 0 0, .int .i64 0, .string ⟨#[]⟩, .bool false] 25)) w1.heap.size vp' vw' (.int .i64 F.fuse) (strC F.torn) (.bool F.dead) = W at *
  generalize w1.heap.size = g8 at *
  refine (mayBe_any F _ _ T.fl (by omega) (by omega)).mono ?_
  rintro e W2 ⟨rfl, hbT⟩
  replace T := T.grow hbT
  clear hbT
  rewrite [HM.out]
  obtain ⟨o0, o1, o2, o3, o4, c6⟩ := T.c6
  have HC6 := Kept.mk c6
  have HF6 := Kept.mk T.f6
  obtain ⟨hfl, hB5, hr5⟩ := ti_end T
  have HFL := Kept.mk hfl
  have HR5 := Kept.mk hr5
  have HB5 := Kept.mk hB5
  obtain ⟨_, k0, k1, k2, k3, k4⟩ := T.c8
  clear T c6 hfl hr5 hB5
  go_wp2_with (refine wpList_store5 rfl (.tmp 6) (.tmp 19) rfl (w.heap.size + 1) _ _ _ _ _ rfl rfl HC6.out HF6.out oo1 oo2 rfl rfl rfl ?_)
  exact bodyPost_ret (results2 rfl _ _ (w.heap.size + 1) _ _ _ _ _ (.int .i64 1) rfl rfl HR5.out) rfl ⟨_, rfl, HFL.out, HB5.out⟩

set_option maxRecDepth 100000 in
set_option maxHeartbeats 2000000 in
theorem wake_no2 (F : Fl) (fuse : Int) (torn : List UInt8) (v : Value) (w : World) (hv : isFl F v w) (h1 : F.pages.length * 16 ≤ 140737488355328) (h2 : F.wear.length * 8 ≤ 140737488355328) (hm : mayB F = true) (ht : 64 < (torn.length : Int)) :
    Calls Try.prog 12 #[v, .int .i64 fuse, .string ⟨torn.toArray⟩] w fun e w' => ∃ v', e = .returned (.tuple #[v', .int .i64 1]) ∧ isFlN w.heap.size F v' w' ∧ Below w.heap.size w w' := by
  have hsz : (⟨torn.toArray⟩ : ByteArray).size = torn.length := size_mk torn
  have HM := Kept.mk hm
  clear hm
  have ht' : decide (64 < (torn.length : Int)) = true := by simp; omega
  obtain ⟨vp, vw, rfl, hp, hq⟩ := hv
  have hb0 : Below w.heap.size w ((w.alloc (.cells #[vp, vw, .int .i64 F.fuse, strC F.torn, .bool F.dead] 25)).alloc (.cells #[.slice none 0 0, .slice none 0 0, .int .i64 0, .string ⟨#[]⟩, .bool false] 25)) := ((Below.refl _ _).alloc (Nat.le_refl _) _).alloc (by simp) _
  have HP := Kept.mk hp
  have HQ := Kept.mk hq
  have HB0 := Kept.mk hb0
  clear hp hq hb0
  go_enter Try.func12, Try.ntmps12
  go_wp2_with fail
  refine (copied_any F _ _ ⟨vp, vw, rfl, stable_cells _ _ _ _ HP.out HB0.out, stable_cells _ _ _ _ HQ.out HB0.out⟩ (by omega) (by omega)).mono ?_
  rintro e w1 ⟨vp', vw', rfl, ho1, ho2, hb1⟩
  have TI0 := Kept.mk (ti_start F w w1 vp vw vp' vw' HP.out HQ.out hb1 ho1 ho2)
  have HC8 := Kept.mk (cells5_new w1 25 (.slice none 0 0) (.slice none 0 0) (.int .i64 0) (.string ⟨#[]⟩) (.bool false))
  have HF8 := Kept.mk (free5_new w1 #[.slice none 0 0, .slice none 0 0, .int .i64 0, .string ⟨#[]⟩, .bool false] 25)
  have oo1 := (ho1.one).2
  have oo2 := (ho2.one).2
  clear ho1 ho2 hb1 HB0
  have b3 := TI0.out.c3
  obtain ⟨_, b0, b1, b2, b3, b4⟩ := b3
  go_wp2_with (refine wpList_store5 rfl (.tmp 8) (.tmp 10) rfl w1.heap.size vp' vw' (.int .i64 F.fuse) (strC F.torn) (.bool F.dead) rfl rfl HC8.out HF8.out oo1 oo2 rfl rfl rfl ?_)
  have T := TI0.out
  clear TI0 HC8 HF8 b0 b1 b2 b3 b4
  generalize set5 (w1.alloc (.cells #[.slice none 0 0, .slice none 0 0, .int .i64 0, .string ⟨#[]⟩, .bool false] 25)) w1.heap.size vp' vw' (.int .i64 F.fuse) (strC F.torn) (.bool F.dead) = W at *
  generalize w1.heap.size = g8 at *
  refine (mayBe_any F _ _ T.fl (by omega) (by omega)).mono ?_
  rintro e W2 ⟨rfl, hbT⟩
  replace T := T.grow hbT
  clear hbT
  rewrite [HM.out]
  obtain ⟨o0, o1, o2, o3, o4, c6⟩ := T.c6
  have HC6 := Kept.mk c6
  have HF6 := Kept.mk T.f6
  obtain ⟨hfl, hB5, hr5⟩ := ti_end T
  have HFL := Kept.mk hfl
  have HR5 := Kept.mk hr5
  have HB5 := Kept.mk hB5
  obtain ⟨_, k0, k1, k2, k3, k4⟩ := T.c8
  clear T c6 hfl hr5 hB5
  go_wp2_with (refine wpList_store5 rfl (.tmp 6) (.tmp 19) rfl (w.heap.size + 1) _ _ _ _ _ rfl rfl HC6.out HF6.out oo1 oo2 rfl rfl rfl ?_)
  exact bodyPost_ret (results2 rfl _ _ (w.heap.size + 1) _ _ _ _ _ (.int .i64 1) rfl rfl HR5.out) rfl ⟨_, rfl, HFL.out, HB5.out⟩

set_option maxRecDepth 100000 in
set_option maxHeartbeats 2000000 in
theorem wake_yes (F : Fl) (fuse : Int) (torn : List UInt8) (v : Value) (w : World) (hv : isFl F v w) (h1 : F.pages.length * 16 ≤ 140737488355328) (h2 : F.wear.length * 8 ≤ 140737488355328) (hm : mayB F = true) (ht : (torn.length : Int) ≤ 64) :
    Calls Try.prog 12 #[v, .int .i64 fuse, .string ⟨torn.toArray⟩] w fun e w' => ∃ v', e = .returned (.tuple #[v', .int .i64 0]) ∧ isFlN w.heap.size { F with fuse := fuse, torn := torn, dead := false } v' w' ∧ Below w.heap.size w w' := by
  have hsz : (⟨torn.toArray⟩ : ByteArray).size = torn.length := size_mk torn
  have HM := Kept.mk hm
  clear hm
  have ht' : decide (64 < (torn.length : Int)) = false := by simp; omega
  obtain ⟨vp, vw, rfl, hp, hq⟩ := hv
  have hb0 : Below w.heap.size w ((w.alloc (.cells #[vp, vw, .int .i64 F.fuse, strC F.torn, .bool F.dead] 25)).alloc (.cells #[.slice none 0 0, .slice none 0 0, .int .i64 0, .string ⟨#[]⟩, .bool false] 25)) := ((Below.refl _ _).alloc (Nat.le_refl _) _).alloc (by simp) _
  have HP := Kept.mk hp
  have HQ := Kept.mk hq
  have HB0 := Kept.mk hb0
  clear hp hq hb0
  go_enter Try.func12, Try.ntmps12
  go_wp2_with fail
  refine (copied_any F _ _ ⟨vp, vw, rfl, stable_cells _ _ _ _ HP.out HB0.out, stable_cells _ _ _ _ HQ.out HB0.out⟩ (by omega) (by omega)).mono ?_
  rintro e w1 ⟨vp', vw', rfl, ho1, ho2, hb1⟩
  have TI0 := Kept.mk (ti_start F w w1 vp vw vp' vw' HP.out HQ.out hb1 ho1 ho2)
  have HC8 := Kept.mk (cells5_new w1 25 (.slice none 0 0) (.slice none 0 0) (.int .i64 0) (.string ⟨#[]⟩) (.bool false))
  have HF8 := Kept.mk (free5_new w1 #[.slice none 0 0, .slice none 0 0, .int .i64 0, .string ⟨#[]⟩, .bool false] 25)
  have oo1 := (ho1.one).2
  have oo2 := (ho2.one).2
  clear ho1 ho2 hb1 HB0
  have b3 := TI0.out.c3
  obtain ⟨_, b0, b1, b2, b3, b4⟩ := b3
  go_wp2_with (refine wpList_store5 rfl (.tmp 8) (.tmp 10) rfl w1.heap.size vp' vw' (.int .i64 F.fuse) (strC F.torn) (.bool F.dead) rfl rfl HC8.out HF8.out oo1 oo2 rfl rfl rfl ?_)
  have T := TI0.out
  clear TI0 HC8 HF8 b0 b1 b2 b3 b4
  generalize set5 (w1.alloc (.cells #[.slice none 0 0, .slice none 0 0, .int .i64 0, .string ⟨#[]⟩, .bool false] 25)) w1.heap.size vp' vw' (.int .i64 F.fuse) (strC F.torn) (.bool F.dead) = W at *
  generalize w1.heap.size = g8 at *
  refine (mayBe_any F _ _ T.fl (by omega) (by omega)).mono ?_
  rintro e W2 ⟨rfl, hbT⟩
  replace T := T.grow hbT
  clear hbT
  rewrite [HM.out]
  have x2 := T.c8.2.2.2.1
  have y2 := T.f8 2
  replace T := T.burn fuse
  have x3 := T.c8.2.2.2.2.1
  have y3 := T.f8 3
  replace T := T.tear torn
  change TI w ((W2.setCell ⟨g8, 2, none⟩ (.int .i64 fuse)).setCell ⟨g8, 3, none⟩ (.string ⟨torn.toArray⟩)) _ _ _ _ _ _ _ _ _ _ _ at T
  have x4 := T.c8.2.2.2.2.2
  have y4 := T.f8 4
  replace T := T.die false
  obtain ⟨o0, o1, o2, o3, o4, c6⟩ := T.c6
  have HC6 := Kept.mk c6
  have HF6 := Kept.mk T.f6
  obtain ⟨hfl, hB5, hr5⟩ := ti_end T
  have HFL := Kept.mk hfl
  have HR5 := Kept.mk hr5
  have HB5 := Kept.mk hB5
  obtain ⟨_, k0, k1, k2, k3, k4⟩ := T.c8
  clear T c6 hfl hr5 hB5
  go_wp2_with (refine wpList_store5 rfl (.tmp 6) (.tmp 25) rfl (w.heap.size + 1) _ _ _ _ _ rfl rfl HC6.out HF6.out oo1 oo2 rfl rfl rfl ?_)
  exact bodyPost_ret (results2 rfl _ _ (w.heap.size + 1) _ _ _ _ _ (.int .i64 0) rfl rfl HR5.out) rfl ⟨_, rfl, HFL.out, HB5.out⟩

theorem wake_any (F : Fl) (fuse : Int) (torn : List UInt8) (v : Value) (w : World) (hv : isFl F v w) (h1 : F.pages.length * 16 ≤ 140737488355328) (h2 : F.wear.length * 8 ≤ 140737488355328) :
    Calls Try.prog 12 #[v, .int .i64 fuse, .string ⟨torn.toArray⟩] w fun e w' => ∃ v', e = .returned (.tuple #[v', .int .i64 (wakeE F torn)]) ∧ isFlN w.heap.size (wakeF F fuse torn) v' w' ∧ Below w.heap.size w w' := by
  cases hm : mayB F with
  | false =>
    rw [show wakeE F torn = 1 by simp [wakeE, wakeB, hm], show wakeF F fuse torn = F by simp [wakeF, wakeB, hm]]
    exact wake_no1 F fuse torn v w hv h1 h2 hm
  | true =>
    by_cases ht : (torn.length : Int) ≤ 64
    · have hb : wakeB F torn = true := by unfold wakeB; rw [hm, decide_eq_true ht]; rfl
      rw [show wakeE F torn = 0 by simp [wakeE, hb], show wakeF F fuse torn = { F with fuse := fuse, torn := torn, dead := false } by simp [wakeF, hb]]
      exact wake_yes F fuse torn v w hv h1 h2 hm ht
    · have hb : wakeB F torn = false := by unfold wakeB; rw [hm, decide_eq_false ht]; rfl
      rw [show wakeE F torn = 1 by simp [wakeE, hb], show wakeF F fuse torn = F by simp [wakeF, hb]]
      exact wake_no2 F fuse torn v w hv h1 h2 hm (by omega)
end Go.Proofs.Ytpjafjnokgeifaa
end
section
namespace Go.Proofs.Ytpjafjnokgeifaa
open Go.RowKit
set_option linter.unusedVariables false
set_option linter.unusedSimpArgs false
attribute [local irreducible] set5

/-- A page some of whose bits were turned. -/
def rotL (was : List UInt8) (k : Nat) (turn : List UInt8) : List UInt8 := was.take k ++ pairL (· ^^^ ·) (was.drop k) turn
theorem length_rotL (was : List UInt8) (k : Nat) (s : List UInt8) : (rotL was k s).length = was.length := by
  unfold rotL
  rw [List.length_append, length_pairL, ← List.length_append, List.take_append_drop]
theorem call_xorF (t d : List UInt8) (ht : t.length ≤ 1000000000) (hd : d.length ≤ 1000000000) (w : World) :
    Calls Try.prog 47 #[.string ⟨t.toArray⟩, .string ⟨d.toArray⟩] w fun e w' => ∃ v, e = .returned v ∧ isVal (.string ⟨(pairL (· ^^^ ·) t d).toArray⟩) v w' ∧ Below w.heap.size w w' :=
  (xor_l t d w ht hd).mono (by rintro e w' ⟨rfl, hb⟩; exact ⟨_, rfl, rfl, hb⟩)
noncomputable def rotOps : Array Oper := regionOf Try.f14 5
set_option maxRecDepth 100000 in
set_option maxHeartbeats 2000000 in
theorem rot5 (Q : Exit → Act → World → Prop) (a0 : Act) (w0 W : World) (hsz : a0.tmps.size = 55) (lo hi g3 g6 g8 k gp np capp at_ : Nat) (F G : Fl) (vp vw vw' : Value) (was turn : List UInt8)
    (e1 : a0.tmps.getD 1 undef = .int .i64 (k : Int)) (e2 : a0.tmps.getD 2 undef = .int .i64 (at_ : Int)) (e3 : a0.tmps.getD 3 undef = .string ⟨turn.toArray⟩) (e10 : a0.tmps.getD 10 undef = .pointer (some ⟨g8, 0, none⟩)) (e11 : a0.tmps.getD 11 undef = .string ⟨was.toArray⟩)
    (h : TI w0 W lo hi g3 g6 g8 F G vp vw (.slice (some ⟨gp, 0, none⟩) np capp) vw') (hknp : k < np) (hkg : k < G.pages.length) (hw1 : was.length ≤ 1000000) (hw2 : turn.length ≤ 1000000) (hk : at_ ≤ was.length)
    (hQ : ∀ (a : Act) (W' : World), a.defers = a0.defers → a.tmps.size = a0.tmps.size → (∀ t, (rotOps.toList.all fun o => o.dst != some t) = true → a.tmps.getD t undef = a0.tmps.getD t undef) →
      TI w0 W' lo hi g3 g6 g8 F { G with pages := G.pages.set k (rotL was at_ turn) } vp vw (.slice (some ⟨gp, 0, none⟩) np capp) vw' → Q .normal a W') :
    (Code.region 5 rotOps true).wp Try.prog Q a0 W := by
  have hc8 := h.c8
  have hdl : (was.drop at_).length ≤ 1000000000 := by rw [List.length_drop]; omega
  refine wp_region_tail 13 mixed (by rw [hsz]; kernel_rfl) (by kernel_rfl) ?_
  rw [show rotOps.size - 13 = 1 by kernel_rfl]
  refine ⟨isVal (.pointer (some ⟨g8, 0, none⟩)), step_field 25 (.tmp 10) 0 ⟨g8, 0, none⟩ ⟨g8, 0, none⟩ (by kernel_rfl) (wanted_none (by kernel_rfl)) (knows_old 10 (.pointer (some ⟨g8, 0, none⟩)) (by kernel_rfl) e10) (field_fl g8 0 (by omega)), ?_⟩
  refine ⟨isVal (.slice (some ⟨gp, 0, none⟩) np capp), step_read 22 (.tmp 41) ⟨g8, 0, none⟩ (.slice (some ⟨gp, 0, none⟩) np capp) (by kernel_rfl) (wanted_none (by kernel_rfl)) (knows_new (V := isVal (.pointer (some ⟨g8, 0, none⟩))) 41 0 (by kernel_rfl) (by kernel_rfl) (by kernel_rfl)) hc8.2.1 hc8.1 agg_strs, ?_⟩
  refine ⟨isVal (.int .i64 (k : Int)), step_move (.tmp 1) (by kernel_rfl) (wanted_none (by kernel_rfl)) (stable_val _) (knows_old 1 (.int .i64 (k : Int)) (by kernel_rfl) e1), ?_⟩
  refine ⟨isVal (.string ⟨was.toArray⟩), step_move (.tmp 11) (by kernel_rfl) (wanted_none (by kernel_rfl)) (stable_val _) (knows_old 11 (.string ⟨was.toArray⟩) (by kernel_rfl) e11), ?_⟩
  refine ⟨isVal (.int .i64 (at_ : Int)), step_move (.tmp 2) (by kernel_rfl) (wanted_none (by kernel_rfl)) (stable_val _) (knows_old 2 (.int .i64 (at_ : Int)) (by kernel_rfl) e2), ?_⟩
  refine ⟨isVal (.string ⟨(was.take at_).toArray⟩), step_head 9 (.tmp 44) (.tmp 45) was at_ (by kernel_rfl) (wanted_none (by kernel_rfl)) (knows_new (V := isVal (.string ⟨was.toArray⟩)) 44 3 (by kernel_rfl) (by kernel_rfl) (by kernel_rfl)) (knows_new (V := isVal (.int .i64 (at_ : Int))) 45 4 (by kernel_rfl) (by kernel_rfl) (by kernel_rfl)) (head_str was at_ hk), ?_⟩
  refine ⟨isVal (.string ⟨was.toArray⟩), step_move (.tmp 11) (by kernel_rfl) (wanted_none (by kernel_rfl)) (stable_val _) (knows_old 11 (.string ⟨was.toArray⟩) (by kernel_rfl) e11), ?_⟩
  refine ⟨isVal (.int .i64 (at_ : Int)), step_move (.tmp 2) (by kernel_rfl) (wanted_none (by kernel_rfl)) (stable_val _) (knows_old 2 (.int .i64 (at_ : Int)) (by kernel_rfl) e2), ?_⟩
  refine ⟨isVal (.string ⟨(was.drop at_).toArray⟩), step_rest 9 (.tmp 47) (.tmp 48) was at_ (by kernel_rfl) (wanted_none (by kernel_rfl)) (knows_new (V := isVal (.string ⟨was.toArray⟩)) 47 6 (by kernel_rfl) (by kernel_rfl) (by kernel_rfl)) (knows_new (V := isVal (.int .i64 (at_ : Int))) 48 7 (by kernel_rfl) (by kernel_rfl) (by kernel_rfl)) (rest_str was at_ hk), ?_⟩
  refine ⟨isVal (.string ⟨turn.toArray⟩), step_move (.tmp 3) (by kernel_rfl) (wanted_none (by kernel_rfl)) (stable_val _) (knows_old 3 (.string ⟨turn.toArray⟩) (by kernel_rfl) e3), ?_⟩
  refine ⟨isVal (.string ⟨(pairL (· ^^^ ·) (was.drop at_) turn).toArray⟩), step_call 47 #[.tmp 49, .tmp 50] #[9, 9] #[.string ⟨(was.drop at_).toArray⟩, .string ⟨turn.toArray⟩] (by kernel_rfl) (wanted_none (by kernel_rfl)) (stable_val _) (args2 (.tmp 49) (.tmp 50) (.string ⟨(was.drop at_).toArray⟩) (.string ⟨turn.toArray⟩) (knows_new (V := isVal (.string ⟨(was.drop at_).toArray⟩)) 49 8 (by kernel_rfl) (by kernel_rfl) (by kernel_rfl)) (knows_new (V := isVal (.string ⟨turn.toArray⟩)) 50 9 (by kernel_rfl) (by kernel_rfl) (by kernel_rfl))) (enters_of Try.func47 (by kernel_rfl) rfl) (by intro w hb; exact call_xorF (was.drop at_) turn hdl (by omega) w), ?_⟩
  refine ⟨isVal (.string ⟨(was.take at_ ++ pairL (· ^^^ ·) (was.drop at_) turn).toArray⟩), step_bin .add 9 9 (.tmp 46) (.tmp 51) (.string ⟨(was.take at_).toArray⟩) (.string ⟨(pairL (· ^^^ ·) (was.drop at_) turn).toArray⟩) (.string ⟨(was.take at_ ++ pairL (· ^^^ ·) (was.drop at_) turn).toArray⟩) (by kernel_rfl) (wanted_none (by kernel_rfl)) (knows_new (V := isVal (.string ⟨(was.take at_).toArray⟩)) 46 5 (by kernel_rfl) (by kernel_rfl) (by kernel_rfl)) (knows_new (V := isVal (.string ⟨(pairL (· ^^^ ·) (was.drop at_) turn).toArray⟩)) 51 10 (by kernel_rfl) (by kernel_rfl) (by kernel_rfl)) (fun _ => rfl) (fun W => run_string_add_lists W (was.take at_) (pairL (· ^^^ ·) (was.drop at_) turn) (by rw [List.length_take]; omega) (by rw [length_pairL, List.length_drop]; omega)), ?_⟩
  refine ⟨isVal (.pointer (some ⟨gp, 0 + k, none⟩)), step_place 22 9 (.tmp 42) (.tmp 43) gp 0 np capp k (by kernel_rfl) (wanted_none (by kernel_rfl)) (knows_new (V := isVal (.slice (some ⟨gp, 0, none⟩) np capp)) 42 1 (by kernel_rfl) (by kernel_rfl) (by kernel_rfl)) (knows_new (V := isVal (.int .i64 (k : Int))) 43 2 (by kernel_rfl) (by kernel_rfl) (by kernel_rfl)) Try.underlying22 (by kernel_rfl) hknp, ?_⟩
  intro a w hk' hb hd
  have d52 := fdone_of (hd 11 (by decide)) (t := 52) (V := isVal (.string ⟨(was.take at_ ++ pairL (· ^^^ ·) (was.drop at_) turn).toArray⟩)) (by kernel_rfl) (by kernel_rfl)
  have d53 := fdone_of (hd 12 (by decide)) (t := 53) (V := isVal (.pointer (some ⟨gp, 0 + k, none⟩))) (by kernel_rfl) (by kernel_rfl)
  rw [Nat.zero_add] at d53
  have T1 := h.grow hb
  obtain ⟨q1, q2, _⟩ := T1.p'.cell k (strC G.pages[k]) (get_map strC _ _ hkg)
  refine tail_store 9 (.tmp 53) (.tmp 52) ⟨gp, k, none⟩ (strC (rotL was at_ turn)) _ (by kernel_rfl) (by kernel_rfl) d53 d52 (by kernel_rfl) rfl rfl q1 q2 ?_
  exact hQ _ _ hk'.1 hk'.2.1 hk'.2.2 (T1.page k hkg (rotL was at_ turn))

set_option maxRecDepth 100000 in
set_option maxHeartbeats 2000000 in
theorem rot_no1 (F : Fl) (turn : List UInt8) (v : Value) (w : World) (hv : isFl F v w) (hs : turn.length ≤ 1000000) (page at_ : Int) (h1 : F.pages.length ≤ 1000000) (h2 : F.wear.length ≤ 1000000) (hhas : hasB F page = false) :
    Calls Try.prog 14 #[v, .int .i64 page, .int .i64 at_, .string ⟨turn.toArray⟩] w fun e w' => ∃ v', e = .returned (.tuple #[v', .int .i64 1]) ∧ isFlN w.heap.size F v' w' ∧ Below w.heap.size w w' := by
  have hsz : (⟨turn.toArray⟩ : ByteArray).size = turn.length := size_mk turn
  have HH := Kept.mk hhas
  clear hhas
  obtain ⟨vp, vw, rfl, hp, hq⟩ := hv
  have hb0 : Below w.heap.size w ((w.alloc (.cells #[vp, vw, .int .i64 F.fuse, strC F.torn, .bool F.dead] 25)).alloc (.cells #[.slice none 0 0, .slice none 0 0, .int .i64 0, .string ⟨#[]⟩, .bool false] 25)) := ((Below.refl _ _).alloc (Nat.le_refl _) _).alloc (by simp) _
  have HP := Kept.mk hp
  have HQ := Kept.mk hq
  have HB0 := Kept.mk hb0
  clear hp hq hb0
  go_enter Try.func14, Try.ntmps14
  go_wp2_with fail
  refine (copied_any F _ _ ⟨vp, vw, rfl, stable_cells _ _ _ _ HP.out HB0.out, stable_cells _ _ _ _ HQ.out HB0.out⟩ (by omega) (by omega)).mono ?_
  rintro e w1 ⟨vp', vw', rfl, ho1, ho2, hb1⟩
  have TI0 := Kept.mk (ti_start F w w1 vp vw vp' vw' HP.out HQ.out hb1 ho1 ho2)
  have HC8 := Kept.mk (cells5_new w1 25 (.slice none 0 0) (.slice none 0 0) (.int .i64 0) (.string ⟨#[]⟩) (.bool false))
  have HF8 := Kept.mk (free5_new w1 #[.slice none 0 0, .slice none 0 0, .int .i64 0, .string ⟨#[]⟩, .bool false] 25)
  have oo1 := (ho1.one).2
  have oo2 := (ho2.one).2
  clear ho1 ho2 hb1 HB0
  have b3 := TI0.out.c3
  obtain ⟨_, b0, b1, b2, b3, b4⟩ := b3
  go_wp2_with (refine wpList_store5 rfl (.tmp 10) (.tmp 13) rfl w1.heap.size vp' vw' (.int .i64 F.fuse) (strC F.torn) (.bool F.dead) rfl rfl HC8.out HF8.out oo1 oo2 rfl rfl rfl ?_)
  have T := TI0.out
  clear TI0 HC8 HF8 b0 b1 b2 b3 b4
  generalize set5 (w1.alloc (.cells #[.slice none 0 0, .slice none 0 0, .int .i64 0, .string ⟨#[]⟩, .bool false] 25)) w1.heap.size vp' vw' (.int .i64 F.fuse) (strC F.torn) (.bool F.dead) = W at *
  generalize w1.heap.size = g8 at *
  refine (hasPage_any F page _ _ T.fl (by omega) (by omega)).mono ?_
  rintro e W2 ⟨rfl, hbT⟩
  replace T := T.grow hbT
  clear hbT
  rewrite [HH.out]
  obtain ⟨o0, o1, o2, o3, o4, c6⟩ := T.c6
  have HC6 := Kept.mk c6
  have HF6 := Kept.mk T.f6
  obtain ⟨hfl, hB5, hr5⟩ := ti_end T
  have HFL := Kept.mk hfl
  have HR5 := Kept.mk hr5
  have HB5 := Kept.mk hB5
  obtain ⟨_, k0, k1, k2, k3, k4⟩ := T.c8
  clear T c6 hfl hr5 hB5
  go_wp2_with (refine wpList_store5 rfl (.tmp 8) (.tmp 35) rfl (w.heap.size + 1) _ _ _ _ _ rfl rfl HC6.out HF6.out oo1 oo2 rfl rfl rfl ?_)
  exact bodyPost_ret (results2 rfl _ _ (w.heap.size + 1) _ _ _ _ _ (.int .i64 1) rfl rfl HR5.out) rfl ⟨_, rfl, HFL.out, HB5.out⟩

set_option maxRecDepth 100000 in
set_option maxHeartbeats 2000000 in
theorem rot_no2 (F : Fl) (turn : List UInt8) (v : Value) (w : World) (hv : isFl F v w) (hs : turn.length ≤ 1000000) (k : Nat) (at_ : Int) (hhas : hasB F (k : Int) = true) (hl : 4 < turn.length) :
    Calls Try.prog 14 #[v, .int .i64 (k : Int), .int .i64 at_, .string ⟨turn.toArray⟩] w fun e w' => ∃ v', e = .returned (.tuple #[v', .int .i64 1]) ∧ isFlN w.heap.size F v' w' ∧ Below w.heap.size w w' := by
  have hsz : (⟨turn.toArray⟩ : ByteArray).size = turn.length := size_mk turn
  have HH := Kept.mk hhas
  have hlong : decide (4 < (turn.length : Int)) = true := by simp; omega
  have HHF := Kept.mk (has_facts F k hhas)
  obtain ⟨hk, h6, hwl, htl, hpg, hwr⟩ := HHF.out
  obtain ⟨was, hwas⟩ : ∃ was, F.pages[k]? = some was := ⟨_, List.getElem?_eq_getElem hk⟩
  obtain ⟨wn, hwn⟩ : ∃ wn, F.wear[k]? = some wn := ⟨_, List.getElem?_eq_getElem (by omega)⟩
  have hwm : was.length ≤ 8192 := (hpg _ (List.mem_of_getElem? hwas)).2.1
  have hn01 := hwr wn (List.mem_of_getElem? hwn)
  obtain ⟨vp, vw, rfl, hp, hq⟩ := hv
  obtain ⟨b, off, cap, hvp, hb, hc⟩ := hp.some_ (by rw [List.length_map]; omega)
  obtain ⟨b2, off2, cap2, hvw, hb2, hc2⟩ := hq.some_ (by rw [List.length_map]; omega)
  rw [List.length_map] at hvp hvw
  subst hvp hvw
  have hcell : w.cell? ⟨b, off + k, none⟩ = some (.string ⟨was.toArray⟩) := hc k _ (by simp [hwas, strC])
  have hcell2 : w.cell? ⟨b2, off2 + k, none⟩ = some (.int .i64 wn) := hc2 k _ (by simp [hwn, intC])
  have hkw : k < F.wear.length := by omega
  have hwl6 : F.wear.length ≤ 6 := by omega
  have HWL := Kept.mk hwl
  clear hwl
  have hget1 : F.pages.getD k [] = was := by simp [List.getD_eq_getElem?_getD, hwas]
  have hget2 : F.wear.getD k 0 = wn := by simp [List.getD_eq_getElem?_getD, hwn]
  try rw [hget1]
  try rw [hget2]
  clear hget1 hget2
  have HW := Kept.mk hwas
  have HWN := Kept.mk hwn
  have HC1 := Kept.mk hcell
  have HC2 := Kept.mk hcell2
  have hb0 : Below w.heap.size w ((w.alloc (.cells #[.slice (some ⟨b, off, none⟩) F.pages.length cap, .slice (some ⟨b2, off2, none⟩) F.wear.length cap2, .int .i64 F.fuse, strC F.torn, .bool F.dead] 25)).alloc (.cells #[.slice none 0 0, .slice none 0 0, .int .i64 0, .string ⟨#[]⟩, .bool false] 25)) := ((Below.refl _ _).alloc (Nat.le_refl _) _).alloc (by simp) _
  have HP := Kept.mk hp
  have HQ := Kept.mk hq
  have HB0 := Kept.mk hb0
  clear hp hq hb0 hc hc2 hcell hcell2 hwas hwn hpg hwr
  go_enter Try.func14, Try.ntmps14
  go_wp2_with fail
  refine (copied_any F _ _ ⟨.slice (some ⟨b, off, none⟩) F.pages.length cap, .slice (some ⟨b2, off2, none⟩) F.wear.length cap2, rfl, stable_cells _ _ _ _ HP.out HB0.out, stable_cells _ _ _ _ HQ.out HB0.out⟩ (by omega) (by omega)).mono ?_
  rintro e w1 ⟨vp', vw', rfl, ho1, ho2, hb1⟩
  have TI0 := Kept.mk (ti_start F w w1 (.slice (some ⟨b, off, none⟩) F.pages.length cap) (.slice (some ⟨b2, off2, none⟩) F.wear.length cap2) vp' vw' HP.out HQ.out hb1 ho1 ho2)
  have HC8 := Kept.mk (cells5_new w1 25 (.slice none 0 0) (.slice none 0 0) (.int .i64 0) (.string ⟨#[]⟩) (.bool false))
  have HF8 := Kept.mk (free5_new w1 #[.slice none 0 0, .slice none 0 0, .int .i64 0, .string ⟨#[]⟩, .bool false] 25)
  have oo1 := (ho1.one).2
  have oo2 := (ho2.one).2
  clear ho1 ho2 hb1 HB0
  have b3 := TI0.out.c3
  obtain ⟨_, b0, b1, b2, b3, b4⟩ := b3
  go_wp2_with (refine wpList_store5 rfl (.tmp 10) (.tmp 13) rfl w1.heap.size vp' vw' (.int .i64 F.fuse) (strC F.torn) (.bool F.dead) rfl rfl HC8.out HF8.out oo1 oo2 rfl rfl rfl ?_)
  have T := TI0.out
  clear TI0 HC8 HF8 b0 b1 b2 b3 b4
  generalize set5 (w1.alloc (.cells #[.slice none 0 0, .slice none 0 0, .int .i64 0, .string ⟨#[]⟩, .bool false] 25)) w1.heap.size vp' vw' (.int .i64 F.fuse) (strC F.torn) (.bool F.dead) = W at *
  generalize w1.heap.size = g8 at *
  refine (hasPage_any F (k : Int) _ _ T.fl (by omega) (by omega)).mono ?_
  rintro e W2 ⟨rfl, hbT⟩
  replace T := T.grow hbT
  clear hbT
  rewrite [HH.out]
  obtain ⟨o0, o1, o2, o3, o4, c6⟩ := T.c6
  have HC6 := Kept.mk c6
  have HF6 := Kept.mk T.f6
  obtain ⟨hfl, hB5, hr5⟩ := ti_end T
  have HFL := Kept.mk hfl
  have HR5 := Kept.mk hr5
  have HB5 := Kept.mk hB5
  obtain ⟨_, k0, k1, k2, k3, k4⟩ := T.c8
  clear T c6 hfl hr5 hB5
  go_wp2_with (refine wpList_store5 rfl (.tmp 8) (.tmp 35) rfl (w.heap.size + 1) _ _ _ _ _ rfl rfl HC6.out HF6.out oo1 oo2 rfl rfl rfl ?_)
  exact bodyPost_ret (results2 rfl _ _ (w.heap.size + 1) _ _ _ _ _ (.int .i64 1) rfl rfl HR5.out) rfl ⟨_, rfl, HFL.out, HB5.out⟩

set_option maxRecDepth 100000 in
set_option maxHeartbeats 2000000 in
theorem rot_no3 (F : Fl) (turn : List UInt8) (v : Value) (w : World) (hv : isFl F v w) (hs : turn.length ≤ 1000000) (k : Nat) (at_ : Int) (hhas : hasB F (k : Int) = true) (hl : turn.length ≤ 4) (hfits : (decide (0 ≤ at_) && decide (at_ ≤ ((F.pages.getD k []).length : Int) - (turn.length : Int))) = false) :
    Calls Try.prog 14 #[v, .int .i64 (k : Int), .int .i64 at_, .string ⟨turn.toArray⟩] w fun e w' => ∃ v', e = .returned (.tuple #[v', .int .i64 1]) ∧ isFlN w.heap.size F v' w' ∧ Below w.heap.size w w' := by
  have hsz : (⟨turn.toArray⟩ : ByteArray).size = turn.length := size_mk turn
  have HH := Kept.mk hhas
  have hlong : decide (4 < (turn.length : Int)) = false := by simp; omega
  have HHF := Kept.mk (has_facts F k hhas)
  obtain ⟨hk, h6, hwl, htl, hpg, hwr⟩ := HHF.out
  obtain ⟨was, hwas⟩ : ∃ was, F.pages[k]? = some was := ⟨_, List.getElem?_eq_getElem hk⟩
  obtain ⟨wn, hwn⟩ : ∃ wn, F.wear[k]? = some wn := ⟨_, List.getElem?_eq_getElem (by omega)⟩
  have hwm : was.length ≤ 8192 := (hpg _ (List.mem_of_getElem? hwas)).2.1
  have hn01 := hwr wn (List.mem_of_getElem? hwn)
  obtain ⟨vp, vw, rfl, hp, hq⟩ := hv
  obtain ⟨b, off, cap, hvp, hb, hc⟩ := hp.some_ (by rw [List.length_map]; omega)
  obtain ⟨b2, off2, cap2, hvw, hb2, hc2⟩ := hq.some_ (by rw [List.length_map]; omega)
  rw [List.length_map] at hvp hvw
  subst hvp hvw
  have hcell : w.cell? ⟨b, off + k, none⟩ = some (.string ⟨was.toArray⟩) := hc k _ (by simp [hwas, strC])
  have hcell2 : w.cell? ⟨b2, off2 + k, none⟩ = some (.int .i64 wn) := hc2 k _ (by simp [hwn, intC])
  have hkw : k < F.wear.length := by omega
  have hwl6 : F.wear.length ≤ 6 := by omega
  have HWL := Kept.mk hwl
  clear hwl
  have hget1 : F.pages.getD k [] = was := by simp [List.getD_eq_getElem?_getD, hwas]
  have hget2 : F.wear.getD k 0 = wn := by simp [List.getD_eq_getElem?_getD, hwn]
  try rw [hget1]
  try rw [hget2]
  have hfit : (decide (0 ≤ at_) && decide (at_ ≤ (was.length : Int) - (turn.length : Int))) = false := by rw [← hget1]; exact hfits
  have HFIT := Kept.mk hfit
  clear hget1 hget2 hfits hfit
  have HW := Kept.mk hwas
  have HWN := Kept.mk hwn
  have HC1 := Kept.mk hcell
  have HC2 := Kept.mk hcell2
  have hb0 : Below w.heap.size w ((w.alloc (.cells #[.slice (some ⟨b, off, none⟩) F.pages.length cap, .slice (some ⟨b2, off2, none⟩) F.wear.length cap2, .int .i64 F.fuse, strC F.torn, .bool F.dead] 25)).alloc (.cells #[.slice none 0 0, .slice none 0 0, .int .i64 0, .string ⟨#[]⟩, .bool false] 25)) := ((Below.refl _ _).alloc (Nat.le_refl _) _).alloc (by simp) _
  have HP := Kept.mk hp
  have HQ := Kept.mk hq
  have HB0 := Kept.mk hb0
  clear hp hq hb0 hc hc2 hcell hcell2 hwas hwn hpg hwr
  go_enter Try.func14, Try.ntmps14
  go_wp2_with fail
  refine (copied_any F _ _ ⟨.slice (some ⟨b, off, none⟩) F.pages.length cap, .slice (some ⟨b2, off2, none⟩) F.wear.length cap2, rfl, stable_cells _ _ _ _ HP.out HB0.out, stable_cells _ _ _ _ HQ.out HB0.out⟩ (by omega) (by omega)).mono ?_
  rintro e w1 ⟨vp', vw', rfl, ho1, ho2, hb1⟩
  have TI0 := Kept.mk (ti_start F w w1 (.slice (some ⟨b, off, none⟩) F.pages.length cap) (.slice (some ⟨b2, off2, none⟩) F.wear.length cap2) vp' vw' HP.out HQ.out hb1 ho1 ho2)
  have HC8 := Kept.mk (cells5_new w1 25 (.slice none 0 0) (.slice none 0 0) (.int .i64 0) (.string ⟨#[]⟩) (.bool false))
  have HF8 := Kept.mk (free5_new w1 #[.slice none 0 0, .slice none 0 0, .int .i64 0, .string ⟨#[]⟩, .bool false] 25)
  have oo1 := (ho1.one).2
  have oo2 := (ho2.one).2
  clear ho1 ho2 hb1 HB0
  have b3 := TI0.out.c3
  obtain ⟨_, b0, b1, b2, b3, b4⟩ := b3
  go_wp2_with (refine wpList_store5 rfl (.tmp 10) (.tmp 13) rfl w1.heap.size vp' vw' (.int .i64 F.fuse) (strC F.torn) (.bool F.dead) rfl rfl HC8.out HF8.out oo1 oo2 rfl rfl rfl ?_)
  have T := TI0.out
  clear TI0 HC8 HF8 b0 b1 b2 b3 b4
  generalize set5 (w1.alloc (.cells #[.slice none 0 0, .slice none 0 0, .int .i64 0, .string ⟨#[]⟩, .bool false] 25)) w1.heap.size vp' vw' (.int .i64 F.fuse) (strC F.torn) (.bool F.dead) = W at *
  generalize w1.heap.size = g8 at *
  refine (hasPage_any F (k : Int) _ _ T.fl (by omega) (by omega)).mono ?_
  rintro e W2 ⟨rfl, hbT⟩
  replace T := T.grow hbT
  clear hbT
  rewrite [HH.out]
  have a0 := T.c3.2.1
  have bw := (T.below.cell (p := ⟨b, off + k, none⟩) hb).trans HC1.out
  have hwz : (⟨was.toArray⟩ : ByteArray).size = was.length := size_mk was
  go_wp2_with fail
  refine (stands_any turn at_ was.length _ (by omega) (by omega) (by omega)).mono ?_
  rintro e W2' ⟨rfl, rfl⟩
  rewrite [HFIT.out]
  clear a0 bw
  obtain ⟨o0, o1, o2, o3, o4, c6⟩ := T.c6
  have HC6 := Kept.mk c6
  have HF6 := Kept.mk T.f6
  obtain ⟨hfl, hB5, hr5⟩ := ti_end T
  have HFL := Kept.mk hfl
  have HR5 := Kept.mk hr5
  have HB5 := Kept.mk hB5
  obtain ⟨_, k0, k1, k2, k3, k4⟩ := T.c8
  clear T c6 hfl hr5 hB5
  go_wp2_with (refine wpList_store5 rfl (.tmp 8) (.tmp 35) rfl (w.heap.size + 1) _ _ _ _ _ rfl rfl HC6.out HF6.out oo1 oo2 rfl rfl rfl ?_)
  exact bodyPost_ret (results2 rfl _ _ (w.heap.size + 1) _ _ _ _ _ (.int .i64 1) rfl rfl HR5.out) rfl ⟨_, rfl, HFL.out, HB5.out⟩

set_option maxRecDepth 100000 in
set_option maxHeartbeats 2000000 in
theorem rot_yes (F : Fl) (turn : List UInt8) (v : Value) (w : World) (hv : isFl F v w) (hs : turn.length ≤ 1000000) (k at_ : Nat) (hhas : hasB F (k : Int) = true) (hl : turn.length ≤ 4) (hat : at_ + turn.length ≤ (F.pages.getD k []).length) :
    Calls Try.prog 14 #[v, .int .i64 (k : Int), .int .i64 (at_ : Int), .string ⟨turn.toArray⟩] w fun e w' => ∃ v', e = .returned (.tuple #[v', .int .i64 0]) ∧ isFlN w.heap.size { F with pages := F.pages.set k (rotL (F.pages.getD k []) at_ turn) } v' w' ∧ Below w.heap.size w w' := by
  have hsz : (⟨turn.toArray⟩ : ByteArray).size = turn.length := size_mk turn
  have HH := Kept.mk hhas
  have hlong : decide (4 < (turn.length : Int)) = false := by simp; omega
  have HHF := Kept.mk (has_facts F k hhas)
  obtain ⟨hk, h6, hwl, htl, hpg, hwr⟩ := HHF.out
  obtain ⟨was, hwas⟩ : ∃ was, F.pages[k]? = some was := ⟨_, List.getElem?_eq_getElem hk⟩
  obtain ⟨wn, hwn⟩ : ∃ wn, F.wear[k]? = some wn := ⟨_, List.getElem?_eq_getElem (by omega)⟩
  have hwm : was.length ≤ 8192 := (hpg _ (List.mem_of_getElem? hwas)).2.1
  have hn01 := hwr wn (List.mem_of_getElem? hwn)
  obtain ⟨vp, vw, rfl, hp, hq⟩ := hv
  obtain ⟨b, off, cap, hvp, hb, hc⟩ := hp.some_ (by rw [List.length_map]; omega)
  obtain ⟨b2, off2, cap2, hvw, hb2, hc2⟩ := hq.some_ (by rw [List.length_map]; omega)
  rw [List.length_map] at hvp hvw
  subst hvp hvw
  have hcell : w.cell? ⟨b, off + k, none⟩ = some (.string ⟨was.toArray⟩) := hc k _ (by simp [hwas, strC])
  have hcell2 : w.cell? ⟨b2, off2 + k, none⟩ = some (.int .i64 wn) := hc2 k _ (by simp [hwn, intC])
  have hkw : k < F.wear.length := by omega
  have hwl6 : F.wear.length ≤ 6 := by omega
  have HWL := Kept.mk hwl
  clear hwl
  have hget1 : F.pages.getD k [] = was := by simp [List.getD_eq_getElem?_getD, hwas]
  have hget2 : F.wear.getD k 0 = wn := by simp [List.getD_eq_getElem?_getD, hwn]
  try rw [hget1]
  try rw [hget2]
  have hatw : at_ + turn.length ≤ was.length := by rw [← hget1]; exact hat
  have hfit : (decide (0 ≤ (at_ : Int)) && decide ((at_ : Int) ≤ (was.length : Int) - (turn.length : Int))) = true := by simp; omega
  have HFIT := Kept.mk hfit
  clear hget1 hget2 hat hfit
  have HW := Kept.mk hwas
  have HWN := Kept.mk hwn
  have HC1 := Kept.mk hcell
  have HC2 := Kept.mk hcell2
  have hb0 : Below w.heap.size w ((w.alloc (.cells #[.slice (some ⟨b, off, none⟩) F.pages.length cap, .slice (some ⟨b2, off2, none⟩) F.wear.length cap2, .int .i64 F.fuse, strC F.torn, .bool F.dead] 25)).alloc (.cells #[.slice none 0 0, .slice none 0 0, .int .i64 0, .string ⟨#[]⟩, .bool false] 25)) := ((Below.refl _ _).alloc (Nat.le_refl _) _).alloc (by simp) _
  have HP := Kept.mk hp
  have HQ := Kept.mk hq
  have HB0 := Kept.mk hb0
  clear hp hq hb0 hc hc2 hcell hcell2 hwas hwn hpg hwr
  go_enter Try.func14, Try.ntmps14
  go_wp2_with fail
  refine (copied_any F _ _ ⟨.slice (some ⟨b, off, none⟩) F.pages.length cap, .slice (some ⟨b2, off2, none⟩) F.wear.length cap2, rfl, stable_cells _ _ _ _ HP.out HB0.out, stable_cells _ _ _ _ HQ.out HB0.out⟩ (by omega) (by omega)).mono ?_
  rintro e w1 ⟨vp', vw', rfl, ho1, ho2, hb1⟩
  have TI0 := Kept.mk (ti_start F w w1 (.slice (some ⟨b, off, none⟩) F.pages.length cap) (.slice (some ⟨b2, off2, none⟩) F.wear.length cap2) vp' vw' HP.out HQ.out hb1 ho1 ho2)
  have HC8 := Kept.mk (cells5_new w1 25 (.slice none 0 0) (.slice none 0 0) (.int .i64 0) (.string ⟨#[]⟩) (.bool false))
  have HF8 := Kept.mk (free5_new w1 #[.slice none 0 0, .slice none 0 0, .int .i64 0, .string ⟨#[]⟩, .bool false] 25)
  have oo1 := (ho1.one).2
  have oo2 := (ho2.one).2
  clear ho1 ho2 hb1 HB0
  have b3 := TI0.out.c3
  obtain ⟨_, b0, b1, b2, b3, b4⟩ := b3
  go_wp2_with (refine wpList_store5 rfl (.tmp 10) (.tmp 13) rfl w1.heap.size vp' vw' (.int .i64 F.fuse) (strC F.torn) (.bool F.dead) rfl rfl HC8.out HF8.out oo1 oo2 rfl rfl rfl ?_)
  have T := TI0.out
  clear TI0 HC8 HF8 b0 b1 b2 b3 b4
  generalize set5 (w1.alloc (.cells #[.slice none 0 0, .slice none 0 0, .int .i64 0, .string ⟨#[]⟩, .bool false] 25)) w1.heap.size vp' vw' (.int .i64 F.fuse) (strC F.torn) (.bool F.dead) = W at *
  generalize w1.heap.size = g8 at *
  refine (hasPage_any F (k : Int) _ _ T.fl (by omega) (by omega)).mono ?_
  rintro e W2 ⟨rfl, hbT⟩
  replace T := T.grow hbT
  clear hbT
  rewrite [HH.out]
  have a0 := T.c3.2.1
  have bw := (T.below.cell (p := ⟨b, off + k, none⟩) hb).trans HC1.out
  have hwz : (⟨was.toArray⟩ : ByteArray).size = was.length := size_mk was
  go_wp2_with fail
  refine (stands_any turn at_ was.length _ (by omega) (by omega) (by omega)).mono ?_
  rintro e W2' ⟨rfl, rfl⟩
  rewrite [HFIT.out]
  obtain ⟨gp, capp, _, hvp, _⟩ := T.p'.some_ (by rw [List.length_map]; omega)
  rw [List.length_map] at hvp
  subst hvp
  go_wp2_with fail
  refine rot5 _ _ w _ rfl (w.heap.size + 2) g8 w.heap.size (w.heap.size + 1) g8 k gp F.pages.length capp at_ F F _ _ vw' was turn rfl rfl rfl rfl rfl T hk hk (by omega) (by omega) (by omega) ?_
  clear T a0 bw
  intro act W4 hdf hsz' hkeep T
  have hk8 : act.tmps.getD 8 undef = (.pointer (some ⟨w.heap.size + 1, 0, none⟩)) := hkeep 8 (by kernel_rfl)
  have hk10 : act.tmps.getD 10 undef = (.pointer (some ⟨g8, 0, none⟩)) := hkeep 10 (by kernel_rfl)
  obtain ⟨tm, df⟩ := act
  obtain rfl : df = [] := hdf
  clear hkeep
  obtain ⟨f, rfl, hk8, hk10⟩ : ∃ f : Nat → Value, tm = ((List.range 55).map f).toArray ∧ f 8 = (.pointer (some ⟨w.heap.size + 1, 0, none⟩)) ∧ f 10 = (.pointer (some ⟨g8, 0, none⟩)) := ⟨fun i => tm.getD i undef, arr_eta tm hsz', hk8, hk10⟩
  rewrite [show ((List.range 55).map f).toArray = #[f 0, f 1, f 2, f 3, f 4, f 5, f 6, f 7, f 8, f 9, f 10, f 11, f 12, f 13, f 14, f 15, f 16, f 17, f 18, f 19, f 20, f 21, f 22, f 23, f 24, f 25, f 26, f 27, f 28, f 29, f 30, f 31, f 32, f 33, f 34, f 35, f 36, f 37, f 38, f 39, f 40, f 41, f 42, f 43, f 44, f 45, f 46, f 47, f 48, f 49, f 50, f 51, f 52, f 53, f 54] from rfl]
  rewrite [hk8, hk10]
  dsimp only
  clear hsz' hk8 hk10
  obtain ⟨o0, o1, o2, o3, o4, c6⟩ := T.c6
  have HC6 := Kept.mk c6
  have HF6 := Kept.mk T.f6
  obtain ⟨hfl, hB5, hr5⟩ := ti_end T
  have HFL := Kept.mk hfl
  have HR5 := Kept.mk hr5
  have HB5 := Kept.mk hB5
  obtain ⟨_, k0, k1, k2, k3, k4⟩ := T.c8
  clear T c6 hfl hr5 hB5
  go_wp2_with (refine wpList_store5 rfl (.tmp 8) (.tmp 54) rfl (w.heap.size + 1) _ _ _ _ _ rfl rfl HC6.out HF6.out oo1 oo2 rfl rfl rfl ?_)
  exact bodyPost_ret (results2 rfl _ _ (w.heap.size + 1) _ _ _ _ _ (.int .i64 0) rfl rfl HR5.out) rfl ⟨_, rfl, HFL.out, HB5.out⟩
end Go.Proofs.Ytpjafjnokgeifaa
end
section
namespace Go.Proofs.Ytpjafjnokgeifaa
open Go.RowKit
set_option linter.unusedVariables false
set_option linter.unusedSimpArgs false

def rotB (F : Fl) (page at_ : Int) (turn : List UInt8) : Bool := hasB F page && decide (turn.length ≤ 4) && fitsB F page at_ turn
def rotF (F : Fl) (page at_ : Int) (turn : List UInt8) : Fl := if rotB F page at_ turn = true then { F with pages := F.pages.set page.toNat (rotL (F.pages.getD page.toNat []) at_.toNat turn) } else F
def rotE (F : Fl) (page at_ : Int) (turn : List UInt8) : Int := if rotB F page at_ turn = true then 0 else 1
theorem rot_any (F : Fl) (page at_ : Int) (turn : List UInt8) (v : Value) (w : World) (hv : isFl F v w) (hs : turn.length ≤ 1000000) (h1 : F.pages.length ≤ 1000000) (h2 : F.wear.length ≤ 1000000) :
    Calls Try.prog 14 #[v, .int .i64 page, .int .i64 at_, .string ⟨turn.toArray⟩] w fun e w' => ∃ v', e = .returned (.tuple #[v', .int .i64 (rotE F page at_ turn)]) ∧ isFlN w.heap.size (rotF F page at_ turn) v' w' ∧ Below w.heap.size w w' := by
  cases hh : hasB F page with
  | false =>
    have hb : rotB F page at_ turn = false := by simp [rotB, hh]
    rw [show rotE F page at_ turn = 1 by simp [rotE, hb], show rotF F page at_ turn = F by simp [rotF, hb]]
    exact rot_no1 F turn v w hv hs page at_ h1 h2 hh
  | true =>
    obtain ⟨k, rfl⟩ := has_nat hh
    by_cases hl : turn.length ≤ 4
    · cases hf : fitsB F k at_ turn with
      | false =>
        have hb : rotB F k at_ turn = false := by simp [rotB, hf]
        rw [show rotE F k at_ turn = 1 by simp [rotE, hb], show rotF F k at_ turn = F by simp [rotF, hb]]
        unfold fitsB at hf
        rw [Int.toNat_natCast] at hf
        exact rot_no3 F turn v w hv hs k at_ hh hl hf
      | true =>
        have hb : rotB F k at_ turn = true := by simp [rotB, hh, hl, hf]
        have hf' := hf
        unfold fitsB at hf'
        rw [Int.toNat_natCast] at hf'
        simp only [Bool.and_eq_true, decide_eq_true_eq] at hf'
        obtain ⟨n, rfl⟩ := Int.eq_ofNat_of_zero_le hf'.1
        rw [show rotE F k n turn = 0 by simp [rotE, hb]]
        unfold rotF
        rw [if_pos hb, Int.toNat_natCast, Int.toNat_natCast]
        exact rot_yes F turn v w hv hs k n hh hl (by omega)
    · have hb : rotB F (k : Int) at_ turn = false := by simp [rotB, hl]
      rw [show rotE F k at_ turn = 1 by simp [rotE, hb], show rotF F k at_ turn = F by simp [rotF, hb]]
      exact rot_no2 F turn v w hv hs k at_ hh (by omega)

theorem free1_any (b : UInt8) (w : World) : Calls Try.prog 54 #[.int .u8 (b.toNat : Int)] w fun e w' => e = .returned (.bool (decide (b ≠ 255))) ∧ w = w' := by
  have H := Lib.hid (show ((b.toNat : Int) != 255) = decide (b ≠ 255) by
    by_cases h : b = 255
    · subst h; decide
    · have : b.toNat ≠ 255 := fun e => h (UInt8.toNat_inj.1 e)
      simp [h]
      omega)
  go_enter Try.func54, Try.ntmps54
  go_wp2
  go_ret
  exact ⟨by rw [← H.out]; rfl, rfl⟩
def byteC (b : UInt8) : Value := .int .u8 (b.toNat : Int)
def notFull : Value → Bool
  | .int .u8 x => decide (x ≠ 255)
  | _ => false
theorem notFull_byte (b : UInt8) : notFull (byteC b) = decide (b ≠ 255) := by
  show decide ((b.toNat : Int) ≠ 255) = _
  rw [decide_eq_decide]
  constructor
  · rintro h rfl; exact h rfl
  · intro h e; exact h (UInt8.toNat_inj.1 (by have : (255 : UInt8).toNat = 255 := rfl; omega))
attribute [irreducible] notFull
def freeB (F : Fl) (page : Int) : Bool := hasB F page && (F.pages.getD page.toNat []).all fun b => decide (b = 255)
theorem all_full (l : List UInt8) : (l.all fun b => decide (b = 255)) = !(l.map byteC).any notFull := by
  induction l with
  | nil => rfl
  | cons b l ih =>
    rw [List.all_cons, List.map_cons, List.any_cons, notFull_byte, ih, Bool.not_or]
    congr 1
    by_cases h : b = 255 <;> simp [h]
theorem cells_of_row {w : World} {g cap : Nat} {l : List UInt8} (h : BRow w g l) (hg : g < w.heap.size) : isCells (l.map byteC) (.slice (some ⟨g, 0, none⟩) l.length cap) w := by
  refine .inr (.inr ⟨g, 0, cap, by rw [List.length_map], hg, fun j x hx => ?_⟩)
  have hj : j < l.length := by have := (List.getElem?_eq_some_iff.1 hx).1; simpa using this
  rw [get_map byteC l j hj] at hx
  injection hx with hx
  rw [← hx, Nat.zero_add]
  exact (h j hj).1

set_option maxRecDepth 20000 in
set_option maxHeartbeats 1000000 in
theorem free_no (F : Fl) (page : Int) (v : Value) (w : World) (hv : isFl F v w) (h1 : F.pages.length ≤ 1000000) (h2 : F.wear.length ≤ 1000000) (hhas : hasB F page = false) :
    Calls Try.prog 20 #[v, .int .i64 page] w fun e w' => e = .returned (.bool false) ∧ Below w.heap.size w w' := by
  obtain ⟨vp, vw, rfl, hp, hq⟩ := hv
  have hb0 : Below w.heap.size w (w.alloc (.cells #[vp, vw, .int .i64 F.fuse, strC F.torn, .bool F.dead] 25)) := (Below.refl _ _).alloc (Nat.le_refl _) _
  have HP := Kept.mk hp
  have HQ := Kept.mk hq
  have HB0 := Kept.mk hb0
  have HH := Kept.mk hhas
  clear hp hq hb0 hhas
  go_enter Try.func20, Try.ntmps20
  go_wp2_with fail
  refine (hasPage_any F page _ _ ⟨vp, vw, rfl, stable_cells _ _ _ _ HP.out HB0.out, stable_cells _ _ _ _ HQ.out HB0.out⟩ (by omega) (by omega)).mono ?_
  rintro e w1 ⟨rfl, hb1⟩
  rewrite [HH.out]
  have hB := Kept.mk (HB0.out.trans (hb1.mono HB0.out.size))
  clear hb1
  go_wp2
  go_ret
  exact ⟨rfl, hB.out⟩

set_option maxRecDepth 20000 in
set_option maxHeartbeats 1000000 in
theorem free_yes (F : Fl) (k : Nat) (v : Value) (w : World) (hv : isFl F v w) (hhas : hasB F (k : Int) = true) :
    Calls Try.prog 20 #[v, .int .i64 (k : Int)] w fun e w' => e = .returned (.bool ((F.pages.getD k []).all fun b => decide (b = 255))) ∧ Below w.heap.size w w' := by
  have hen : Enters Try.prog 54 := enters_of Try.func54 (by kernel_rfl) rfl
  have HHF := Kept.mk (has_facts F k hhas)
  obtain ⟨hk, h6, hwl, htl, hpg, hwr⟩ := HHF.out
  obtain ⟨was, hwas⟩ : ∃ was, F.pages[k]? = some was := ⟨_, List.getElem?_eq_getElem hk⟩
  have hwm : was.length ≤ 8192 := (hpg _ (List.mem_of_getElem? hwas)).2.1
  obtain ⟨vp, vw, rfl, hp, hq⟩ := hv
  obtain ⟨b, off, cap, hvp, hb, hc⟩ := hp.some_ (by rw [List.length_map]; omega)
  rw [List.length_map] at hvp
  subst hvp
  have HC1 := Kept.mk (show w.cell? ⟨b, off + k, none⟩ = some (.string ⟨was.toArray⟩) from hc k _ (by simp [hwas, strC]))
  have hget1 : F.pages.getD k [] = was := by simp [List.getD_eq_getElem?_getD, hwas]
  rw [hget1, all_full]
  have hb0 : Below w.heap.size w (w.alloc (.cells #[.slice (some ⟨b, off, none⟩) F.pages.length cap, vw, .int .i64 F.fuse, strC F.torn, .bool F.dead] 25)) := (Below.refl _ _).alloc (Nat.le_refl _) _
  have HP := Kept.mk hp
  have HQ := Kept.mk hq
  have HB0 := Kept.mk hb0
  have HH := Kept.mk hhas
  have h2 : F.wear.length ≤ 1000000 := by omega
  have hsz : (⟨was.toArray⟩ : ByteArray).size = was.length := size_mk was
  have hcv := fun W => Lib.run_convert_string_bytes (P := Try.prog) W 9 46 5 ⟨was.toArray⟩ Try.underlying9 Try.underlying46 Try.underlying5
  clear hp hq hb0 hhas hwl hpg hwr hc hget1 hwas
  go_enter Try.func20, Try.ntmps20
  go_wp2_with fail
  refine (hasPage_any F k _ _ ⟨_, vw, rfl, stable_cells _ _ _ _ HP.out HB0.out, stable_cells _ _ _ _ HQ.out HB0.out⟩ (by omega) (by omega)).mono ?_
  rintro e w1 ⟨rfl, hb1⟩
  rewrite [HH.out]
  obtain ⟨_, k0, k1, k2, k3, k4⟩ := (cells5_new w 25 (.slice (some ⟨b, off, none⟩) F.pages.length cap) vw (.int .i64 F.fuse) (strC F.torn) (.bool F.dead)).keep hb1 (by simp)
  have hB := Kept.mk (HB0.out.trans (hb1.mono HB0.out.size))
  have kc := (hB.out.cell (p := ⟨b, off + k, none⟩) hb).trans HC1.out
  clear hb1
  go_wp2_with fail
  have hrow := bytesWorld_row w1 5 ⟨was.toArray⟩
  have hbw := bytesWorld_below w1 5 ⟨was.toArray⟩
  have hsw : w1.heap.size < (Lib.bytesWorld w1 5 ⟨was.toArray⟩).heap.size := by rw [Lib.bytesWorld_size]; omega
  refine (contains_b notFull 54 #[] hen (was.map byteC) _ _ (cells_of_row (l := was) (by simpa using hrow) hsw) (by rw [List.length_map]; omega) ?_).mono ?_
  · intro x hx
    obtain ⟨y, _, rfl⟩ := List.mem_map.1 hx
    rw [notFull_byte]
    exact free1_any y _
  rintro e w' ⟨rfl, rfl⟩
  have hB2 := Kept.mk (hB.out.trans (hbw.mono hB.out.size))
  clear hrow hbw hsw hcv
  generalize Lib.bytesWorld w1 5 ⟨was.toArray⟩ = W at *
  obtain ⟨z, hz⟩ : ∃ z, z = (was.map byteC).any notFull := ⟨_, rfl⟩
  rewrite [← hz]
  have HZ := Kept.mk hz
  clear hz
  go_wp2
  go_ret
  exact ⟨by rw [← HZ.out]; rfl, hB2.out⟩
theorem free_any (F : Fl) (page : Int) (v : Value) (w : World) (hv : isFl F v w) (h1 : F.pages.length ≤ 1000000) (h2 : F.wear.length ≤ 1000000) :
    Calls Try.prog 20 #[v, .int .i64 page] w fun e w' => e = .returned (.bool (freeB F page)) ∧ Below w.heap.size w w' := by
  cases hh : hasB F page with
  | false =>
    rw [show freeB F page = false by simp [freeB, hh]]
    exact free_no F page v w hv h1 h2 hh
  | true =>
    obtain ⟨k, rfl⟩ := has_nat hh
    rw [show freeB F k = (F.pages.getD k []).all fun b => decide (b = 255) by unfold freeB; rw [hh, Int.toNat_natCast]; rfl]
    exact free_yes F k v w hv hh
end Go.Proofs.Ytpjafjnokgeifaa
end
section
namespace Go.Proofs.Ytpjafjnokgeifaa
open Go.RowKit
set_option linter.unusedVariables false
set_option linter.unusedSimpArgs false

/-- One row may turn from cur to cur'. -/
structure Turn (g : Nat) (o o' : Obj) (w w' : World) : Prop where
  os : w'.os = w.os
  tape : w'.tape = w.tape
  output : w'.output = w.output
  size : w.heap.size ≤ w'.heap.size
  block : ∀ b, b < w.heap.size → b ≠ g → w'.heap[b]? = w.heap[b]?
  old : w.heap[g]? = some o → w'.heap[g]? = some o ∨ w'.heap[g]? = some o'
  new : w.heap[g]? = some o' → w'.heap[g]? = some o'
theorem turn_pre (g : Nat) (o o' : Obj) : Pre (Turn g o o') where
  refl w := ⟨rfl, rfl, rfl, Nat.le_refl _, fun _ _ _ => rfl, fun h => .inl h, fun h => h⟩
  trans a b c h1 h2 := ⟨h2.os.trans h1.os, h2.tape.trans h1.tape, h2.output.trans h1.output, Nat.le_trans h1.size h2.size, fun i hi hne => (h2.block i (Nat.lt_of_lt_of_le hi h1.size) hne).trans (h1.block i hi hne),
    fun h => by rcases h1.old h with h | h; exact h2.old h; exact .inr (h2.new h), fun h => h2.new (h1.new h)⟩
  grow w w' h := ⟨h.os, h.tape, h.output, h.size, fun b hb _ => h.block b hb, fun he => .inl ((h.block g (Array.getElem?_eq_some_iff.1 he).1).trans he), fun he => (h.block g (Array.getElem?_eq_some_iff.1 he).1).trans he⟩
  drew w := ⟨rfl, rfl, rfl, Nat.le_refl _, fun _ _ _ => rfl, fun h => .inl h, fun h => h⟩
def copied_ (g : Nat) (o' : Obj) (n : Int) : VP := fun v w => v = .int .i64 n ∧ w.heap[g]? = some o'
theorem stabR_copied (g : Nat) (o o' : Obj) (n : Int) : StableR (Turn g o o') (copied_ g o' n) := fun v w w' h hr => ⟨h.1, hr.new h.2⟩
/-- So many cells of a row are x; behind them what was there. -/
def repA (x : Value) (m : Nat) (cur : Array Value) : Array Value := (List.replicate m x ++ cur.toList.drop m).toArray
theorem repA_size (x : Value) (m : Nat) (cur : Array Value) (h : m ≤ cur.size) : (repA x m cur).size = cur.size := by simp [repA]; omega
theorem repA_twice (x : Value) (m k : Nat) (cur : Array Value) (h : m + k ≤ cur.size) : ((repA x m cur).toList.take m ++ List.replicate k x ++ (repA x m cur).toList.drop (m + k)).toArray = repA x (m + k) cur := by
  unfold repA
  congr 1
  simp only [List.take_append_of_le_length (l₁ := List.replicate m x) (by simp : m ≤ (List.replicate m x).length)]
  rw [List.take_of_length_le (by simp), List.drop_append, List.drop_of_length_le (by simp), List.nil_append, List.length_replicate, List.drop_drop, List.replicate_append_replicate]
  congr 2
  omega
noncomputable def repOps : Array Oper := regionOf Try.f40 9
section
variable {P : Program} {ops : Array Oper} {base : World} {a0 : Act} {Q : Exit → Act → World → Prop} {kn : Nat → VP} {i : Nat} {V : VP}
theorem step_part (t : TypeId) (x : Operand) (lo hi : Option Operand) (v : Value) (vl vh : Option Value) (r : Value) (hop : (ops[i]?).map (·.op) = some (.slice t x lo hi none)) (hw : Wanted ops a0 kn i) (hx : Knows ops a0 kn i x (isVal v))
    (hl : ∀ a w, FKept ops a0 a → FDeps ops kn i a w → lo.map a.eval = vl) (hh : ∀ a w, FKept ops a0 a → FDeps ops kn i a w → hi.map a.eval = vh) (hr : ∀ w, (Instr.sliceAt t v vl vh none).run P w = .ok r w) : FStep P ops base a0 Q kn i (isVal r) :=
  step_pure r hop hw fun o a w ho hk hd => by
    have e1 : a.eval x = v := hx a w hk hd
    have e2 := hl a w hk hd
    have e3 := hh a w hk hd
    unfold execOp
    rw [ho]
    simp only [e1, e2, e3, Sem.run_bind, Option.map_none, hr, Result.andThen_ok, Sem.run_pure]
end
theorem elem_strs : Try.prog.underlying 22 = some (.slice (Try.prog.elem 22)) := by kernel_rfl
theorem size_str (w : World) : (sizeOf (Try.prog.elem 22)).run Try.prog w = .ok 1 w := by
  have hs : (Try.prog.info? (Try.prog.elem 22)).map (·.size) = some 1 := by kernel_rfl
  obtain ⟨ie, hie, hz⟩ := Option.map_eq_some_iff.1 hs
  simp [sizeOf, typeInfo, hie, hz]
theorem part_rest (g n m : Nat) (h0 : 0 < m) (h : m < n) (w : World) : (Instr.sliceAt 22 (.slice (some ⟨g, 0, none⟩) n n) (some (.int .i64 (m : Int))) none none).run Try.prog w = .ok (.slice (some ⟨g, m, none⟩) (n - m) (n - m)) w := by
  rw [run_sliceAt_slice _ _ _ _ _ _ elem_strs, run_slice_l (ht := elem_strs) (h0 := by omega) (h1 := by omega), size_str]
  have hne : ¬ n = m := by omega
  have hm0 : ¬ m = 0 := by omega
  simp [sliced, Addr.add, hne, hm0]
theorem part_head (g n m : Nat) (h0 : 0 < m) (h : m < n) (w : World) : (Instr.sliceAt 22 (.slice (some ⟨g, 0, none⟩) n n) none (some (.int .i64 (m : Int))) none).run Try.prog w = .ok (.slice (some ⟨g, 0, none⟩) m n) w := by
  rw [run_sliceAt_slice _ _ _ _ _ _ elem_strs, run_slice_h (ht := elem_strs) (h0 := by omega) (h2 := by omega), size_str]
  simp [sliced, Addr.add]

section
variable {ops : Array Oper} {base : World} {a0 : Act} {Q : Exit → Act → World → Prop} {k0 : Nat} {kn : Nat → VP} {i : Nat}
theorem rstep_moveOld {R : World → World → Prop} {P : Program} (hR : Pre R) (t : Tmp) (v : Value) (hop : (ops[i]?).map (fun o => (o.op, o.guard)) = some (.move (.tmp t), none)) (hd : ((ops[i]?).bind (·.dst)).isSome = true) (hs : ((List.range k0).all fun j => (ops[j]?).all fun o => o.dst != some t) = true) (hv : a0.tmps.getD t undef = v) :
    RStep R P ops base a0 Q k0 kn i (isVal v) := by
  refine ⟨stabR_val _ _, fun o ho a w hk hb hdp => ?_⟩
  rw [ho] at hop hd
  simp only [Option.map_some, Option.some.injEq, Prod.mk.injEq] at hop
  have e : a.eval (.tmp t) = v := (hk.2.2 t hs).trans hv
  unfold wpOp
  simp only [ho]
  rw [show Region.wanted o (yielded ops a.tmps) = true by simp [Region.wanted, hop.2]]
  refine .inl ?_
  unfold Oper.wp execOp
  rw [hop.1]
  simp only [Sem.run_pure, Oper.upon, e]
  exact ⟨v, rfl, fun h => by simp [h] at hd, rfl, hR.refl _⟩
theorem tail_assign {P : Program} {a : Act} {w : World} {c : Nat} (x : Operand) (d : Tmp) (v : Value) (hop : (ops[i]?).map (fun o => (o.op, o.guard)) = some (.assign x, none)) (hd : (ops[i]?).bind (·.dst) = some d) (hx : a.eval x = v) (h : Tail P ops Q c (i + 1) (a.put (some d) v) w) : Tail P ops Q (c + 1) i a w :=
  tail_op (fun _ _ => True) hop fun o ho e => by
    rw [ho] at hd
    simp only [Option.bind_some] at hd
    unfold Oper.wp execOp
    rw [e]
    simp only [Sem.run_pure, Oper.upon, hx, hd]
    exact h
/-- copy of the head of a row behind it. -/
theorem rstep_copy (x y : Operand) (g n m c : Nat) (v : Value) (cur : Array Value) (hop : (ops[i]?).map (·.op) = some (.call { callee := .builtin .copy, args := #[x, y], argTypes := #[22, 22] })) (hw : Wanted ops a0 kn i)
    (hd : ((ops[i]?).bind (·.dst)).isSome = true) (hx : Knows ops a0 kn i x (isVal (.slice (some ⟨g, m, none⟩) (n - m) (n - m)))) (hy : Knows ops a0 kn i y (isVal (.slice (some ⟨g, 0, none⟩) m n)))
    (hc : c = min m (n - m)) (hn : cur.size = n) (hm : m < n) (hv : v.oneCell' = true) (h0 : ∀ w, Turn g (.cells (repA v m cur) 9 (0, 0)) (.cells (repA v (m + c) cur) 9 (0, 0)) base w → w.heap[g]? = some (.cells (repA v m cur) 9 (0, 0)) ∨ w.heap[g]? = some (.cells (repA v (m + c) cur) 9 (0, 0))) :
    RStep (Turn g (.cells (repA v m cur) 9 (0, 0)) (.cells (repA v (m + c) cur) 9 (0, 0))) Try.prog ops base a0 Q k0 kn i (copied_ g (.cells (repA v (m + c) cur) 9 (0, 0)) (c : Int)) := by
  refine ⟨stabR_copied _ _ _ _, fun o ho a w hk0 hb hdp => ?_⟩
  have hk := hk0.f
  have hfd : FDeps ops kn i a w := fun o' ho' e he hbd => rdone_f (hdp o' ho' e he hbd)
  have e1 : a.eval x = _ := hx a w hk hfd
  have e2 : a.eval y = _ := hy a w hk hfd
  have hwn := hw a w hk hfd o ho
  have hdn : o.dst ≠ none := by rw [ho] at hd; intro h; simp [h] at hd
  have hcm : m + c ≤ cur.size := by omega
  -- whichever the row is now, behind the copy it is the second one
  have key : ∀ q : Nat, m ≤ q → q ≤ cur.size → w.heap[g]? = some (.cells (repA v q cur) 9 (0, 0)) → ((repA v q cur).toList.take m ++ List.replicate c v ++ (repA v q cur).toList.drop (m + c)).toArray = repA v (m + c) cur →
      (Builtin.copy_ #[22, 22] o.type #[.slice (some ⟨g, m, none⟩) (n - m) (n - m), .slice (some ⟨g, 0, none⟩) m n]).run Try.prog w = .ok (.int .i64 (c : Int)) (w.setRow g (repA v (m + c) cur)) := by
    intro q hq1 hq2 hg he
    have hr := run_copy_row (P := Try.prog) w 22 22 o.type 9 g m (n - m) (n - m) ⟨g, 0, none⟩ m n (repA v q cur) 9 (List.replicate c v) Try.underlying22 (by kernel_rfl) hg (by rw [List.length_replicate]; exact hc)
      (fun j x hx => by
        have hj : j < c := by have := (List.getElem?_eq_some_iff.1 hx).1; simpa using this
        have hxv : x = v := by rw [List.getElem?_replicate, if_pos hj] at hx; injection hx with hx; exact hx.symm
        rw [hxv, show (⟨g, 0, none⟩ : Addr).add j = ⟨g, j, none⟩ by simp [Addr.add]; exact fun h => h.symm]
        simp only [World.cell?, hg]
        have : j < q := by omega
        simp [repA, List.getElem?_append_left, this])
      (by rw [List.length_replicate, repA_size v q cur hq2]; exact hcm) (fun x hx => by rw [List.eq_of_mem_replicate hx]; exact hv)
    rw [List.length_replicate, he] at hr
    exact hr
  have fin : ∀ o1 : Array Value, w.heap[g]? = some (.cells o1 9 (0, 0)) → Turn g (.cells (repA v m cur) 9 (0, 0)) (.cells (repA v (m + c) cur) 9 (0, 0)) w (w.setRow g (repA v (m + c) cur)) ∧ (w.setRow g (repA v (m + c) cur)).heap[g]? = some (.cells (repA v (m + c) cur) 9 (0, 0)) := by
    intro o1 hg
    have hnew : (w.setRow g (repA v (m + c) cur)).heap[g]? = some (.cells (repA v (m + c) cur) 9 (0, 0)) := setRow_heap w g o1 _ _ _ hg
    exact ⟨⟨rfl, rfl, rfl, by simp [World.setRow], fun b hb hne => setRow_other w g b _ hne, fun _ => .inr hnew, fun _ => hnew⟩, hnew⟩
  have run : ∃ o1 : Array Value, w.heap[g]? = some (.cells o1 9 (0, 0)) ∧ (Builtin.copy_ #[22, 22] o.type #[.slice (some ⟨g, m, none⟩) (n - m) (n - m), .slice (some ⟨g, 0, none⟩) m n]).run Try.prog w = .ok (.int .i64 (c : Int)) (w.setRow g (repA v (m + c) cur)) := by
    rcases h0 w hb with h | h
    · exact ⟨_, h, key m (Nat.le_refl _) (by omega) h (repA_twice v m c cur hcm)⟩
    · refine ⟨_, h, key (m + c) (by omega) hcm h ?_⟩
      have := repA_twice v m c cur hcm
      unfold repA at this ⊢
      simp only [List.take_append_of_le_length (l₁ := List.replicate (m + c) v) (by simp : m ≤ (List.replicate (m + c) v).length), List.take_replicate, Nat.min_eq_left (by omega : m ≤ m + c)] at this ⊢
      congr 1
      rw [List.drop_append, List.drop_of_length_le (by simp), List.nil_append, List.length_replicate, Nat.sub_self, List.drop_zero, List.replicate_append_replicate]
  obtain ⟨o1, hg, hrun⟩ := run
  obtain ⟨ht, hnew⟩ := fin o1 hg
  unfold wpOp
  simp only [ho, hwn, if_true]
  refine .inl ?_
  unfold Oper.wp execOp
  rw [op_of hop ho]
  simp only [resolve, Sem.run_bind, Sem.run_pure, Result.andThen_ok, invoke, builtin, List.map_toArray, List.map_cons, List.map_nil, e1, e2, hrun, Oper.upon]
  exact ⟨_, rfl, fun h => absurd h hdn, ⟨rfl, hnew⟩, ht⟩
end
theorem add_nat (m c : Nat) (h : m + c ≤ 1000000) (w : World) : (binOp .add 3 (.int .i64 (m : Int)) (.int .i64 (c : Int))).run Try.prog w = .ok (.int .i64 ((m + c : Nat) : Int)) w := by
  simp [go_sem]
  rw [IntKind.wrap_i64]
  omega
set_option maxRecDepth 100000 in
set_option maxHeartbeats 2000000 in
theorem rep_region (Q : Exit → Act → World → Prop) (a0 : Act) (w0 : World) (hsz : a0.tmps.size = 48) (g n m c : Nat) (v : Value) (cur : Array Value)
    (e7 : a0.tmps.getD 7 undef = .slice (some ⟨g, 0, none⟩) n n) (e8 : a0.tmps.getD 8 undef = .int .i64 (m : Int)) (h0 : 0 < m) (hm : m < n) (hn : cur.size = n) (hn1 : n ≤ 1000) (hc : c = min m (n - m)) (hv : v.oneCell' = true)
    (hg : w0.heap[g]? = some (.cells (repA v m cur) 9 (0, 0)))
    (hQ : ∀ (a : Act) (w : World), a.defers = a0.defers → a.tmps.size = a0.tmps.size → (∀ t, (repOps.toList.all fun o => o.dst != some t) = true → a.tmps.getD t undef = a0.tmps.getD t undef) → a.tmps.getD 8 undef = .int .i64 ((m + c : Nat) : Int) →
      w.heap[g]? = some (.cells (repA v (m + c) cur) 9 (0, 0)) → Turn g (.cells (repA v m cur) 9 (0, 0)) (.cells (repA v (m + c) cur) 9 (0, 0)) w0 w → Q .normal a w) :
    (Code.region 9 repOps true).wp Try.prog Q a0 w0 := by
  have hR := turn_pre g (.cells (repA v m cur) 9 (0, 0)) (.cells (repA v (m + c) cur) 9 (0, 0))
  refine wp_region_rel hR 9 mixed (by rw [hsz]; kernel_rfl) (by kernel_rfl) ?_
  rw [show repOps.size - 9 = 1 by kernel_rfl]
  refine ⟨isVal (.int .i64 (m : Int)), rstep_moveOld hR 8 (.int .i64 (m : Int)) (by kernel_rfl) (by kernel_rfl) (by kernel_rfl) e8, ?_⟩
  refine ⟨isVal (.slice (some ⟨g, 0, none⟩) n n), rstep_moveOld hR 7 (.slice (some ⟨g, 0, none⟩) n n) (by kernel_rfl) (by kernel_rfl) (by kernel_rfl) e7, ?_⟩
  refine ⟨isVal (.int .i64 (m : Int)), rstep_moveOld hR 8 (.int .i64 (m : Int)) (by kernel_rfl) (by kernel_rfl) (by kernel_rfl) e8, ?_⟩
  refine ⟨isVal (.slice (some ⟨g, m, none⟩) (n - m) (n - m)), RStep.of hR (stabR_val _ _) (by kernel_rfl) (fun w hw => step_part 22 (.tmp 39) (some (.tmp 40)) none (.slice (some ⟨g, 0, none⟩) n n) (some (.int .i64 (m : Int))) none (.slice (some ⟨g, m, none⟩) (n - m) (n - m)) (by kernel_rfl) (wanted_none (by kernel_rfl)) (knows_new (V := isVal (.slice (some ⟨g, 0, none⟩) n n)) 39 1 (by kernel_rfl) (by kernel_rfl) (by kernel_rfl)) (fun a w hk hd => congrArg some ((knows_new (V := isVal (.int .i64 (m : Int))) 40 2 (by kernel_rfl) (by kernel_rfl) (by kernel_rfl)) a w hk hd)) (fun _ _ _ _ => rfl) (part_rest g n m h0 hm)), ?_⟩
  refine ⟨isVal (.slice (some ⟨g, 0, none⟩) n n), rstep_moveOld hR 7 (.slice (some ⟨g, 0, none⟩) n n) (by kernel_rfl) (by kernel_rfl) (by kernel_rfl) e7, ?_⟩
  refine ⟨isVal (.int .i64 (m : Int)), rstep_moveOld hR 8 (.int .i64 (m : Int)) (by kernel_rfl) (by kernel_rfl) (by kernel_rfl) e8, ?_⟩
  refine ⟨isVal (.slice (some ⟨g, 0, none⟩) m n), RStep.of hR (stabR_val _ _) (by kernel_rfl) (fun w hw => step_part 22 (.tmp 42) none (some (.tmp 43)) (.slice (some ⟨g, 0, none⟩) n n) none (some (.int .i64 (m : Int))) (.slice (some ⟨g, 0, none⟩) m n) (by kernel_rfl) (wanted_none (by kernel_rfl)) (knows_new (V := isVal (.slice (some ⟨g, 0, none⟩) n n)) 42 4 (by kernel_rfl) (by kernel_rfl) (by kernel_rfl)) (fun _ _ _ _ => rfl) (fun a w hk hd => congrArg some ((knows_new (V := isVal (.int .i64 (m : Int))) 43 5 (by kernel_rfl) (by kernel_rfl) (by kernel_rfl)) a w hk hd)) (part_head g n m h0 hm)), ?_⟩
  refine ⟨copied_ g (.cells (repA v (m + c) cur) 9 (0, 0)) (c : Int), rstep_copy (.tmp 41) (.tmp 44) g n m c v cur (by kernel_rfl) (wanted_none (by kernel_rfl)) (by kernel_rfl) (knows_new (V := isVal (.slice (some ⟨g, m, none⟩) (n - m) (n - m))) 41 3 (by kernel_rfl) (by kernel_rfl) (by kernel_rfl)) (knows_new (V := isVal (.slice (some ⟨g, 0, none⟩) m n)) 44 6 (by kernel_rfl) (by kernel_rfl) (by kernel_rfl)) hc hn hm hv (fun w hw => hw.old hg), ?_⟩
  refine ⟨isVal (.int .i64 ((m + c : Nat) : Int)), RStep.of hR (stabR_val _ _) (by kernel_rfl) (fun w hw => step_bin .add 3 3 (.tmp 38) (.tmp 45) (.int .i64 (m : Int)) (.int .i64 (c : Int)) (.int .i64 ((m + c : Nat) : Int)) (by kernel_rfl) (wanted_none (by kernel_rfl)) (knows_new (V := isVal (.int .i64 (m : Int))) 38 0 (by kernel_rfl) (by kernel_rfl) (by kernel_rfl)) (fun a w hk hd => ((knows_new (V := copied_ g (.cells (repA v (m + c) cur) 9 (0, 0)) (c : Int)) 45 7 (by kernel_rfl) (by kernel_rfl) (by kernel_rfl)) a w hk hd).1) (fun _ => rfl) (add_nat m c (by omega))), ?_⟩
  intro a w hk0 hw hd
  have hk := hk0.f
  have d7 := rdone_of (hd 7 (by decide)) (t := 45) (V := copied_ g (.cells (repA v (m + c) cur) 9 (0, 0)) (c : Int)) (by kernel_rfl) (by kernel_rfl)
  have d46 := rdone_of (hd 8 (by decide)) (t := 46) (V := isVal (.int .i64 ((m + c : Nat) : Int))) (by kernel_rfl) (by kernel_rfl)
  have hs8 : 8 < a.tmps.size := by rw [hk.2.1, hsz]; decide
  refine tail_assign (.tmp 46) 8 _ (by kernel_rfl) (by kernel_rfl) d46 ?_
  refine hQ _ w ((defers_put (a := a)).trans hk.1) ((size_put (a := a)).trans hk.2.1) (fun t ht => ?_) (getD_put_self hs8) d7.2 hw
  have hall : (repOps.toList.all fun o => o.dst != some 8) = false := by kernel_rfl
  rw [getD_put (fun e => by rw [e, hall] at ht; cases ht)]
  exact hk.2.2 t ht
end Go.Proofs.Ytpjafjnokgeifaa
end
section
namespace Go.Proofs
open Go.Shelf
def Try.lays212_ren : Go.Shelf.Ren := ⟨fun | 212 => 61 | 263 => 81 | 264 => 82 | n => n, fun | 46 => 70 | 51 => 86 | 146 => 87 | 53 => 89 | 148 => 90 | n => n, fun | n => n⟩
theorem Try.lays212 : Go.Proofs.Lays.n212 Try.prog Try.lays212_ren := {
  mixed := by kernel_rfl
  f212 := Try.func61.trans (congrArg some (by kernel_rfl))
  f263 := Try.func81.trans (congrArg some (by kernel_rfl))
  f264 := Try.func82.trans (congrArg some (by kernel_rfl))
  t46 := Try.underlying70
  a46 := Try.isAgg70
  z46 := Try.sizeOf70
  v46 := Try.zeroValue70
  t51 := Try.underlying86
  a51 := Try.isAgg86
  z51 := Try.sizeOf86
  v51 := Try.zeroValue86
  t53 := Try.underlying89
  a53 := Try.isAgg89
  z53 := Try.sizeOf89
  v53 := Try.zeroValue89
  t146 := Try.underlying87
  a146 := Try.isAgg87
  z146 := Try.sizeOf87
  v146 := Try.zeroValue87
  t148 := Try.underlying90
  a148 := Try.isAgg90
  z148 := Try.sizeOf90
  v148 := Try.zeroValue90 }
open Go.RowKit Go.Lib in
theorem Try.bits_Mul (x y : Nat) (hx : x < 18446744073709551616) (hy : y < 18446744073709551616) (w : World) :
    Calls Try.prog 61 #[.int .u64 x, .int .u64 y] w fun e w' => e = .returned (.tuple #[.int .u64 ((x * y / 18446744073709551616 : Nat) : Int), .int .u64 ((x * y % 18446744073709551616 : Nat) : Int)]) ∧ w' = w := Any.bits_Mul Try.lays212 x y hx hy w
end Go.Proofs
end
section
namespace Go.Proofs.Ytpjafjnokgeifaa
open Go.RowKit
set_option linter.unusedVariables false
set_option linter.unusedSimpArgs false

theorem Try.infoStr : (Try.prog.info? 9).map (fun i => (i.zero, i.size, i.bytes)) = some (some (.string ⟨#[]⟩), 1, 16) := by kernel_rfl
set_option maxRecDepth 100000 in
set_option maxHeartbeats 2000000 in
theorem repeat_any (x : List UInt8) (n g : Nat) (w : World) (h1 : 1 ≤ n) (h6 : n ≤ 6) (hg : g < w.heap.size) (hc : w.cell? ⟨g, 0, none⟩ = some (strC x)) :
    Calls Try.prog 40 #[.slice (some ⟨g, 0, none⟩) 1 1, .int .i64 (n : Int)] w fun e w' => ∃ v', e = .returned v' ∧ isBtw w.heap.size w'.heap.size 9 (List.replicate n (strC x)) v' w' ∧ Below w.heap.size w w' := by
  have hmk := fun W => run_make_row' (P := Try.prog) 22 9 (.string ⟨#[]⟩) 16 Try.underlying22 Try.infoStr rfl .i64 .i64 n (by omega) (by omega) W
  obtain ⟨cur, hcur⟩ : ∃ cur, cur = madeCells #[Value.string ⟨#[]⟩] n := ⟨_, rfl⟩
  have hcs : cur.size = n := by rw [hcur]; simp [size_madeCells]
  rw [← hcur] at hmk
  have HCUR := Kept.mk hcur
  have hcp : ∀ ty, (Builtin.copy_ #[22, 22] ty #[.slice (some ⟨w.heap.size, 0, none⟩) n n, .slice (some ⟨g, 0, none⟩) 1 1]).run Try.prog (w.alloc (.cells cur 9)) = .ok (.int .i64 1) ((w.alloc (.cells cur 9)).setRow w.heap.size (repA (strC x) 1 cur)) := by
    intro ty
    have hr := run_copy_row (P := Try.prog) (w.alloc (.cells cur 9)) 22 22 ty 9 w.heap.size 0 n n ⟨g, 0, none⟩ 1 1 cur 9 [strC x] Try.underlying22 (by kernel_rfl)
      (by show (w.heap.push _)[w.heap.size]? = _; simp) (by show 1 = min 1 n; omega)
      (fun j y hy => by
        have hj : j = 0 := by have := (List.getElem?_eq_some_iff.1 hy).1; simp at this; exact this
        subst hj
        injection hy with hy
        rw [← hy, show (⟨g, 0, none⟩ : Addr).add 0 = ⟨g, 0, none⟩ by simp [Addr.add]]
        exact (((Below.refl w.heap.size w).alloc (Nat.le_refl _) _).cell (p := ⟨g, 0, none⟩) hg).trans hc)
      (by show 0 + 1 ≤ cur.size; omega) (fun y hy => by rw [List.mem_singleton.1 hy]; rfl)
    exact hr
  have hW0 : Below w.heap.size w ((w.alloc (.cells cur 9)).setRow w.heap.size (repA (strC x) 1 cur)) := below_setRow ((Below.refl _ _).alloc (Nat.le_refl _) _) (Nat.le_refl _) _
  have hG0 : ((w.alloc (.cells cur 9)).setRow w.heap.size (repA (strC x) 1 cur)).heap[w.heap.size]? = some (.cells (repA (strC x) 1 cur) 9 (0, 0)) := setRow_heap _ _ cur _ _ _ (by show (w.heap.push _)[w.heap.size]? = _; simp)
  have HW0 := Kept.mk hW0
  have HG0 := Kept.mk hG0
  have HC := Kept.mk hc
  have hd1 : decide ((n : Int) < 0) = false := by simp
  clear hcur hW0 hG0 hc
  go_enter Try.func40, Try.ntmps40
  go_wp2_with fail
  refine (Try.bits_Mul 1 n (by omega) (by omega) _).mono ?_
  rintro e w1 ⟨rfl, rfl⟩
  rewrite [show 1 * n / 18446744073709551616 = 0 by rw [Nat.one_mul]; exact Nat.div_eq_of_lt (by omega), show 1 * n % 18446744073709551616 = n by rw [Nat.one_mul]; exact Nat.mod_eq_of_lt (by omega)]
  go_wp2
  clear hmk hcp
  generalize (w1.alloc (.cells cur 9)).setRow w1.heap.size (repA (strC x) 1 cur) = W0 at *
  go_loopw [8] (fun i wr => ∃ m : Nat, 1 ≤ m ∧ m ≤ n ∧ i = .int .i64 (m : Int) ∧ Kept (wr.heap[w1.heap.size]? = some (.cells (repA (strC x) m cur) 9 (0, 0))) ∧ Kept (Below w1.heap.size w1 wr)) (fun i _ => n - (intOf i).toNat)
  case atStart => exact ⟨1, by omega, h1, rfl, HG0, HW0⟩
  case round =>
    obtain ⟨m, hm1, hmn, rfl, hrow, hbel⟩ := hrel
    by_cases hlt : m < n
    · go_wp2_with fail
      refine rep_region _ _ _ rfl w1.heap.size n m (min m (n - m)) (strC x) cur rfl rfl (by omega) hlt hcs (by omega) rfl rfl hrow.out ?_
      intro act W2 hdf hsz hkeep hn8 hrow' hturn
      have hk0 : act.tmps.getD 0 undef = (.slice (some ⟨g, 0, none⟩) 1 1) := hkeep 0 (by kernel_rfl)
      have hk1 : act.tmps.getD 1 undef = (.int .i64 (n : Int)) := hkeep 1 (by kernel_rfl)
      have hk2 : act.tmps.getD 2 undef = undef := hkeep 2 (by kernel_rfl)
      have hk3 : act.tmps.getD 3 undef = undef := hkeep 3 (by kernel_rfl)
      have hk4 : act.tmps.getD 4 undef = (.slice none 0 0) := hkeep 4 (by kernel_rfl)
      have hk5 : act.tmps.getD 5 undef = (.int .u64 0) := hkeep 5 (by kernel_rfl)
      have hk6 : act.tmps.getD 6 undef = (.int .u64 (n : Int)) := hkeep 6 (by kernel_rfl)
      have hk7 : act.tmps.getD 7 undef = (.slice (some ⟨w1.heap.size, 0, none⟩) n n) := hkeep 7 (by kernel_rfl)
      have hk9 : act.tmps.getD 9 undef = (.int .i64 (n : Int)) := hkeep 9 (by kernel_rfl)
      have hk10 : act.tmps.getD 10 undef = (.bool false) := hkeep 10 (by kernel_rfl)
      have hk11 : act.tmps.getD 11 undef = undef := hkeep 11 (by kernel_rfl)
      have hk12 : act.tmps.getD 12 undef = (.tuple #[.int .u64 0, .int .u64 (n : Int)]) := hkeep 12 (by kernel_rfl)
      have hk13 : act.tmps.getD 13 undef = (.slice (some ⟨g, 0, none⟩) 1 1) := hkeep 13 (by kernel_rfl)
      have hk14 : act.tmps.getD 14 undef = (.int .i64 1) := hkeep 14 (by kernel_rfl)
      have hk15 : act.tmps.getD 15 undef = (.int .u64 1) := hkeep 15 (by kernel_rfl)
      have hk16 : act.tmps.getD 16 undef = (.int .i64 (n : Int)) := hkeep 16 (by kernel_rfl)
      have hk17 : act.tmps.getD 17 undef = (.int .u64 (n : Int)) := hkeep 17 (by kernel_rfl)
      have hk18 : act.tmps.getD 18 undef = (.tuple #[.int .u64 0, .int .u64 (n : Int)]) := hkeep 18 (by kernel_rfl)
      have hk19 : act.tmps.getD 19 undef = (.int .u64 0) := hkeep 19 (by kernel_rfl)
      have hk20 : act.tmps.getD 20 undef = (.int .u64 (n : Int)) := hkeep 20 (by kernel_rfl)
      have hk21 : act.tmps.getD 21 undef = (.int .u64 0) := hkeep 21 (by kernel_rfl)
      have hk22 : act.tmps.getD 22 undef = (.bool false) := hkeep 22 (by kernel_rfl)
      have hk23 : act.tmps.getD 23 undef = (.bool false) := hkeep 23 (by kernel_rfl)
      have hk24 : act.tmps.getD 24 undef = (.int .u64 (n : Int)) := hkeep 24 (by kernel_rfl)
      have hk25 : act.tmps.getD 25 undef = (.bool (decide (9223372036854775807 < (n : Int)))) := hkeep 25 (by kernel_rfl)
      have hk26 : act.tmps.getD 26 undef = (.bool (decide (9223372036854775807 < (n : Int)))) := hkeep 26 (by kernel_rfl)
      have hk27 : act.tmps.getD 27 undef = undef := hkeep 27 (by kernel_rfl)
      have hk28 : act.tmps.getD 28 undef = (.int .u64 (n : Int)) := hkeep 28 (by kernel_rfl)
      have hk29 : act.tmps.getD 29 undef = (.int .i64 (n : Int)) := hkeep 29 (by kernel_rfl)
      have hk30 : act.tmps.getD 30 undef = (.slice (some ⟨w1.heap.size, 0, none⟩) n n) := hkeep 30 (by kernel_rfl)
      have hk31 : act.tmps.getD 31 undef = (.slice (some ⟨w1.heap.size, 0, none⟩) n n) := hkeep 31 (by kernel_rfl)
      have hk32 : act.tmps.getD 32 undef = (.slice (some ⟨g, 0, none⟩) 1 1) := hkeep 32 (by kernel_rfl)
      have hk33 : act.tmps.getD 33 undef = (.int .i64 1) := hkeep 33 (by kernel_rfl)
      have hk47 : act.tmps.getD 47 undef = undef := hkeep 47 (by kernel_rfl)
      obtain ⟨tm, df⟩ := act
      obtain rfl : df = [] := hdf
      clear hkeep
      obtain ⟨f, rfl, hn8, hk0, hk1, hk2, hk3, hk4, hk5, hk6, hk7, hk9, hk10, hk11, hk12, hk13, hk14, hk15, hk16, hk17, hk18, hk19, hk20, hk21, hk22, hk23, hk24, hk25, hk26, hk27, hk28, hk29, hk30, hk31, hk32, hk33, hk47⟩ : ∃ f : Nat → Value, tm = ((List.range 48).map f).toArray ∧ f 8 = .int .i64 ((m + min m (n - m) : Nat) : Int) ∧ f 0 = (.slice (some ⟨g, 0, none⟩) 1 1) ∧ f 1 = (.int .i64 (n : Int)) ∧ f 2 = undef ∧ f 3 = undef ∧ f 4 = (.slice none 0 0) ∧ f 5 = (.int .u64 0) ∧ f 6 = (.int .u64 (n : Int)) ∧ f 7 = (.slice (some ⟨w1.heap.size, 0, none⟩) n n) ∧ f 9 = (.int .i64 (n : Int)) ∧ f 10 = (.bool false) ∧ f 11 = undef ∧ f 12 = (.tuple #[.int .u64 0, .int .u64 (n : Int)]) ∧ f 13 = (.slice (some ⟨g, 0, none⟩) 1 1) ∧ f 14 = (.int .i64 1) ∧ f 15 = (.int .u64 1) ∧ f 16 = (.int .i64 (n : Int)) ∧ f 17 = (.int .u64 (n : Int)) ∧ f 18 = (.tuple #[.int .u64 0, .int .u64 (n : Int)]) ∧ f 19 = (.int .u64 0) ∧ f 20 = (.int .u64 (n : Int)) ∧ f 21 = (.int .u64 0) ∧ f 22 = (.bool false) ∧ f 23 = (.bool false) ∧ f 24 = (.int .u64 (n : Int)) ∧ f 25 = (.bool (decide (9223372036854775807 < (n : Int)))) ∧ f 26 = (.bool (decide (9223372036854775807 < (n : Int)))) ∧ f 27 = undef ∧ f 28 = (.int .u64 (n : Int)) ∧ f 29 = (.int .i64 (n : Int)) ∧ f 30 = (.slice (some ⟨w1.heap.size, 0, none⟩) n n) ∧ f 31 = (.slice (some ⟨w1.heap.size, 0, none⟩) n n) ∧ f 32 = (.slice (some ⟨g, 0, none⟩) 1 1) ∧ f 33 = (.int .i64 1) ∧ f 47 = undef := ⟨fun i => tm.getD i undef, arr_eta tm hsz, hn8, hk0, hk1, hk2, hk3, hk4, hk5, hk6, hk7, hk9, hk10, hk11, hk12, hk13, hk14, hk15, hk16, hk17, hk18, hk19, hk20, hk21, hk22, hk23, hk24, hk25, hk26, hk27, hk28, hk29, hk30, hk31, hk32, hk33, hk47⟩
      rewrite [show ((List.range 48).map f).toArray = #[f 0, f 1, f 2, f 3, f 4, f 5, f 6, f 7, f 8, f 9, f 10, f 11, f 12, f 13, f 14, f 15, f 16, f 17, f 18, f 19, f 20, f 21, f 22, f 23, f 24, f 25, f 26, f 27, f 28, f 29, f 30, f 31, f 32, f 33, f 34, f 35, f 36, f 37, f 38, f 39, f 40, f 41, f 42, f 43, f 44, f 45, f 46, f 47] from rfl]
      rewrite [hn8, hk0, hk1, hk2, hk3, hk4, hk5, hk6, hk7, hk9, hk10, hk11, hk12, hk13, hk14, hk15, hk16, hk17, hk18, hk19, hk20, hk21, hk22, hk23, hk24, hk25, hk26, hk27, hk28, hk29, hk30, hk31, hk32, hk33, hk47]
      dsimp only
      clear hsz hn8 hk0 hk1 hk2 hk3 hk4 hk5 hk6 hk7 hk9 hk10 hk11 hk12 hk13 hk14 hk15 hk16 hk17 hk18 hk19 hk20 hk21 hk22 hk23 hk24 hk25 hk26 hk27 hk28 hk29 hk30 hk31 hk32 hk33 hk47
      have HB2 : Kept (Below w1.heap.size w1 W2) := ⟨{
        os := hturn.os.trans hbel.out.os
        tape := hturn.tape.trans hbel.out.tape
        output := hturn.output.trans hbel.out.output
        size := Nat.le_trans hbel.out.size hturn.size
        block := fun b hb => (hturn.block b (Nat.lt_of_lt_of_le hb hbel.out.size) (by omega)).trans (hbel.out.block b hb) }⟩
      have HR2 := Kept.mk hrow'
      clear hrow' hturn hrow hbel
      obtain ⟨q, hq⟩ : ∃ q, q = m + min m (n - m) := ⟨_, rfl⟩
      rewrite [← hq]
      rw [← hq] at HR2
      have hq1 : m < q := by omega
      have hq2 : q ≤ n := by omega
      clear hq
      go_wp2_with fail
      go_roundw
      case rel => exact ⟨q, by omega, hq2, rfl, HR2, HB2⟩
      case measure => simp [intOf]; omega
    · obtain rfl : m = n := by omega
      go_wp2
      go_ret
      exact ⟨_, rfl, .inr ⟨w1.heap.size, m, repA (strC x) m cur, by rw [List.length_replicate]; rfl, Nat.le_refl _, (Array.getElem?_eq_some_iff.1 hrow.out).1, hrow.out, by rw [List.length_replicate]; exact Nat.le_refl _, by rw [repA_size _ _ _ (by omega)]; exact hcs, by rw [List.length_replicate]; simp [repA]⟩, hbel.out⟩
end Go.Proofs.Ytpjafjnokgeifaa
end
section
namespace Go.Proofs.Ytpjafjnokgeifaa
open Go.RowKit
set_option linter.unusedVariables false
set_option linter.unusedSimpArgs false
attribute [local irreducible] set5

def newB (n m : Int) : Bool := decide (1 ≤ n) && decide (n ≤ 6) && (decide (1 ≤ m) && decide (m ≤ 8192))
def newF (n m : Int) : Fl := if newB n m = true then ⟨List.replicate n.toNat (List.replicate m.toNat 255), List.replicate n.toNat 0, -1, [], false⟩ else ⟨[], [], 0, [], false⟩
def newE (n m : Int) : Int := if newB n m = true then 0 else 1
theorem Try.infoInt : (Try.prog.info? 3).map (fun i => (i.zero, i.size, i.bytes)) = some (some (.int .i64 0), 1, 8) := by kernel_rfl
set_option maxRecDepth 100000 in
set_option maxHeartbeats 2000000 in
theorem new_no1 (n m : Int) (w : World) (h : (decide (1 ≤ n) && decide (n ≤ 6)) = false) :
    Calls Try.prog 10 #[.int .i64 n, .int .i64 m] w fun e w' => ∃ v', e = .returned (.tuple #[v', .int .i64 1]) ∧ isFlN w.heap.size ⟨[], [], 0, [], false⟩ v' w' ∧ Below w.heap.size w w' := by
  have HH := Kept.mk h
  clear h
  have hb0 : Below w.heap.size w (w.alloc (.cells #[.slice none 0 0, .slice none 0 0, .int .i64 0, .string ⟨#[]⟩, .bool false] 25)) := (Below.refl _ _).alloc (Nat.le_refl _) _
  have hc := cells5_new w 25 (.slice none 0 0) (.slice none 0 0) (.int .i64 0) (.string ⟨#[]⟩) (.bool false)
  have HC := Kept.mk hc
  have HF := Kept.mk (free5_new w #[.slice none 0 0, .slice none 0 0, .int .i64 0, .string ⟨#[]⟩, .bool false] 25)
  have HR := Kept.mk (hc.set5_ (.slice none 0 0) (.slice none 0 0) (.int .i64 0) (.string ⟨#[]⟩) (.bool false))
  have HB := Kept.mk (below_set5 hb0 (Nat.le_refl _) (.slice none 0 0) (.slice none 0 0) (.int .i64 0) (.string ⟨#[]⟩) (.bool false))
  clear hb0 hc
  go_enter Try.func10, Try.ntmps10
  go_wp2_with fail
  refine (isPages_any n _).mono ?_
  rintro e w1 ⟨rfl, rfl⟩
  rewrite [HH.out]
  go_wp2_with (refine wpList_store5 rfl (.tmp 4) (.tmp 15) rfl w.heap.size (.slice none 0 0) (.slice none 0 0) (.int .i64 0) (.string ⟨#[]⟩) (.bool false) rfl rfl HC.out HF.out rfl rfl rfl rfl rfl ?_)
  exact bodyPost_ret (results2 rfl _ _ w.heap.size _ _ _ _ _ (.int .i64 1) rfl rfl HR.out) rfl ⟨_, rfl, ⟨_, _, rfl, .inl ⟨rfl, rfl⟩, .inl ⟨rfl, rfl⟩⟩, HB.out⟩
set_option maxRecDepth 100000 in
set_option maxHeartbeats 2000000 in
theorem new_no2 (n m : Int) (w : World) (h : (decide (1 ≤ n) && decide (n ≤ 6)) = true) (h2 : (decide (1 ≤ m) && decide (m ≤ 8192)) = false) :
    Calls Try.prog 10 #[.int .i64 n, .int .i64 m] w fun e w' => ∃ v', e = .returned (.tuple #[v', .int .i64 1]) ∧ isFlN w.heap.size ⟨[], [], 0, [], false⟩ v' w' ∧ Below w.heap.size w w' := by
  have HH := Kept.mk h
  have HH2 := Kept.mk h2
  clear h h2
  have hb0 : Below w.heap.size w (w.alloc (.cells #[.slice none 0 0, .slice none 0 0, .int .i64 0, .string ⟨#[]⟩, .bool false] 25)) := (Below.refl _ _).alloc (Nat.le_refl _) _
  have hc := cells5_new w 25 (.slice none 0 0) (.slice none 0 0) (.int .i64 0) (.string ⟨#[]⟩) (.bool false)
  have HC := Kept.mk hc
  have HF := Kept.mk (free5_new w #[.slice none 0 0, .slice none 0 0, .int .i64 0, .string ⟨#[]⟩, .bool false] 25)
  have HR := Kept.mk (hc.set5_ (.slice none 0 0) (.slice none 0 0) (.int .i64 0) (.string ⟨#[]⟩) (.bool false))
  have HB := Kept.mk (below_set5 hb0 (Nat.le_refl _) (.slice none 0 0) (.slice none 0 0) (.int .i64 0) (.string ⟨#[]⟩) (.bool false))
  clear hb0 hc
  go_enter Try.func10, Try.ntmps10
  go_wp2_with fail
  refine (isPages_any n _).mono ?_
  rintro e w1 ⟨rfl, rfl⟩
  rewrite [HH.out]
  go_wp2_with fail
  refine (isSize_any m _).mono ?_
  rintro e w1 ⟨rfl, rfl⟩
  rewrite [HH2.out]
  go_wp2_with (refine wpList_store5 rfl (.tmp 4) (.tmp 15) rfl w.heap.size (.slice none 0 0) (.slice none 0 0) (.int .i64 0) (.string ⟨#[]⟩) (.bool false) rfl rfl HC.out HF.out rfl rfl rfl rfl rfl ?_)
  exact bodyPost_ret (results2 rfl _ _ w.heap.size _ _ _ _ _ (.int .i64 1) rfl rfl HR.out) rfl ⟨_, rfl, ⟨_, _, rfl, .inl ⟨rfl, rfl⟩, .inl ⟨rfl, rfl⟩⟩, HB.out⟩

set_option maxRecDepth 100000 in
set_option maxHeartbeats 2000000 in
theorem new_yes (n m : Nat) (w : World) (h1 : 1 ≤ n) (h6 : n ≤ 6) (h2 : 1 ≤ m) (h3 : m ≤ 8192) :
    Calls Try.prog 10 #[.int .i64 (n : Int), .int .i64 (m : Int)] w fun e w' => ∃ v', e = .returned (.tuple #[v', .int .i64 0]) ∧ isFlN w.heap.size ⟨List.replicate n (List.replicate m 255), List.replicate n 0, -1, [], false⟩ v' w' ∧ Below w.heap.size w w' := by
  have HH := Kept.mk (show (decide (1 ≤ (n : Int)) && decide ((n : Int) ≤ 6)) = true by simp; omega)
  have HH2 := Kept.mk (show (decide (1 ≤ (m : Int)) && decide ((m : Int) ≤ 8192)) = true by simp; omega)
  have HO := Kept.mk (show onesL (m : Int) = List.replicate m 255 by unfold onesL; rw [if_pos (by omega), Int.toNat_natCast])
  have hmk := fun W => run_make_row' (P := Try.prog) 23 3 (.int .i64 0) 8 Try.underlying23 Try.infoInt rfl .i64 .i64 n (by omega) (by omega) W
  have hb0 : Below w.heap.size w (w.alloc (.cells #[.slice none 0 0, .slice none 0 0, .int .i64 0, .string ⟨#[]⟩, .bool false] 25)) := (Below.refl _ _).alloc (Nat.le_refl _) _
  have HB0 := Kept.mk hb0
  have HC := Kept.mk (cells5_new w 25 (.slice none 0 0) (.slice none 0 0) (.int .i64 0) (.string ⟨#[]⟩) (.bool false))
  have HF := Kept.mk (free5_new w #[.slice none 0 0, .slice none 0 0, .int .i64 0, .string ⟨#[]⟩, .bool false] 25)
  clear hb0
  go_enter Try.func10, Try.ntmps10
  go_wp2_with fail
  refine (isPages_any n _).mono ?_
  rintro e w1 ⟨rfl, rfl⟩
  rewrite [HH.out]
  go_wp2_with fail
  refine (isSize_any m _).mono ?_
  rintro e w1 ⟨rfl, rfl⟩
  rewrite [HH2.out]
  go_wp2_with fail
  refine (ones_any m _).mono ?_
  rintro e w2 ⟨rfl, hb2⟩
  rewrite [HO.out]
  have HB2 := Kept.mk hb2
  clear hb2
  obtain ⟨pg, hpg⟩ : ∃ pg, pg = List.replicate m (255 : UInt8) := ⟨_, rfl⟩
  rewrite [← hpg]
  have HPG := Kept.mk hpg
  clear hpg
  go_wp2_with fail
  refine (repeat_any pg n w2.heap.size _ h1 h6 (by simp) (by rw [World.cell?_alloc_new]; rfl)).mono ?_
  rintro e w3 ⟨vp', rfl, hp', hb3⟩
  obtain ⟨W4, hW4⟩ : ∃ W4, W4 = w3.alloc (.cells (madeCells #[Value.int .i64 0] n) 3) := ⟨_, rfl⟩
  have hb34 : Below w3.heap.size w3 W4 := by rw [hW4]; exact (Below.refl _ _).alloc (Nat.le_refl _) _
  have hbz : Below (w2.alloc (.cells #[Value.string ⟨pg.toArray⟩] 9)).heap.size (w2.alloc (.cells #[Value.string ⟨pg.toArray⟩] 9)) W4 := hb3.trans (hb34.mono hb3.size)
  have hbr := ((Below.refl w2.heap.size w2).alloc (Nat.le_refl _) (.cells #[Value.string ⟨pg.toArray⟩] 9)).trans (hbz.mono (by simp))
  have hbq := HB2.out.trans (hbr.mono HB2.out.size)
  have hs2 : w.heap.size < w2.heap.size := by have := HB2.out.size; simp at this; omega
  have hs3 : w2.heap.size < w3.heap.size := by have := hb3.size; simp at this; omega
  have hs4 : W4.heap.size = w3.heap.size + 1 := by rw [hW4]; simp
  have hrow : W4.heap[w3.heap.size]? = some (.cells (madeCells #[Value.int .i64 0] n) 3 (0, 0)) := by rw [hW4]; show (w3.heap.push _)[w3.heap.size]? = _; simp
  have hq' : isBtw (w.heap.size + 1) W4.heap.size 3 ((List.replicate n (0 : Int)).map intC) (.slice (some ⟨w3.heap.size, 0, none⟩) n n) W4 := by
    refine .inr ⟨w3.heap.size, n, _, by simp, by omega, by omega, hrow, by simp, by simp [size_madeCells], ?_⟩
    apply List.ext_getElem?
    intro j
    by_cases hj : j < n
    · rw [List.getElem?_take, if_pos (by simpa using hj), Array.getElem?_toList, madeCells_get _ _ _ hj]
      simp [hj, intC]
    · rw [List.getElem?_eq_none (by simp; omega), List.getElem?_eq_none (by simp; omega)]
  have hpp : isBtw (w.heap.size + 1) W4.heap.size 9 ((List.replicate n pg).map strC) vp' W4 := by
    rw [List.map_replicate]
    exact (hp'.grow hb34).weak (by simp; omega) (by omega)
  obtain ⟨gp, capp, _, hvp, _⟩ := hpp.some_ (by simp; omega)
  rw [List.length_map, List.length_replicate] at hvp
  subst hvp
  obtain ⟨K1, K2, K3, K4, K5⟩ := told (G := ⟨List.replicate n pg, List.replicate n 0, -1, [], false⟩) (B := w.heap.size + 1) (g := w.heap.size) (by omega) (by simp) HB0.out (Nat.le_refl _) HC.out HF.out hbq hpp hq'
  have oo1 := hpp.one
  clear hpp hq' hrow hbq hbr hbz hp' hb3 hb34 hs2 hs3 hs4
  subst hW4
  go_wp2_with (refine wpList_store5 rfl (.tmp 4) (.tmp 24) rfl w.heap.size (.slice (some ⟨gp, 0, none⟩) n capp) (.slice (some ⟨w3.heap.size, 0, none⟩) n n) (.int .i64 (-1)) (.string ⟨#[]⟩) (.bool false) rfl rfl K1.out K2.out rfl rfl rfl rfl rfl ?_)
  have K4' := K4.out
  rw [HPG.out] at K4'
  exact bodyPost_ret (results2 rfl _ _ w.heap.size _ _ _ _ _ (.int .i64 0) rfl rfl K3.out) rfl ⟨_, rfl, K4', K5.out⟩
theorem new_any (n m : Int) (w : World) :
    Calls Try.prog 10 #[.int .i64 n, .int .i64 m] w fun e w' => ∃ v', e = .returned (.tuple #[v', .int .i64 (newE n m)]) ∧ isFlN w.heap.size (newF n m) v' w' ∧ Below w.heap.size w w' := by
  cases h : (decide (1 ≤ n) && decide (n ≤ 6)) with
  | false =>
    have hb : newB n m = false := by unfold newB; rw [h]; rfl
    rw [show newE n m = 1 by simp [newE, hb], show newF n m = ⟨[], [], 0, [], false⟩ by simp [newF, hb]]
    exact new_no1 n m w h
  | true =>
    cases h2 : (decide (1 ≤ m) && decide (m ≤ 8192)) with
    | false =>
      have hb : newB n m = false := by unfold newB; rw [h, h2]; rfl
      rw [show newE n m = 1 by simp [newE, hb], show newF n m = ⟨[], [], 0, [], false⟩ by simp [newF, hb]]
      exact new_no2 n m w h h2
    | true =>
      have hb : newB n m = true := by unfold newB; rw [h, h2]; rfl
      simp only [Bool.and_eq_true, decide_eq_true_eq] at h h2
      obtain ⟨a, rfl⟩ := Int.eq_ofNat_of_zero_le (show 0 ≤ n by omega)
      obtain ⟨b, rfl⟩ := Int.eq_ofNat_of_zero_le (show 0 ≤ m by omega)
      rw [show newE a b = 0 by simp [newE, hb], show newF a b = ⟨List.replicate a (List.replicate b 255), List.replicate a 0, -1, [], false⟩ by simp [newF, hb]]
      exact new_yes a b w (by omega) (by omega) (by omega) (by omega)
end Go.Proofs.Ytpjafjnokgeifaa
end
