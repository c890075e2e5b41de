/- Contracts of package flash: Wake, Free. -/
import Derived.Test.YtipiioggdalkoaaGreatDoorFlSame
namespace Go.Proofs.YtipiioggdalkoaaGreatDoor
open Go.RowKit
set_option linter.unusedVariables false
set_option linter.unusedSimpArgs false
attribute [local irreducible] set5

section
variable {w0 W : World} {lo hi g3 g6 g8 : Nat} {F G : Fl} {vp vw vp' vw' : Value}
theorem TI.tear (h : TI w0 W lo hi g3 g6 g8 F G vp vw vp' vw') (t : List UInt8) : TI w0 (W.setCell ⟨g8, 3, none⟩ (strC t)) lo hi g3 g6 g8 F { G with torn := t } vp vw vp' vw' := by
  have o3 := h.o3
  have o6 := h.o6
  have o8 := h.o8
  exact {
    below := h.below.setCell (p := ⟨g8, 3, none⟩) (by show _ ≤ g8; omega) _
    o3 := o3
    o6 := o6
    o36 := h.o36
    o8 := o8
    c3 := h.c3.apart _ (by omega)
    c6 := by obtain ⟨o0, o1, o2, o3', o4, hc⟩ := h.c6; exact ⟨o0, o1, o2, o3', o4, hc.apart _ (by omega)⟩
    f6 := h.f6.set _ _
    c8 := h.c8.set3 _
    f8 := h.f8.set _ _
    p := h.p
    q := h.q
    p' := h.p'.out (p := ⟨g8, 3, none⟩) (.inr (by show _ ≤ g8; omega)) _
    q' := h.q'.out (p := ⟨g8, 3, none⟩) (.inr (by show _ ≤ g8; omega)) _ }
end
def wakeB (F : Fl) (torn : List UInt8) : Bool := mayB F && decide ((torn.length : Int) ≤ 64)
def wakeF (F : Fl) (fuse : Int) (torn : List UInt8) : Fl := if wakeB F torn = true then { F with fuse := fuse, torn := torn, dead := false } else F
def wakeE (F : Fl) (torn : List UInt8) : Int := if wakeB F torn = true then 0 else 1

set_option maxRecDepth 100000 in
set_option maxHeartbeats 2000000 in
theorem wake_no1 (F : Fl) (fuse : Int) (torn : List UInt8) (v : Value) (w : World) (hv : isFl F v w) (h1 : F.pages.length * 16 ≤ 140737488355328) (h2 : F.wear.length * 8 ≤ 140737488355328) (hm : mayB F = false) :
    Calls Tryz.prog 25 #[v, .int .i64 fuse, .string ⟨torn.toArray⟩] w fun e w' => ∃ v', e = .returned (.tuple #[v', .int .i64 1]) ∧ isFlN w.heap.size F v' w' ∧ Below w.heap.size w w' := by
  have hsz : (⟨torn.toArray⟩ : ByteArray).size = torn.length := size_mk torn
  have HM := Kept.mk hm
  clear hm
  obtain ⟨vp, vw, rfl, hp, hq⟩ := hv
  have hb0 : Below w.heap.size w ((w.alloc (.cells #[vp, vw, .int .i64 F.fuse, strC F.torn, .bool F.dead] 31)).alloc (.cells #[.slice none 0 0, .slice none 0 0, .int .i64 0, .string ⟨#[]⟩, .bool false] 31)) := ((Below.refl _ _).alloc (Nat.le_refl _) _).alloc (by simp) _
  have HP := Kept.mk hp
  have HQ := Kept.mk hq
  have HB0 := Kept.mk hb0
  clear hp hq hb0
  go_enter Tryz.func25, Tryz.ntmps25
  go_wp2_with fail
  refine (copied_any F _ _ ⟨vp, vw, rfl, stable_cells _ _ _ _ HP.out HB0.out, stable_cells _ _ _ _ HQ.out HB0.out⟩ (by omega) (by omega)).mono ?_
  rintro e w1 ⟨vp', vw', rfl, ho1, ho2, hb1⟩
  have TI0 := Kept.mk (ti_start F w w1 vp vw vp' vw' HP.out HQ.out hb1 ho1 ho2)
  have HC8 := Kept.mk (cells5_new w1 31 (.slice none 0 0) (.slice none 0 0) (.int .i64 0) (.string ⟨#[]⟩) (.bool false))
  have HF8 := Kept.mk (free5_new w1 #[.slice none 0 0, .slice none 0 0, .int .i64 0, .string ⟨#[]⟩, .bool false] 31)
  have oo1 := (ho1.one).2
  have oo2 := (ho2.one).2
  clear ho1 ho2 hb1 HB0
  have b3 := TI0.out.c3
  obtain ⟨_, b0, b1, b2, b3, b4⟩ := b3
  go_wp2_with (refine wpList_store5 rfl (.tmp 8) (.tmp 10) rfl w1.heap.size vp' vw' (.int .i64 F.fuse) (strC F.torn) (.bool F.dead) rfl rfl HC8.out HF8.out oo1 oo2 rfl rfl rfl ?_)
  have T := TI0.out
  clear TI0 HC8 HF8 b0 b1 b2 b3 b4
  generalize set5 (w1.alloc (.cells #[.slice none 0 0, .slice none 0 0, .int .i64 0, .string ⟨#[]⟩, .bool false] 31)) w1.heap.size vp' vw' (.int .i64 F.fuse) (strC F.torn) (.bool F.dead) = W at *
  generalize w1.heap.size = g8 at *
  refine (mayBe_any F _ _ T.fl (by omega) (by omega)).mono ?_
  rintro e W2 ⟨rfl, hbT⟩
  replace T := T.grow hbT
  clear hbT
  rewrite [HM.out]
  obtain ⟨o0, o1, o2, o3, o4, c6⟩ := T.c6
  have HC6 := Kept.mk c6
  have HF6 := Kept.mk T.f6
  obtain ⟨hfl, hB5, hr5⟩ := ti_end T
  have HFL := Kept.mk hfl
  have HR5 := Kept.mk hr5
  have HB5 := Kept.mk hB5
  obtain ⟨_, k0, k1, k2, k3, k4⟩ := T.c8
  clear T c6 hfl hr5 hB5
  go_wp2_with (refine wpList_store5 rfl (.tmp 6) (.tmp 19) rfl (w.heap.size + 1) _ _ _ _ _ rfl rfl HC6.out HF6.out oo1 oo2 rfl rfl rfl ?_)
  exact bodyPost_ret (results2 rfl _ _ (w.heap.size + 1) _ _ _ _ _ (.int .i64 1) rfl rfl HR5.out) rfl ⟨_, rfl, HFL.out, HB5.out⟩

set_option maxRecDepth 100000 in
set_option maxHeartbeats 2000000 in
theorem wake_no2 (F : Fl) (fuse : Int) (torn : List UInt8) (v : Value) (w : World) (hv : isFl F v w) (h1 : F.pages.length * 16 ≤ 140737488355328) (h2 : F.wear.length * 8 ≤ 140737488355328) (hm : mayB F = true) (ht : 64 < (torn.length : Int)) :
    Calls Tryz.prog 25 #[v, .int .i64 fuse, .string ⟨torn.toArray⟩] w fun e w' => ∃ v', e = .returned (.tuple #[v', .int .i64 1]) ∧ isFlN w.heap.size F v' w' ∧ Below w.heap.size w w' := by
  have hsz : (⟨torn.toArray⟩ : ByteArray).size = torn.length := size_mk torn
  have HM := Kept.mk hm
  clear hm
  have ht' : decide (64 < (torn.length : Int)) = true := by simp; omega
  obtain ⟨vp, vw, rfl, hp, hq⟩ := hv
  have hb0 : Below w.heap.size w ((w.alloc (.cells #[vp, vw, .int .i64 F.fuse, strC F.torn, .bool F.dead] 31)).alloc (.cells #[.slice none 0 0, .slice none 0 0, .int .i64 0, .string ⟨#[]⟩, .bool false] 31)) := ((Below.refl _ _).alloc (Nat.le_refl _) _).alloc (by simp) _
  have HP := Kept.mk hp
  have HQ := Kept.mk hq
  have HB0 := Kept.mk hb0
  clear hp hq hb0
  go_enter Tryz.func25, Tryz.ntmps25
  go_wp2_with fail
  refine (copied_any F _ _ ⟨vp, vw, rfl, stable_cells _ _ _ _ HP.out HB0.out, stable_cells _ _ _ _ HQ.out HB0.out⟩ (by omega) (by omega)).mono ?_
  rintro e w1 ⟨vp', vw', rfl, ho1, ho2, hb1⟩
  have TI0 := Kept.mk (ti_start F w w1 vp vw vp' vw' HP.out HQ.out hb1 ho1 ho2)
  have HC8 := Kept.mk (cells5_new w1 31 (.slice none 0 0) (.slice none 0 0) (.int .i64 0) (.string ⟨#[]⟩) (.bool false))
  have HF8 := Kept.mk (free5_new w1 #[.slice none 0 0, .slice none 0 0, .int .i64 0, .string ⟨#[]⟩, .bool false] 31)
  have oo1 := (ho1.one).2
  have oo2 := (ho2.one).2
  clear ho1 ho2 hb1 HB0
  have b3 := TI0.out.c3
  obtain ⟨_, b0, b1, b2, b3, b4⟩ := b3
  go_wp2_with (refine wpList_store5 rfl (.tmp 8) (.tmp 10) rfl w1.heap.size vp' vw' (.int .i64 F.fuse) (strC F.torn) (.bool F.dead) rfl rfl HC8.out HF8.out oo1 oo2 rfl rfl rfl ?_)
  have T := TI0.out
  clear TI0 HC8 HF8 b0 b1 b2 b3 b4
  generalize set5 (w1.alloc (.cells #[.slice none 0 0, .slice none 0 0, .int .i64 0, .string ⟨#[]⟩, .bool false] 31)) w1.heap.size vp' vw' (.int .i64 F.fuse) (strC F.torn) (.bool F.dead) = W at *
  generalize w1.heap.size = g8 at *
  refine (mayBe_any F _ _ T.fl (by omega) (by omega)).mono ?_
  rintro e W2 ⟨rfl, hbT⟩
  replace T := T.grow hbT
  clear hbT
  rewrite [HM.out]
  obtain ⟨o0, o1, o2, o3, o4, c6⟩ := T.c6
  have HC6 := Kept.mk c6
  have HF6 := Kept.mk T.f6
  obtain ⟨hfl, hB5, hr5⟩ := ti_end T
  have HFL := Kept.mk hfl
  have HR5 := Kept.mk hr5
  have HB5 := Kept.mk hB5
  obtain ⟨_, k0, k1, k2, k3, k4⟩ := T.c8
  clear T c6 hfl hr5 hB5
  go_wp2_with (refine wpList_store5 rfl (.tmp 6) (.tmp 19) rfl (w.heap.size + 1) _ _ _ _ _ rfl rfl HC6.out HF6.out oo1 oo2 rfl rfl rfl ?_)
  exact bodyPost_ret (results2 rfl _ _ (w.heap.size + 1) _ _ _ _ _ (.int .i64 1) rfl rfl HR5.out) rfl ⟨_, rfl, HFL.out, HB5.out⟩

set_option maxRecDepth 100000 in
set_option maxHeartbeats 2000000 in
theorem wake_yes (F : Fl) (fuse : Int) (torn : List UInt8) (v : Value) (w : World) (hv : isFl F v w) (h1 : F.pages.length * 16 ≤ 140737488355328) (h2 : F.wear.length * 8 ≤ 140737488355328) (hm : mayB F = true) (ht : (torn.length : Int) ≤ 64) :
    Calls Tryz.prog 25 #[v, .int .i64 fuse, .string ⟨torn.toArray⟩] w fun e w' => ∃ v', e = .returned (.tuple #[v', .int .i64 0]) ∧ isFlN w.heap.size { F with fuse := fuse, torn := torn, dead := false } v' w' ∧ Below w.heap.size w w' := by
  have hsz : (⟨torn.toArray⟩ : ByteArray).size = torn.length := size_mk torn
  have HM := Kept.mk hm
  clear hm
  have ht' : decide (64 < (torn.length : Int)) = false := by simp; omega
  obtain ⟨vp, vw, rfl, hp, hq⟩ := hv
  have hb0 : Below w.heap.size w ((w.alloc (.cells #[vp, vw, .int .i64 F.fuse, strC F.torn, .bool F.dead] 31)).alloc (.cells #[.slice none 0 0, .slice none 0 0, .int .i64 0, .string ⟨#[]⟩, .bool false] 31)) := ((Below.refl _ _).alloc (Nat.le_refl _) _).alloc (by simp) _
  have HP := Kept.mk hp
  have HQ := Kept.mk hq
  have HB0 := Kept.mk hb0
  clear hp hq hb0
  go_enter Tryz.func25, Tryz.ntmps25
  go_wp2_with fail
  refine (copied_any F _ _ ⟨vp, vw, rfl, stable_cells _ _ _ _ HP.out HB0.out, stable_cells _ _ _ _ HQ.out HB0.out⟩ (by omega) (by omega)).mono ?_
  rintro e w1 ⟨vp', vw', rfl, ho1, ho2, hb1⟩
  have TI0 := Kept.mk (ti_start F w w1 vp vw vp' vw' HP.out HQ.out hb1 ho1 ho2)
  have HC8 := Kept.mk (cells5_new w1 31 (.slice none 0 0) (.slice none 0 0) (.int .i64 0) (.string ⟨#[]⟩) (.bool false))
  have HF8 := Kept.mk (free5_new w1 #[.slice none 0 0, .slice none 0 0, .int .i64 0, .string ⟨#[]⟩, .bool false] 31)
  have oo1 := (ho1.one).2
  have oo2 := (ho2.one).2
  clear ho1 ho2 hb1 HB0
  have b3 := TI0.out.c3
  obtain ⟨_, b0, b1, b2, b3, b4⟩ := b3
  go_wp2_with (refine wpList_store5 rfl (.tmp 8) (.tmp 10) rfl w1.heap.size vp' vw' (.int .i64 F.fuse) (strC F.torn) (.bool F.dead) rfl rfl HC8.out HF8.out oo1 oo2 rfl rfl rfl ?_)
  have T := TI0.out
  clear TI0 HC8 HF8 b0 b1 b2 b3 b4
  generalize set5 (w1.alloc (.cells #[.slice none 0 0, .slice none 0 0, .int .i64 0, .string ⟨#[]⟩, .bool false] 31)) w1.heap.size vp' vw' (.int .i64 F.fuse) (strC F.torn) (.bool F.dead) = W at *
  generalize w1.heap.size = g8 at *
  refine (mayBe_any F _ _ T.fl (by omega) (by omega)).mono ?_
  rintro e W2 ⟨rfl, hbT⟩
  replace T := T.grow hbT
  clear hbT
  rewrite [HM.out]
  have x2 := T.c8.2.2.2.1
  have y2 := T.f8 2
  replace T := T.burn fuse
  have x3 := T.c8.2.2.2.2.1
  have y3 := T.f8 3
  replace T := T.tear torn
  change TI w ((W2.setCell ⟨g8, 2, none⟩ (.int .i64 fuse)).setCell ⟨g8, 3, none⟩ (.string ⟨torn.toArray⟩)) _ _ _ _ _ _ _ _ _ _ _ at T
  have x4 := T.c8.2.2.2.2.2
  have y4 := T.f8 4
  replace T := T.die false
  obtain ⟨o0, o1, o2, o3, o4, c6⟩ := T.c6
  have HC6 := Kept.mk c6
  have HF6 := Kept.mk T.f6
  obtain ⟨hfl, hB5, hr5⟩ := ti_end T
  have HFL := Kept.mk hfl
  have HR5 := Kept.mk hr5
  have HB5 := Kept.mk hB5
  obtain ⟨_, k0, k1, k2, k3, k4⟩ := T.c8
  clear T c6 hfl hr5 hB5
  go_wp2_with (refine wpList_store5 rfl (.tmp 6) (.tmp 25) rfl (w.heap.size + 1) _ _ _ _ _ rfl rfl HC6.out HF6.out oo1 oo2 rfl rfl rfl ?_)
  exact bodyPost_ret (results2 rfl _ _ (w.heap.size + 1) _ _ _ _ _ (.int .i64 0) rfl rfl HR5.out) rfl ⟨_, rfl, HFL.out, HB5.out⟩

theorem wake_any (F : Fl) (fuse : Int) (torn : List UInt8) (v : Value) (w : World) (hv : isFl F v w) (h1 : F.pages.length * 16 ≤ 140737488355328) (h2 : F.wear.length * 8 ≤ 140737488355328) :
    Calls Tryz.prog 25 #[v, .int .i64 fuse, .string ⟨torn.toArray⟩] w fun e w' => ∃ v', e = .returned (.tuple #[v', .int .i64 (wakeE F torn)]) ∧ isFlN w.heap.size (wakeF F fuse torn) v' w' ∧ Below w.heap.size w w' := by
  cases hm : mayB F with
  | false =>
    rw [show wakeE F torn = 1 by simp [wakeE, wakeB, hm], show wakeF F fuse torn = F by simp [wakeF, wakeB, hm]]
    exact wake_no1 F fuse torn v w hv h1 h2 hm
  | true =>
    by_cases ht : (torn.length : Int) ≤ 64
    · have hb : wakeB F torn = true := by unfold wakeB; rw [hm, decide_eq_true ht]; rfl
      rw [show wakeE F torn = 0 by simp [wakeE, hb], show wakeF F fuse torn = { F with fuse := fuse, torn := torn, dead := false } by simp [wakeF, hb]]
      exact wake_yes F fuse torn v w hv h1 h2 hm ht
    · have hb : wakeB F torn = false := by unfold wakeB; rw [hm, decide_eq_false ht]; rfl
      rw [show wakeE F torn = 1 by simp [wakeE, hb], show wakeF F fuse torn = F by simp [wakeF, hb]]
      exact wake_no2 F fuse torn v w hv h1 h2 hm (by omega)
end Go.Proofs.YtipiioggdalkoaaGreatDoor
