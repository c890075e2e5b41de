/- Contract of flash.Rot. -/
import Derived.Test.YtipiioggdalkoaaFlWake
namespace Go.Proofs.Ytipiioggdalkoaa
open Go.RowKit
set_option linter.unusedVariables false
set_option linter.unusedSimpArgs false
attribute [local irreducible] set5

/-- A page some of whose bits were turned. -/
def rotL (was : List UInt8) (k : Nat) (turn : List UInt8) : List UInt8 := was.take k ++ pairL (· ^^^ ·) (was.drop k) turn
theorem length_rotL (was : List UInt8) (k : Nat) (s : List UInt8) : (rotL was k s).length = was.length := by
  unfold rotL
  rw [List.length_append, length_pairL, ← List.length_append, List.take_append_drop]
theorem call_xorF (t d : List UInt8) (ht : t.length ≤ 1000000000) (hd : d.length ≤ 1000000000) (w : World) :
    Calls Try.prog 49 #[.string ⟨t.toArray⟩, .string ⟨d.toArray⟩] w fun e w' => ∃ v, e = .returned v ∧ isVal (.string ⟨(pairL (· ^^^ ·) t d).toArray⟩) v w' ∧ Below w.heap.size w w' :=
  (xor_l t d w ht hd).mono (by rintro e w' ⟨rfl, hb⟩; exact ⟨_, rfl, rfl, hb⟩)
noncomputable def rotOps : Array Oper := regionOf Try.f19 5
set_option maxRecDepth 100000 in
set_option maxHeartbeats 2000000 in
theorem rot5 (Q : Exit → Act → World → Prop) (a0 : Act) (w0 W : World) (hsz : a0.tmps.size = 55) (lo hi g3 g6 g8 k gp np capp at_ : Nat) (F G : Fl) (vp vw vw' : Value) (was turn : List UInt8)
    (e1 : a0.tmps.getD 1 undef = .int .i64 (k : Int)) (e2 : a0.tmps.getD 2 undef = .int .i64 (at_ : Int)) (e3 : a0.tmps.getD 3 undef = .string ⟨turn.toArray⟩) (e10 : a0.tmps.getD 10 undef = .pointer (some ⟨g8, 0, none⟩)) (e11 : a0.tmps.getD 11 undef = .string ⟨was.toArray⟩)
    (h : TI w0 W lo hi g3 g6 g8 F G vp vw (.slice (some ⟨gp, 0, none⟩) np capp) vw') (hknp : k < np) (hkg : k < G.pages.length) (hw1 : was.length ≤ 1000000) (hw2 : turn.length ≤ 1000000) (hk : at_ ≤ was.length)
    (hQ : ∀ (a : Act) (W' : World), a.defers = a0.defers → a.tmps.size = a0.tmps.size → (∀ t, (rotOps.toList.all fun o => o.dst != some t) = true → a.tmps.getD t undef = a0.tmps.getD t undef) →
      TI w0 W' lo hi g3 g6 g8 F { G with pages := G.pages.set k (rotL was at_ turn) } vp vw (.slice (some ⟨gp, 0, none⟩) np capp) vw' → Q .normal a W') :
    (Code.region 5 rotOps true).wp Try.prog Q a0 W := by
  have hc8 := h.c8
  have hdl : (was.drop at_).length ≤ 1000000000 := by rw [List.length_drop]; omega
  refine wp_region_tail 13 mixed (by rw [hsz]; kernel_rfl) (by kernel_rfl) ?_
  rw [show rotOps.size - 13 = 1 by kernel_rfl]
  refine ⟨isVal (.pointer (some ⟨g8, 0, none⟩)), step_field 25 (.tmp 10) 0 ⟨g8, 0, none⟩ ⟨g8, 0, none⟩ (by kernel_rfl) (wanted_none (by kernel_rfl)) (knows_old 10 (.pointer (some ⟨g8, 0, none⟩)) (by kernel_rfl) e10) (field_fl g8 0 (by omega)), ?_⟩
  refine ⟨isVal (.slice (some ⟨gp, 0, none⟩) np capp), step_read 22 (.tmp 41) ⟨g8, 0, none⟩ (.slice (some ⟨gp, 0, none⟩) np capp) (by kernel_rfl) (wanted_none (by kernel_rfl)) (knows_new (V := isVal (.pointer (some ⟨g8, 0, none⟩))) 41 0 (by kernel_rfl) (by kernel_rfl) (by kernel_rfl)) hc8.2.1 hc8.1 agg_strs, ?_⟩
  refine ⟨isVal (.int .i64 (k : Int)), step_move (.tmp 1) (by kernel_rfl) (wanted_none (by kernel_rfl)) (stable_val _) (knows_old 1 (.int .i64 (k : Int)) (by kernel_rfl) e1), ?_⟩
  refine ⟨isVal (.string ⟨was.toArray⟩), step_move (.tmp 11) (by kernel_rfl) (wanted_none (by kernel_rfl)) (stable_val _) (knows_old 11 (.string ⟨was.toArray⟩) (by kernel_rfl) e11), ?_⟩
  refine ⟨isVal (.int .i64 (at_ : Int)), step_move (.tmp 2) (by kernel_rfl) (wanted_none (by kernel_rfl)) (stable_val _) (knows_old 2 (.int .i64 (at_ : Int)) (by kernel_rfl) e2), ?_⟩
  refine ⟨isVal (.string ⟨(was.take at_).toArray⟩), step_head 9 (.tmp 44) (.tmp 45) was at_ (by kernel_rfl) (wanted_none (by kernel_rfl)) (knows_new (V := isVal (.string ⟨was.toArray⟩)) 44 3 (by kernel_rfl) (by kernel_rfl) (by kernel_rfl)) (knows_new (V := isVal (.int .i64 (at_ : Int))) 45 4 (by kernel_rfl) (by kernel_rfl) (by kernel_rfl)) (head_str was at_ hk), ?_⟩
  refine ⟨isVal (.string ⟨was.toArray⟩), step_move (.tmp 11) (by kernel_rfl) (wanted_none (by kernel_rfl)) (stable_val _) (knows_old 11 (.string ⟨was.toArray⟩) (by kernel_rfl) e11), ?_⟩
  refine ⟨isVal (.int .i64 (at_ : Int)), step_move (.tmp 2) (by kernel_rfl) (wanted_none (by kernel_rfl)) (stable_val _) (knows_old 2 (.int .i64 (at_ : Int)) (by kernel_rfl) e2), ?_⟩
  refine ⟨isVal (.string ⟨(was.drop at_).toArray⟩), step_rest 9 (.tmp 47) (.tmp 48) was at_ (by kernel_rfl) (wanted_none (by kernel_rfl)) (knows_new (V := isVal (.string ⟨was.toArray⟩)) 47 6 (by kernel_rfl) (by kernel_rfl) (by kernel_rfl)) (knows_new (V := isVal (.int .i64 (at_ : Int))) 48 7 (by kernel_rfl) (by kernel_rfl) (by kernel_rfl)) (rest_str was at_ hk), ?_⟩
  refine ⟨isVal (.string ⟨turn.toArray⟩), step_move (.tmp 3) (by kernel_rfl) (wanted_none (by kernel_rfl)) (stable_val _) (knows_old 3 (.string ⟨turn.toArray⟩) (by kernel_rfl) e3), ?_⟩
  refine ⟨isVal (.string ⟨(pairL (· ^^^ ·) (was.drop at_) turn).toArray⟩), step_call 49 #[.tmp 49, .tmp 50] #[9, 9] #[.string ⟨(was.drop at_).toArray⟩, .string ⟨turn.toArray⟩] (by kernel_rfl) (wanted_none (by kernel_rfl)) (stable_val _) (args2 (.tmp 49) (.tmp 50) (.string ⟨(was.drop at_).toArray⟩) (.string ⟨turn.toArray⟩) (knows_new (V := isVal (.string ⟨(was.drop at_).toArray⟩)) 49 8 (by kernel_rfl) (by kernel_rfl) (by kernel_rfl)) (knows_new (V := isVal (.string ⟨turn.toArray⟩)) 50 9 (by kernel_rfl) (by kernel_rfl) (by kernel_rfl))) (enters_of Try.func49 (by kernel_rfl) rfl) (by intro w hb; exact call_xorF (was.drop at_) turn hdl (by omega) w), ?_⟩
  refine ⟨isVal (.string ⟨(was.take at_ ++ pairL (· ^^^ ·) (was.drop at_) turn).toArray⟩), step_bin .add 9 9 (.tmp 46) (.tmp 51) (.string ⟨(was.take at_).toArray⟩) (.string ⟨(pairL (· ^^^ ·) (was.drop at_) turn).toArray⟩) (.string ⟨(was.take at_ ++ pairL (· ^^^ ·) (was.drop at_) turn).toArray⟩) (by kernel_rfl) (wanted_none (by kernel_rfl)) (knows_new (V := isVal (.string ⟨(was.take at_).toArray⟩)) 46 5 (by kernel_rfl) (by kernel_rfl) (by kernel_rfl)) (knows_new (V := isVal (.string ⟨(pairL (· ^^^ ·) (was.drop at_) turn).toArray⟩)) 51 10 (by kernel_rfl) (by kernel_rfl) (by kernel_rfl)) (fun _ => rfl) (fun W => run_string_add_lists W (was.take at_) (pairL (· ^^^ ·) (was.drop at_) turn) (by rw [List.length_take]; omega) (by rw [length_pairL, List.length_drop]; omega)), ?_⟩
  refine ⟨isVal (.pointer (some ⟨gp, 0 + k, none⟩)), step_place 22 9 (.tmp 42) (.tmp 43) gp 0 np capp k (by kernel_rfl) (wanted_none (by kernel_rfl)) (knows_new (V := isVal (.slice (some ⟨gp, 0, none⟩) np capp)) 42 1 (by kernel_rfl) (by kernel_rfl) (by kernel_rfl)) (knows_new (V := isVal (.int .i64 (k : Int))) 43 2 (by kernel_rfl) (by kernel_rfl) (by kernel_rfl)) Try.underlying22 (by kernel_rfl) hknp, ?_⟩
  intro a w hk' hb hd
  have d52 := fdone_of (hd 11 (by decide)) (t := 52) (V := isVal (.string ⟨(was.take at_ ++ pairL (· ^^^ ·) (was.drop at_) turn).toArray⟩)) (by kernel_rfl) (by kernel_rfl)
  have d53 := fdone_of (hd 12 (by decide)) (t := 53) (V := isVal (.pointer (some ⟨gp, 0 + k, none⟩))) (by kernel_rfl) (by kernel_rfl)
  rw [Nat.zero_add] at d53
  have T1 := h.grow hb
  obtain ⟨q1, q2, _⟩ := T1.p'.cell k (strC G.pages[k]) (get_map strC _ _ hkg)
  refine tail_store 9 (.tmp 53) (.tmp 52) ⟨gp, k, none⟩ (strC (rotL was at_ turn)) _ (by kernel_rfl) (by kernel_rfl) d53 d52 (by kernel_rfl) rfl rfl q1 q2 ?_
  exact hQ _ _ hk'.1 hk'.2.1 hk'.2.2 (T1.page k hkg (rotL was at_ turn))

set_option maxRecDepth 100000 in
set_option maxHeartbeats 2000000 in
theorem rot_no1 (F : Fl) (turn : List UInt8) (v : Value) (w : World) (hv : isFl F v w) (hs : turn.length ≤ 1000000) (page at_ : Int) (h1 : F.pages.length ≤ 1000000) (h2 : F.wear.length ≤ 1000000) (hhas : hasB F page = false) :
    Calls Try.prog 19 #[v, .int .i64 page, .int .i64 at_, .string ⟨turn.toArray⟩] w fun e w' => ∃ v', e = .returned (.tuple #[v', .int .i64 1]) ∧ isFlN w.heap.size F v' w' ∧ Below w.heap.size w w' := by
  have hsz : (⟨turn.toArray⟩ : ByteArray).size = turn.length := size_mk turn
  have HH := Kept.mk hhas
  clear hhas
  obtain ⟨vp, vw, rfl, hp, hq⟩ := hv
  have hb0 : Below w.heap.size w ((w.alloc (.cells #[vp, vw, .int .i64 F.fuse, strC F.torn, .bool F.dead] 25)).alloc (.cells #[.slice none 0 0, .slice none 0 0, .int .i64 0, .string ⟨#[]⟩, .bool false] 25)) := ((Below.refl _ _).alloc (Nat.le_refl _) _).alloc (by simp) _
  have HP := Kept.mk hp
  have HQ := Kept.mk hq
  have HB0 := Kept.mk hb0
  clear hp hq hb0
  go_enter Try.func19, Try.ntmps19
  go_wp2_with fail
  refine (copied_any F _ _ ⟨vp, vw, rfl, stable_cells _ _ _ _ HP.out HB0.out, stable_cells _ _ _ _ HQ.out HB0.out⟩ (by omega) (by omega)).mono ?_
  rintro e w1 ⟨vp', vw', rfl, ho1, ho2, hb1⟩
  have TI0 := Kept.mk (ti_start F w w1 vp vw vp' vw' HP.out HQ.out hb1 ho1 ho2)
  have HC8 := Kept.mk (cells5_new w1 25 (.slice none 0 0) (.slice none 0 0) (.int .i64 0) (.string ⟨#[]⟩) (.bool false))
  have HF8 := Kept.mk (free5_new w1 #[.slice none 0 0, .slice none 0 0, .int .i64 0, .string ⟨#[]⟩, .bool false] 25)
  have oo1 := (ho1.one).2
  have oo2 := (ho2.one).2
  clear ho1 ho2 hb1 HB0
  have b3 := TI0.out.c3
  obtain ⟨_, b0, b1, b2, b3, b4⟩ := b3
  go_wp2_with (refine wpList_store5 rfl (.tmp 10) (.tmp 13) rfl w1.heap.size vp' vw' (.int .i64 F.fuse) (strC F.torn) (.bool F.dead) rfl rfl HC8.out HF8.out oo1 oo2 rfl rfl rfl ?_)
  have T := TI0.out
  clear TI0 HC8 HF8 b0 b1 b2 b3 b4
  generalize set5 (w1.alloc (.cells #[.slice none 0 0, .slice none 0 0, .int .i64 0, .string ⟨#[]⟩, .bool false] 25)) w1.heap.size vp' vw' (.int .i64 F.fuse) (strC F.torn) (.bool F.dead) = W at *
  generalize w1.heap.size = g8 at *
  refine (hasPage_any F page _ _ T.fl (by omega) (by omega)).mono ?_
  rintro e W2 ⟨rfl, hbT⟩
  replace T := T.grow hbT
  clear hbT
  rewrite [HH.out]
  obtain ⟨o0, o1, o2, o3, o4, c6⟩ := T.c6
  have HC6 := Kept.mk c6
  have HF6 := Kept.mk T.f6
  obtain ⟨hfl, hB5, hr5⟩ := ti_end T
  have HFL := Kept.mk hfl
  have HR5 := Kept.mk hr5
  have HB5 := Kept.mk hB5
  obtain ⟨_, k0, k1, k2, k3, k4⟩ := T.c8
  clear T c6 hfl hr5 hB5
  go_wp2_with (refine wpList_store5 rfl (.tmp 8) (.tmp 35) rfl (w.heap.size + 1) _ _ _ _ _ rfl rfl HC6.out HF6.out oo1 oo2 rfl rfl rfl ?_)
  exact bodyPost_ret (results2 rfl _ _ (w.heap.size + 1) _ _ _ _ _ (.int .i64 1) rfl rfl HR5.out) rfl ⟨_, rfl, HFL.out, HB5.out⟩

set_option maxRecDepth 100000 in
set_option maxHeartbeats 2000000 in
theorem rot_no2 (F : Fl) (turn : List UInt8) (v : Value) (w : World) (hv : isFl F v w) (hs : turn.length ≤ 1000000) (k : Nat) (at_ : Int) (hhas : hasB F (k : Int) = true) (hl : 4 < turn.length) :
    Calls Try.prog 19 #[v, .int .i64 (k : Int), .int .i64 at_, .string ⟨turn.toArray⟩] w fun e w' => ∃ v', e = .returned (.tuple #[v', .int .i64 1]) ∧ isFlN w.heap.size F v' w' ∧ Below w.heap.size w w' := by
  have hsz : (⟨turn.toArray⟩ : ByteArray).size = turn.length := size_mk turn
  have HH := Kept.mk hhas
  have hlong : decide (4 < (turn.length : Int)) = true := by simp; omega
  have HHF := Kept.mk (has_facts F k hhas)
  obtain ⟨hk, h6, hwl, htl, hpg, hwr⟩ := HHF.out
  obtain ⟨was, hwas⟩ : ∃ was, F.pages[k]? = some was := ⟨_, List.getElem?_eq_getElem hk⟩
  obtain ⟨wn, hwn⟩ : ∃ wn, F.wear[k]? = some wn := ⟨_, List.getElem?_eq_getElem (by omega)⟩
  have hwm : was.length ≤ 8192 := (hpg _ (List.mem_of_getElem? hwas)).2.1
  have hn01 := hwr wn (List.mem_of_getElem? hwn)
  obtain ⟨vp, vw, rfl, hp, hq⟩ := hv
  obtain ⟨b, off, cap, hvp, hb, hc⟩ := hp.some_ (by rw [List.length_map]; omega)
  obtain ⟨b2, off2, cap2, hvw, hb2, hc2⟩ := hq.some_ (by rw [List.length_map]; omega)
  rw [List.length_map] at hvp hvw
  subst hvp hvw
  have hcell : w.cell? ⟨b, off + k, none⟩ = some (.string ⟨was.toArray⟩) := hc k _ (by simp [hwas, strC])
  have hcell2 : w.cell? ⟨b2, off2 + k, none⟩ = some (.int .i64 wn) := hc2 k _ (by simp [hwn, intC])
  have hkw : k < F.wear.length := by omega
  have hwl6 : F.wear.length ≤ 6 := by omega
  have HWL := Kept.mk hwl
  clear hwl
  have hget1 : F.pages.getD k [] = was := by simp [List.getD_eq_getElem?_getD, hwas]
  have hget2 : F.wear.getD k 0 = wn := by simp [List.getD_eq_getElem?_getD, hwn]
  try rw [hget1]
  try rw [hget2]
  clear hget1 hget2
  have HW := Kept.mk hwas
  have HWN := Kept.mk hwn
  have HC1 := Kept.mk hcell
  have HC2 := Kept.mk hcell2
  have hb0 : Below w.heap.size w ((w.alloc (.cells #[.slice (some ⟨b, off, none⟩) F.pages.length cap, .slice (some ⟨b2, off2, none⟩) F.wear.length cap2, .int .i64 F.fuse, strC F.torn, .bool F.dead] 25)).alloc (.cells #[.slice none 0 0, .slice none 0 0, .int .i64 0, .string ⟨#[]⟩, .bool false] 25)) := ((Below.refl _ _).alloc (Nat.le_refl _) _).alloc (by simp) _
  have HP := Kept.mk hp
  have HQ := Kept.mk hq
  have HB0 := Kept.mk hb0
  clear hp hq hb0 hc hc2 hcell hcell2 hwas hwn hpg hwr
  go_enter Try.func19, Try.ntmps19
  go_wp2_with fail
  refine (copied_any F _ _ ⟨.slice (some ⟨b, off, none⟩) F.pages.length cap, .slice (some ⟨b2, off2, none⟩) F.wear.length cap2, rfl, stable_cells _ _ _ _ HP.out HB0.out, stable_cells _ _ _ _ HQ.out HB0.out⟩ (by omega) (by omega)).mono ?_
  rintro e w1 ⟨vp', vw', rfl, ho1, ho2, hb1⟩
  have TI0 := Kept.mk (ti_start F w w1 (.slice (some ⟨b, off, none⟩) F.pages.length cap) (.slice (some ⟨b2, off2, none⟩) F.wear.length cap2) vp' vw' HP.out HQ.out hb1 ho1 ho2)
  have HC8 := Kept.mk (cells5_new w1 25 (.slice none 0 0) (.slice none 0 0) (.int .i64 0) (.string ⟨#[]⟩) (.bool false))
  have HF8 := Kept.mk (free5_new w1 #[.slice none 0 0, .slice none 0 0, .int .i64 0, .string ⟨#[]⟩, .bool false] 25)
  have oo1 := (ho1.one).2
  have oo2 := (ho2.one).2
  clear ho1 ho2 hb1 HB0
  have b3 := TI0.out.c3
  obtain ⟨_, b0, b1, b2, b3, b4⟩ := b3
  go_wp2_with (refine wpList_store5 rfl (.tmp 10) (.tmp 13) rfl w1.heap.size vp' vw' (.int .i64 F.fuse) (strC F.torn) (.bool F.dead) rfl rfl HC8.out HF8.out oo1 oo2 rfl rfl rfl ?_)
  have T := TI0.out
  clear TI0 HC8 HF8 b0 b1 b2 b3 b4
  generalize set5 (w1.alloc (.cells #[.slice none 0 0, .slice none 0 0, .int .i64 0, .string ⟨#[]⟩, .bool false] 25)) w1.heap.size vp' vw' (.int .i64 F.fuse) (strC F.torn) (.bool F.dead) = W at *
  generalize w1.heap.size = g8 at *
  refine (hasPage_any F (k : Int) _ _ T.fl (by omega) (by omega)).mono ?_
  rintro e W2 ⟨rfl, hbT⟩
  replace T := T.grow hbT
  clear hbT
  rewrite [HH.out]
  obtain ⟨o0, o1, o2, o3, o4, c6⟩ := T.c6
  have HC6 := Kept.mk c6
  have HF6 := Kept.mk T.f6
  obtain ⟨hfl, hB5, hr5⟩ := ti_end T
  have HFL := Kept.mk hfl
  have HR5 := Kept.mk hr5
  have HB5 := Kept.mk hB5
  obtain ⟨_, k0, k1, k2, k3, k4⟩ := T.c8
  clear T c6 hfl hr5 hB5
  go_wp2_with (refine wpList_store5 rfl (.tmp 8) (.tmp 35) rfl (w.heap.size + 1) _ _ _ _ _ rfl rfl HC6.out HF6.out oo1 oo2 rfl rfl rfl ?_)
  exact bodyPost_ret (results2 rfl _ _ (w.heap.size + 1) _ _ _ _ _ (.int .i64 1) rfl rfl HR5.out) rfl ⟨_, rfl, HFL.out, HB5.out⟩

set_option maxRecDepth 100000 in
set_option maxHeartbeats 2000000 in
theorem rot_no3 (F : Fl) (turn : List UInt8) (v : Value) (w : World) (hv : isFl F v w) (hs : turn.length ≤ 1000000) (k : Nat) (at_ : Int) (hhas : hasB F (k : Int) = true) (hl : turn.length ≤ 4) (hfits : (decide (0 ≤ at_) && decide (at_ ≤ ((F.pages.getD k []).length : Int) - (turn.length : Int))) = false) :
    Calls Try.prog 19 #[v, .int .i64 (k : Int), .int .i64 at_, .string ⟨turn.toArray⟩] w fun e w' => ∃ v', e = .returned (.tuple #[v', .int .i64 1]) ∧ isFlN w.heap.size F v' w' ∧ Below w.heap.size w w' := by
  have hsz : (⟨turn.toArray⟩ : ByteArray).size = turn.length := size_mk turn
  have HH := Kept.mk hhas
  have hlong : decide (4 < (turn.length : Int)) = false := by simp; omega
  have HHF := Kept.mk (has_facts F k hhas)
  obtain ⟨hk, h6, hwl, htl, hpg, hwr⟩ := HHF.out
  obtain ⟨was, hwas⟩ : ∃ was, F.pages[k]? = some was := ⟨_, List.getElem?_eq_getElem hk⟩
  obtain ⟨wn, hwn⟩ : ∃ wn, F.wear[k]? = some wn := ⟨_, List.getElem?_eq_getElem (by omega)⟩
  have hwm : was.length ≤ 8192 := (hpg _ (List.mem_of_getElem? hwas)).2.1
  have hn01 := hwr wn (List.mem_of_getElem? hwn)
  obtain ⟨vp, vw, rfl, hp, hq⟩ := hv
  obtain ⟨b, off, cap, hvp, hb, hc⟩ := hp.some_ (by rw [List.length_map]; omega)
  obtain ⟨b2, off2, cap2, hvw, hb2, hc2⟩ := hq.some_ (by rw [List.length_map]; omega)
  rw [List.length_map] at hvp hvw
  subst hvp hvw
  have hcell : w.cell? ⟨b, off + k, none⟩ = some (.string ⟨was.toArray⟩) := hc k _ (by simp [hwas, strC])
  have hcell2 : w.cell? ⟨b2, off2 + k, none⟩ = some (.int .i64 wn) := hc2 k _ (by simp [hwn, intC])
  have hkw : k < F.wear.length := by omega
  have hwl6 : F.wear.length ≤ 6 := by omega
  have HWL := Kept.mk hwl
  clear hwl
  have hget1 : F.pages.getD k [] = was := by simp [List.getD_eq_getElem?_getD, hwas]
  have hget2 : F.wear.getD k 0 = wn := by simp [List.getD_eq_getElem?_getD, hwn]
  try rw [hget1]
  try rw [hget2]
  have hfit : (decide (0 ≤ at_) && decide (at_ ≤ (was.length : Int) - (turn.length : Int))) = false := by rw [← hget1]; exact hfits
  have HFIT := Kept.mk hfit
  clear hget1 hget2 hfits hfit
  have HW := Kept.mk hwas
  have HWN := Kept.mk hwn
  have HC1 := Kept.mk hcell
  have HC2 := Kept.mk hcell2
  have hb0 : Below w.heap.size w ((w.alloc (.cells #[.slice (some ⟨b, off, none⟩) F.pages.length cap, .slice (some ⟨b2, off2, none⟩) F.wear.length cap2, .int .i64 F.fuse, strC F.torn, .bool F.dead] 25)).alloc (.cells #[.slice none 0 0, .slice none 0 0, .int .i64 0, .string ⟨#[]⟩, .bool false] 25)) := ((Below.refl _ _).alloc (Nat.le_refl _) _).alloc (by simp) _
  have HP := Kept.mk hp
  have HQ := Kept.mk hq
  have HB0 := Kept.mk hb0
  clear hp hq hb0 hc hc2 hcell hcell2 hwas hwn hpg hwr
  go_enter Try.func19, Try.ntmps19
  go_wp2_with fail
  refine (copied_any F _ _ ⟨.slice (some ⟨b, off, none⟩) F.pages.length cap, .slice (some ⟨b2, off2, none⟩) F.wear.length cap2, rfl, stable_cells _ _ _ _ HP.out HB0.out, stable_cells _ _ _ _ HQ.out HB0.out⟩ (by omega) (by omega)).mono ?_
  rintro e w1 ⟨vp', vw', rfl, ho1, ho2, hb1⟩
  have TI0 := Kept.mk (ti_start F w w1 (.slice (some ⟨b, off, none⟩) F.pages.length cap) (.slice (some ⟨b2, off2, none⟩) F.wear.length cap2) vp' vw' HP.out HQ.out hb1 ho1 ho2)
  have HC8 := Kept.mk (cells5_new w1 25 (.slice none 0 0) (.slice none 0 0) (.int .i64 0) (.string ⟨#[]⟩) (.bool false))
  have HF8 := Kept.mk (free5_new w1 #[.slice none 0 0, .slice none 0 0, .int .i64 0, .string ⟨#[]⟩, .bool false] 25)
  have oo1 := (ho1.one).2
  have oo2 := (ho2.one).2
  clear ho1 ho2 hb1 HB0
  have b3 := TI0.out.c3
  obtain ⟨_, b0, b1, b2, b3, b4⟩ := b3
  go_wp2_with (refine wpList_store5 rfl (.tmp 10) (.tmp 13) rfl w1.heap.size vp' vw' (.int .i64 F.fuse) (strC F.torn) (.bool F.dead) rfl rfl HC8.out HF8.out oo1 oo2 rfl rfl rfl ?_)
  have T := TI0.out
  clear TI0 HC8 HF8 b0 b1 b2 b3 b4
  generalize set5 (w1.alloc (.cells #[.slice none 0 0, .slice none 0 0, .int .i64 0, .string ⟨#[]⟩, .bool false] 25)) w1.heap.size vp' vw' (.int .i64 F.fuse) (strC F.torn) (.bool F.dead) = W at *
  generalize w1.heap.size = g8 at *
  refine (hasPage_any F (k : Int) _ _ T.fl (by omega) (by omega)).mono ?_
  rintro e W2 ⟨rfl, hbT⟩
  replace T := T.grow hbT
  clear hbT
  rewrite [HH.out]
  have a0 := T.c3.2.1
  have bw := (T.below.cell (p := ⟨b, off + k, none⟩) hb).trans HC1.out
  have hwz : (⟨was.toArray⟩ : ByteArray).size = was.length := size_mk was
  go_wp2_with fail
  refine (stands_any turn at_ was.length _ (by omega) (by omega) (by omega)).mono ?_
  rintro e W2' ⟨rfl, rfl⟩
  rewrite [HFIT.out]
  clear a0 bw
  obtain ⟨o0, o1, o2, o3, o4, c6⟩ := T.c6
  have HC6 := Kept.mk c6
  have HF6 := Kept.mk T.f6
  obtain ⟨hfl, hB5, hr5⟩ := ti_end T
  have HFL := Kept.mk hfl
  have HR5 := Kept.mk hr5
  have HB5 := Kept.mk hB5
  obtain ⟨_, k0, k1, k2, k3, k4⟩ := T.c8
  clear T c6 hfl hr5 hB5
  go_wp2_with (refine wpList_store5 rfl (.tmp 8) (.tmp 35) rfl (w.heap.size + 1) _ _ _ _ _ rfl rfl HC6.out HF6.out oo1 oo2 rfl rfl rfl ?_)
  exact bodyPost_ret (results2 rfl _ _ (w.heap.size + 1) _ _ _ _ _ (.int .i64 1) rfl rfl HR5.out) rfl ⟨_, rfl, HFL.out, HB5.out⟩

set_option maxRecDepth 100000 in
set_option maxHeartbeats 2000000 in
theorem rot_yes (F : Fl) (turn : List UInt8) (v : Value) (w : World) (hv : isFl F v w) (hs : turn.length ≤ 1000000) (k at_ : Nat) (hhas : hasB F (k : Int) = true) (hl : turn.length ≤ 4) (hat : at_ + turn.length ≤ (F.pages.getD k []).length) :
    Calls Try.prog 19 #[v, .int .i64 (k : Int), .int .i64 (at_ : Int), .string ⟨turn.toArray⟩] w fun e w' => ∃ v', e = .returned (.tuple #[v', .int .i64 0]) ∧ isFlN w.heap.size { F with pages := F.pages.set k (rotL (F.pages.getD k []) at_ turn) } v' w' ∧ Below w.heap.size w w' := by
  have hsz : (⟨turn.toArray⟩ : ByteArray).size = turn.length := size_mk turn
  have HH := Kept.mk hhas
  have hlong : decide (4 < (turn.length : Int)) = false := by simp; omega
  have HHF := Kept.mk (has_facts F k hhas)
  obtain ⟨hk, h6, hwl, htl, hpg, hwr⟩ := HHF.out
  obtain ⟨was, hwas⟩ : ∃ was, F.pages[k]? = some was := ⟨_, List.getElem?_eq_getElem hk⟩
  obtain ⟨wn, hwn⟩ : ∃ wn, F.wear[k]? = some wn := ⟨_, List.getElem?_eq_getElem (by omega)⟩
  have hwm : was.length ≤ 8192 := (hpg _ (List.mem_of_getElem? hwas)).2.1
  have hn01 := hwr wn (List.mem_of_getElem? hwn)
  obtain ⟨vp, vw, rfl, hp, hq⟩ := hv
  obtain ⟨b, off, cap, hvp, hb, hc⟩ := hp.some_ (by rw [List.length_map]; omega)
  obtain ⟨b2, off2, cap2, hvw, hb2, hc2⟩ := hq.some_ (by rw [List.length_map]; omega)
  rw [List.length_map] at hvp hvw
  subst hvp hvw
  have hcell : w.cell? ⟨b, off + k, none⟩ = some (.string ⟨was.toArray⟩) := hc k _ (by simp [hwas, strC])
  have hcell2 : w.cell? ⟨b2, off2 + k, none⟩ = some (.int .i64 wn) := hc2 k _ (by simp [hwn, intC])
  have hkw : k < F.wear.length := by omega
  have hwl6 : F.wear.length ≤ 6 := by omega
  have HWL := Kept.mk hwl
  clear hwl
  have hget1 : F.pages.getD k [] = was := by simp [List.getD_eq_getElem?_getD, hwas]
  have hget2 : F.wear.getD k 0 = wn := by simp [List.getD_eq_getElem?_getD, hwn]
  try rw [hget1]
  try rw [hget2]
  have hatw : at_ + turn.length ≤ was.length := by rw [← hget1]; exact hat
  have hfit : (decide (0 ≤ (at_ : Int)) && decide ((at_ : Int) ≤ (was.length : Int) - (turn.length : Int))) = true := by simp; omega
  have HFIT := Kept.mk hfit
  clear hget1 hget2 hat hfit
  have HW := Kept.mk hwas
  have HWN := Kept.mk hwn
  have HC1 := Kept.mk hcell
  have HC2 := Kept.mk hcell2
  have hb0 : Below w.heap.size w ((w.alloc (.cells #[.slice (some ⟨b, off, none⟩) F.pages.length cap, .slice (some ⟨b2, off2, none⟩) F.wear.length cap2, .int .i64 F.fuse, strC F.torn, .bool F.dead] 25)).alloc (.cells #[.slice none 0 0, .slice none 0 0, .int .i64 0, .string ⟨#[]⟩, .bool false] 25)) := ((Below.refl _ _).alloc (Nat.le_refl _) _).alloc (by simp) _
  have HP := Kept.mk hp
  have HQ := Kept.mk hq
  have HB0 := Kept.mk hb0
  clear hp hq hb0 hc hc2 hcell hcell2 hwas hwn hpg hwr
  go_enter Try.func19, Try.ntmps19
  go_wp2_with fail
  refine (copied_any F _ _ ⟨.slice (some ⟨b, off, none⟩) F.pages.length cap, .slice (some ⟨b2, off2, none⟩) F.wear.length cap2, rfl, stable_cells _ _ _ _ HP.out HB0.out, stable_cells _ _ _ _ HQ.out HB0.out⟩ (by omega) (by omega)).mono ?_
  rintro e w1 ⟨vp', vw', rfl, ho1, ho2, hb1⟩
  have TI0 := Kept.mk (ti_start F w w1 (.slice (some ⟨b, off, none⟩) F.pages.length cap) (.slice (some ⟨b2, off2, none⟩) F.wear.length cap2) vp' vw' HP.out HQ.out hb1 ho1 ho2)
  have HC8 := Kept.mk (cells5_new w1 25 (.slice none 0 0) (.slice none 0 0) (.int .i64 0) (.string ⟨#[]⟩) (.bool false))
  have HF8 := Kept.mk (free5_new w1 #[.slice none 0 0, .slice none 0 0, .int .i64 0, .string ⟨#[]⟩, .bool false] 25)
  have oo1 := (ho1.one).2
  have oo2 := (ho2.one).2
  clear ho1 ho2 hb1 HB0
  have b3 := TI0.out.c3
  obtain ⟨_, b0, b1, b2, b3, b4⟩ := b3
  go_wp2_with (refine wpList_store5 rfl (.tmp 10) (.tmp 13) rfl w1.heap.size vp' vw' (.int .i64 F.fuse) (strC F.torn) (.bool F.dead) rfl rfl HC8.out HF8.out oo1 oo2 rfl rfl rfl ?_)
  have T := TI0.out
  clear TI0 HC8 HF8 b0 b1 b2 b3 b4
  generalize set5 (w1.alloc (.cells #[.slice none 0 0, .slice none 0 0, .int .i64 0, .string ⟨#[]⟩, .bool false] 25)) w1.heap.size vp' vw' (.int .i64 F.fuse) (strC F.torn) (.bool F.dead) = W at *
  generalize w1.heap.size = g8 at *
  refine (hasPage_any F (k : Int) _ _ T.fl (by omega) (by omega)).mono ?_
  rintro e W2 ⟨rfl, hbT⟩
  replace T := T.grow hbT
  clear hbT
  rewrite [HH.out]
  have a0 := T.c3.2.1
  have bw := (T.below.cell (p := ⟨b, off + k, none⟩) hb).trans HC1.out
  have hwz : (⟨was.toArray⟩ : ByteArray).size = was.length := size_mk was
  go_wp2_with fail
  refine (stands_any turn at_ was.length _ (by omega) (by omega) (by omega)).mono ?_
  rintro e W2' ⟨rfl, rfl⟩
  rewrite [HFIT.out]
  obtain ⟨gp, capp, _, hvp, _⟩ := T.p'.some_ (by rw [List.length_map]; omega)
  rw [List.length_map] at hvp
  subst hvp
  go_wp2_with fail
  refine rot5 _ _ w _ rfl (w.heap.size + 2) g8 w.heap.size (w.heap.size + 1) g8 k gp F.pages.length capp at_ F F _ _ vw' was turn rfl rfl rfl rfl rfl T hk hk (by omega) (by omega) (by omega) ?_
  clear T a0 bw
  intro act W4 hdf hsz' hkeep T
  have hk8 : act.tmps.getD 8 undef = (.pointer (some ⟨w.heap.size + 1, 0, none⟩)) := hkeep 8 (by kernel_rfl)
  have hk10 : act.tmps.getD 10 undef = (.pointer (some ⟨g8, 0, none⟩)) := hkeep 10 (by kernel_rfl)
  obtain ⟨tm, df⟩ := act
  obtain rfl : df = [] := hdf
  clear hkeep
  obtain ⟨f, rfl, hk8, hk10⟩ : ∃ f : Nat → Value, tm = ((List.range 55).map f).toArray ∧ f 8 = (.pointer (some ⟨w.heap.size + 1, 0, none⟩)) ∧ f 10 = (.pointer (some ⟨g8, 0, none⟩)) := ⟨fun i => tm.getD i undef, arr_eta tm hsz', hk8, hk10⟩
  rewrite [show ((List.range 55).map f).toArray = #[f 0, f 1, f 2, f 3, f 4, f 5, f 6, f 7, f 8, f 9, f 10, f 11, f 12, f 13, f 14, f 15, f 16, f 17, f 18, f 19, f 20, f 21, f 22, f 23, f 24, f 25, f 26, f 27, f 28, f 29, f 30, f 31, f 32, f 33, f 34, f 35, f 36, f 37, f 38, f 39, f 40, f 41, f 42, f 43, f 44, f 45, f 46, f 47, f 48, f 49, f 50, f 51, f 52, f 53, f 54] from rfl]
  rewrite [hk8, hk10]
  dsimp only
  clear hsz' hk8 hk10
  obtain ⟨o0, o1, o2, o3, o4, c6⟩ := T.c6
  have HC6 := Kept.mk c6
  have HF6 := Kept.mk T.f6
  obtain ⟨hfl, hB5, hr5⟩ := ti_end T
  have HFL := Kept.mk hfl
  have HR5 := Kept.mk hr5
  have HB5 := Kept.mk hB5
  obtain ⟨_, k0, k1, k2, k3, k4⟩ := T.c8
  clear T c6 hfl hr5 hB5
  go_wp2_with (refine wpList_store5 rfl (.tmp 8) (.tmp 54) rfl (w.heap.size + 1) _ _ _ _ _ rfl rfl HC6.out HF6.out oo1 oo2 rfl rfl rfl ?_)
  exact bodyPost_ret (results2 rfl _ _ (w.heap.size + 1) _ _ _ _ _ (.int .i64 0) rfl rfl HR5.out) rfl ⟨_, rfl, HFL.out, HB5.out⟩
end Go.Proofs.Ytipiioggdalkoaa
