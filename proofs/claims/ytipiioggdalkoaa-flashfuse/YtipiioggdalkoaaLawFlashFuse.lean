/- A device does as many steps as its fuse, and dies in the next one; dead it does nothing (flash.Erase, Wake, Same). -/
import Derived.Test.YtipiioggdalkoaaFlWorks
import Derived.Test.YtipiioggdalkoaaFlFuseMath
import Derived.Test.YtipiioggdalkoaaFlOpen
import Derived.Test.YtipiioggdalkoaaFlVarN
import Derived.IntWalk
import Derived.SizedLaws
import Derived.ProofKit
import Derived.OpenShut
import Derived.ShutString
import Derived.ChangeOld
import Derived.Below
namespace Go.Proofs.Ytipiioggdalkoaa
open Go.ChangeShapes Go.WideShapes Go.ChangeAt Go.RowKit
open Go.ChangeMaps (open_string shut_string)
set_option linter.unusedVariables false
set_option linter.unusedSimpArgs false
attribute [local irreducible] set5
theorem isFl_congr {G H : Fl} {v : Value} {w : World} (h : G = H) (hf : isFl G v w) : isFl H v w := h ▸ hf
theorem isFlp {G : Fl} {vp vw f t d : Value} {w : World} (h : isFl G (.agg #[vp, vw, f, t, d]) w) : isCells (G.pages.map strC) vp w := by
  obtain ⟨a, b, e, h1, _⟩ := h
  injection e with e
  injection e with e
  injection e with e1 e
  subst e1
  exact h1

theorem conv_st (st : Int) (h0 : 0 ≤ st) (h1 : st ≤ 255) (w : World) : (convert 5 3 (.int .u8 st)).run Try.prog w = .ok (.int .i64 st) w := by
  have hw : IntKind.i64.wrap st = st := IntWalk.i64_in _ (by omega)
  simp [convert, run_underlying Try.underlying5, run_underlying Try.underlying3, hw, go_sem]
theorem rem_st (st sm : Int) (h : st % 20 = sm) (h0 : 0 ≤ st) (h1 : st ≤ 255) (w : World) : (binOp .rem 3 (.int .i64 st) (.int .i64 20)).run Try.prog w = .ok (.int .i64 sm) w := by
  have e : st.tmod 20 = sm := by rw [Int.tmod_eq_emod_of_nonneg h0]; exact h
  have hw : IntKind.i64.wrap sm = sm := IntWalk.i64_in _ (by omega)
  simp [binOp, e, hw, go_sem]
theorem add_i (x y : Int) (h0 : -4611686018427387904 ≤ x + y) (h1 : x + y ≤ 4611686018427387904) (w : World) : (binOp .add 3 (.int .i64 x) (.int .i64 y)).run Try.prog w = .ok (.int .i64 (x + y)) w := by
  have hw : IntKind.i64.wrap (x + y) = x + y := IntWalk.i64_in _ (by omega)
  simp [binOp, hw, go_sem]
noncomputable def fuse18 : Array Oper := regionOf Try.f7 18
set_option maxRecDepth 100000 in
set_option maxHeartbeats 4000000 in
theorem fuse_end (Q : Exit → Act → World → Prop) (a0 : Act) (w0 : World) (hsz : a0.tmps.size = 115) (gw gf b1 o1 m1 c1 b2 o2 m2 c2 k : Nat) (fz st sm mn x1 x2 : Int)
    (e9 : a0.tmps.getD 9 undef = .bool true) (e12 : a0.tmps.getD 12 undef = .pointer (some ⟨gw, 0, none⟩)) (e4 : a0.tmps.getD 4 undef = .pointer (some ⟨gf, 0, none⟩)) (e1 : a0.tmps.getD 1 undef = .int .i64 (k : Int)) (e11 : a0.tmps.getD 11 undef = .int .i64 fz) (e3 : a0.tmps.getD 3 undef = .int .u8 st)
    (cw : w0.cell? ⟨gw, 1, none⟩ = some (.slice (some ⟨b1, o1, none⟩) m1 c1)) (lw : gw < w0.heap.size) (cf : w0.cell? ⟨gf, 1, none⟩ = some (.slice (some ⟨b2, o2, none⟩) m2 c2)) (lf : gf < w0.heap.size) (hk1 : k < m1) (hk2 : k < m2)
    (p1 : w0.cell? ⟨b1, o1 + k, none⟩ = some (.int .i64 x1)) (lb1 : b1 < w0.heap.size) (p2 : w0.cell? ⟨b2, o2 + k, none⟩ = some (.int .i64 x2)) (lb2 : b2 < w0.heap.size)
    (hs0 : 0 ≤ st) (hs1 : st ≤ 255) (hsm : st % 20 = sm) (hmn : (if sm < fz then sm else fz) = mn) (hx0 : -4611686018427387904 ≤ x2 + mn) (hx1 : x2 + mn ≤ 4611686018427387904) (hx : (if (2147483647 : Int) < x2 + mn then 2147483647 else x2 + mn) = x1)
    (hQ : ∀ (a : Act) (w : World), a.defers = a0.defers → a.tmps.getD 8 undef = .bool true → Below w0.heap.size w0 w → Q .normal a w) :
    (Code.region 18 fuse18 true).wp Try.prog Q a0 w0 := by
  refine wp_region_flow mixed (by rw [hsz]; kernel_rfl) ?_
  rw [show fuse18.size = 22 by kernel_rfl]
  refine ⟨isVal (.bool true), step_move (.tmp 9) (by kernel_rfl) (wanted_none (by kernel_rfl)) (stable_val _) (knows_old 9 (.bool true) (by kernel_rfl) e9), ?_⟩
  refine ⟨isVal (.bool true), step_move (.tmp 94) (by kernel_rfl) (wanted_none (by kernel_rfl)) (stable_val _) (knows_new (V := isVal (.bool true)) 94 0 (by kernel_rfl) (by kernel_rfl) (by kernel_rfl)), ?_⟩
  refine ⟨isVal (.pointer (some ⟨gw, 1, none⟩)), step_field 25 (.tmp 12) 1 ⟨gw, 0, none⟩ ⟨gw, 1, none⟩ (by kernel_rfl) (wanted_some 1 95 true (by kernel_rfl) (by kernel_rfl) (by kernel_rfl) (by kernel_rfl)) (knows_old 12 (.pointer (some ⟨gw, 0, none⟩)) (by kernel_rfl) e12) (field_fl gw 1 (by omega)), ?_⟩
  refine ⟨isVal (.slice (some ⟨b1, o1, none⟩) m1 c1), step_read 23 (.tmp 96) ⟨gw, 1, none⟩ (.slice (some ⟨b1, o1, none⟩) m1 c1) (by kernel_rfl) (wanted_some 1 95 true (by kernel_rfl) (by kernel_rfl) (by kernel_rfl) (by kernel_rfl)) (knows_new (V := isVal (.pointer (some ⟨gw, 1, none⟩))) 96 2 (by kernel_rfl) (by kernel_rfl) (by kernel_rfl)) cw lw agg_ints, ?_⟩
  refine ⟨isVal (.int .i64 (k : Int)), step_move (.tmp 1) (by kernel_rfl) (wanted_some 1 95 true (by kernel_rfl) (by kernel_rfl) (by kernel_rfl) (by kernel_rfl)) (stable_val _) (knows_old 1 (.int .i64 (k : Int)) (by kernel_rfl) e1), ?_⟩
  refine ⟨isVal (.pointer (some ⟨b1, o1 + k, none⟩)), step_place 23 3 (.tmp 97) (.tmp 98) b1 o1 m1 c1 k (by kernel_rfl) (wanted_some 1 95 true (by kernel_rfl) (by kernel_rfl) (by kernel_rfl) (by kernel_rfl)) (knows_new (V := isVal (.slice (some ⟨b1, o1, none⟩) m1 c1)) 97 3 (by kernel_rfl) (by kernel_rfl) (by kernel_rfl)) (knows_new (V := isVal (.int .i64 (k : Int))) 98 4 (by kernel_rfl) (by kernel_rfl) (by kernel_rfl)) Try.underlying23 (by kernel_rfl) hk1, ?_⟩
  refine ⟨isVal (.int .i64 x1), step_read 3 (.tmp 99) ⟨b1, o1 + k, none⟩ (.int .i64 x1) (by kernel_rfl) (wanted_some 1 95 true (by kernel_rfl) (by kernel_rfl) (by kernel_rfl) (by kernel_rfl)) (knows_new (V := isVal (.pointer (some ⟨b1, o1 + k, none⟩))) 99 5 (by kernel_rfl) (by kernel_rfl) (by kernel_rfl)) p1 lb1 agg_int, ?_⟩
  refine ⟨isVal (.pointer (some ⟨gf, 1, none⟩)), step_field 25 (.tmp 4) 1 ⟨gf, 0, none⟩ ⟨gf, 1, none⟩ (by kernel_rfl) (wanted_some 1 95 true (by kernel_rfl) (by kernel_rfl) (by kernel_rfl) (by kernel_rfl)) (knows_old 4 (.pointer (some ⟨gf, 0, none⟩)) (by kernel_rfl) e4) (field_fl gf 1 (by omega)), ?_⟩
  refine ⟨isVal (.slice (some ⟨b2, o2, none⟩) m2 c2), step_read 23 (.tmp 101) ⟨gf, 1, none⟩ (.slice (some ⟨b2, o2, none⟩) m2 c2) (by kernel_rfl) (wanted_some 1 95 true (by kernel_rfl) (by kernel_rfl) (by kernel_rfl) (by kernel_rfl)) (knows_new (V := isVal (.pointer (some ⟨gf, 1, none⟩))) 101 7 (by kernel_rfl) (by kernel_rfl) (by kernel_rfl)) cf lf agg_ints, ?_⟩
  refine ⟨isVal (.int .i64 (k : Int)), step_move (.tmp 1) (by kernel_rfl) (wanted_some 1 95 true (by kernel_rfl) (by kernel_rfl) (by kernel_rfl) (by kernel_rfl)) (stable_val _) (knows_old 1 (.int .i64 (k : Int)) (by kernel_rfl) e1), ?_⟩
  refine ⟨isVal (.pointer (some ⟨b2, o2 + k, none⟩)), step_place 23 3 (.tmp 102) (.tmp 103) b2 o2 m2 c2 k (by kernel_rfl) (wanted_some 1 95 true (by kernel_rfl) (by kernel_rfl) (by kernel_rfl) (by kernel_rfl)) (knows_new (V := isVal (.slice (some ⟨b2, o2, none⟩) m2 c2)) 102 8 (by kernel_rfl) (by kernel_rfl) (by kernel_rfl)) (knows_new (V := isVal (.int .i64 (k : Int))) 103 9 (by kernel_rfl) (by kernel_rfl) (by kernel_rfl)) Try.underlying23 (by kernel_rfl) hk2, ?_⟩
  refine ⟨isVal (.int .i64 x2), step_read 3 (.tmp 104) ⟨b2, o2 + k, none⟩ (.int .i64 x2) (by kernel_rfl) (wanted_some 1 95 true (by kernel_rfl) (by kernel_rfl) (by kernel_rfl) (by kernel_rfl)) (knows_new (V := isVal (.pointer (some ⟨b2, o2 + k, none⟩))) 104 10 (by kernel_rfl) (by kernel_rfl) (by kernel_rfl)) p2 lb2 agg_int, ?_⟩
  refine ⟨isVal (.int .i64 fz), step_move (.tmp 11) (by kernel_rfl) (wanted_some 1 95 true (by kernel_rfl) (by kernel_rfl) (by kernel_rfl) (by kernel_rfl)) (stable_val _) (knows_old 11 (.int .i64 fz) (by kernel_rfl) e11), ?_⟩
  refine ⟨isVal (.int .u8 st), step_move (.tmp 3) (by kernel_rfl) (wanted_some 1 95 true (by kernel_rfl) (by kernel_rfl) (by kernel_rfl) (by kernel_rfl)) (stable_val _) (knows_old 3 (.int .u8 st) (by kernel_rfl) e3), ?_⟩
  refine ⟨isVal (.int .i64 st), step_conv 5 3 (.tmp 107) (.int .u8 st) (.int .i64 st) (by kernel_rfl) (wanted_some 1 95 true (by kernel_rfl) (by kernel_rfl) (by kernel_rfl) (by kernel_rfl)) (knows_new (V := isVal (.int .u8 st)) 107 13 (by kernel_rfl) (by kernel_rfl) (by kernel_rfl)) (fun w => conv_st st hs0 hs1 w), ?_⟩
  refine ⟨isVal (.int .i64 sm), step_bin .rem 3 3 (.tmp 108) (.const (.int .i64 20)) (.int .i64 st) (.int .i64 20) (.int .i64 sm) (by kernel_rfl) (wanted_some 1 95 true (by kernel_rfl) (by kernel_rfl) (by kernel_rfl) (by kernel_rfl)) (knows_new (V := isVal (.int .i64 st)) 108 14 (by kernel_rfl) (by kernel_rfl) (by kernel_rfl)) (knows_const _) (fun _ => rfl) (fun w => rem_st st sm hsm hs0 hs1 w), ?_⟩
  refine ⟨isVal (.int .i64 mn), step_min .i64 3 3 (.tmp 106) (.tmp 109) fz sm mn (by kernel_rfl) (wanted_some 1 95 true (by kernel_rfl) (by kernel_rfl) (by kernel_rfl) (by kernel_rfl)) (knows_new (V := isVal (.int .i64 fz)) 106 12 (by kernel_rfl) (by kernel_rfl) (by kernel_rfl)) (knows_new (V := isVal (.int .i64 sm)) 109 15 (by kernel_rfl) (by kernel_rfl) (by kernel_rfl)) hmn, ?_⟩
  refine ⟨isVal (.int .i64 (x2 + mn)), step_bin .add 3 3 (.tmp 105) (.tmp 110) (.int .i64 x2) (.int .i64 mn) (.int .i64 (x2 + mn)) (by kernel_rfl) (wanted_some 1 95 true (by kernel_rfl) (by kernel_rfl) (by kernel_rfl) (by kernel_rfl)) (knows_new (V := isVal (.int .i64 x2)) 105 11 (by kernel_rfl) (by kernel_rfl) (by kernel_rfl)) (knows_new (V := isVal (.int .i64 mn)) 110 16 (by kernel_rfl) (by kernel_rfl) (by kernel_rfl)) (fun _ => rfl) (fun w => add_i x2 mn hx0 hx1 w), ?_⟩
  refine ⟨isVal (.int .i64 x1), step_min .i64 3 3 (.tmp 111) (.const (.int .i64 2147483647)) (x2 + mn) 2147483647 x1 (by kernel_rfl) (wanted_some 1 95 true (by kernel_rfl) (by kernel_rfl) (by kernel_rfl) (by kernel_rfl)) (knows_new (V := isVal (.int .i64 (x2 + mn))) 111 17 (by kernel_rfl) (by kernel_rfl) (by kernel_rfl)) (knows_const _) hx, ?_⟩
  refine ⟨isVal (.bool true), step_bin .eql 3 3 (.tmp 100) (.tmp 112) (.int .i64 x1) (.int .i64 x1) (.bool true) (by kernel_rfl) (wanted_some 1 95 true (by kernel_rfl) (by kernel_rfl) (by kernel_rfl) (by kernel_rfl)) (knows_new (V := isVal (.int .i64 x1)) 100 6 (by kernel_rfl) (by kernel_rfl) (by kernel_rfl)) (knows_new (V := isVal (.int .i64 x1)) 112 18 (by kernel_rfl) (by kernel_rfl) (by kernel_rfl)) (fun _ => rfl) (eql_int _ _ _ _ _ (by simp)), ?_⟩
  refine ⟨isVal (.bool true), step_pick (.tmp 95) (.tmp 113) (.const (.bool false)) true (by kernel_rfl) (wanted_none (by kernel_rfl)) (stable_val _) (knows_new (V := isVal (.bool true)) 95 1 (by kernel_rfl) (by kernel_rfl) (by kernel_rfl)) (knows_new (V := isVal (.bool true)) 113 19 (by kernel_rfl) (by kernel_rfl) (by kernel_rfl)), ?_⟩
  refine ⟨isVal (.bool true), step_assign (.tmp 114) (by kernel_rfl) (wanted_none (by kernel_rfl)) (stable_val _) (knows_new (V := isVal (.bool true)) 114 20 (by kernel_rfl) (by kernel_rfl) (by kernel_rfl)), ?_⟩
  intro a w hkp hb hd
  exact hQ a w hkp.1 (fdone_of (hd 21 (by rw [show fuse18.size = 22 by kernel_rfl]; decide)) (t := 8) (V := isVal (.bool true)) (by kernel_rfl) (by kernel_rfl)) hb
set_option maxRecDepth 100000 in
set_option maxHeartbeats 4000000 in
theorem flashFuse_1 (F : Fl) (v : Value) (page fz st : Int) (w : World) (hv : isFl F v w) (z0 : 0 ≤ fz) (z1 : fz ≤ 255) (z2 : 0 ≤ st) (z3 : st ≤ 255) (W : Fl) (ew : Int) (hfew : fewB F = false) (H1 : Kept (∀ (v : Value) (w : World), isFl F v w → Calls Try.prog 17 #[v, .int .i64 (fz % 12), .string ⟨#[]⟩] w fun e w' => ∃ v', e = .returned (.tuple #[v', .int .i64 ew]) ∧ isFlN w.heap.size W v' w' ∧ Below w.heap.size w w')) :
    Calls Try.prog 7 #[v, .int .i64 page, .int .u8 fz, .int .u8 st] w fun e w' => e = .returned (.bool true) ∧ Below w.heap.size w w' := by
  obtain ⟨vp, vw, rfl, hp, hq⟩ := hv
  have HF := Kept.mk hfew
  clear hfew
  obtain ⟨hB, Vf⟩ := var_box w F vp vw hp hq
  clear hp hq
  go_enter Try.func7, Try.ntmps7
  go_wp2_with fail
  ((with_reducible refine (works_any _).mono ?_); rintro e W1 ⟨rfl, hb1⟩)
  replace hB := Kept.mk (hB.out.trans ((hb1).mono hB.out.size))
  replace Vf := Kept.mk (Vf.out.keep (hb1))
  clear hb1
  obtain ⟨vpf, vwf, flf, kf0, kf1, kf2, kf3, kf4⟩ := Vf.out.open_
  go_wp2_with fail
  ((with_reducible refine (few_any F _ _ flf).mono ?_); rintro e W2 ⟨rfl, hb1⟩)
  clear kf0 kf1 kf2 kf3 kf4 flf
  replace hB := Kept.mk (hB.out.trans ((hb1).mono hB.out.size))
  replace Vf := Kept.mk (Vf.out.keep (hb1))
  clear hb1
  obtain ⟨vpf, vwf, flf, kf0, kf1, kf2, kf3, kf4⟩ := Vf.out.open_
  rw [HF.out]
  go_wp2_with fail
  ((with_reducible refine (H1.out _ _ flf).mono ?_); rintro e U ⟨v', rfl, hf', hb1⟩)
  obtain ⟨vp', vw', rfl, hp', hq'⟩ := hf'.fl
  have o1 := hp'.one
  have o2 := hq'.one
  obtain ⟨K1, K2, K3, K4⟩ := var_new U W vp' vw' hp' hq'
  clear hp' hq' hf'
  clear kf0 kf1 kf2 kf3 kf4 flf
  replace hB := Kept.mk (hB.out.trans ((hb1).mono hB.out.size))
  replace Vf := Kept.mk (Vf.out.keep (hb1))
  clear hb1
  go_wp2_with (refine wpList_store5 rfl (.tmp 12) (.tmp 29) rfl U.heap.size vp' vw' (.int .i64 W.fuse) (strC W.torn) (.bool W.dead) rfl rfl K1.out K2.out o1 o2 rfl rfl rfl ?_; replace hB := Kept.mk (hB.out.trans ((K3.out).mono hB.out.size)); replace Vf := Kept.mk (Vf.out.keep (K3.out)); have Vw := K4; clear K1 K2 K3 K4 o1 o2; generalize set5 (U.alloc (.cells #[.slice none 0 0, .slice none 0 0, .int .i64 0, .string ⟨#[]⟩, .bool false] 25)) U.heap.size vp' vw' (.int .i64 W.fuse) (strC W.torn) (.bool W.dead) = W3 at *; generalize U.heap.size = gw at *)
  go_wp2
  go_ret
  exact ⟨rfl, hB.out⟩
set_option maxRecDepth 100000 in
set_option maxHeartbeats 4000000 in
theorem flashFuse_2 (F : Fl) (v : Value) (page fz st : Int) (w : World) (hv : isFl F v w) (z0 : 0 ≤ fz) (z1 : fz ≤ 255) (z2 : 0 ≤ st) (z3 : st ≤ 255) (W : Fl) (hfew : fewB F = true) (H1 : Kept (∀ (v : Value) (w : World), isFl F v w → Calls Try.prog 17 #[v, .int .i64 (fz % 12), .string ⟨#[]⟩] w fun e w' => ∃ v', e = .returned (.tuple #[v', .int .i64 1]) ∧ isFlN w.heap.size W v' w' ∧ Below w.heap.size w w')) :
    Calls Try.prog 7 #[v, .int .i64 page, .int .u8 fz, .int .u8 st] w fun e w' => e = .returned (.bool true) ∧ Below w.heap.size w w' := by
  obtain ⟨vp, vw, rfl, hp, hq⟩ := hv
  have HF := Kept.mk hfew
  clear hfew
  obtain ⟨hB, Vf⟩ := var_box w F vp vw hp hq
  clear hp hq
  go_enter Try.func7, Try.ntmps7
  go_wp2_with fail
  ((with_reducible refine (works_any _).mono ?_); rintro e W1 ⟨rfl, hb1⟩)
  replace hB := Kept.mk (hB.out.trans ((hb1).mono hB.out.size))
  replace Vf := Kept.mk (Vf.out.keep (hb1))
  clear hb1
  obtain ⟨vpf, vwf, flf, kf0, kf1, kf2, kf3, kf4⟩ := Vf.out.open_
  go_wp2_with fail
  ((with_reducible refine (few_any F _ _ flf).mono ?_); rintro e W2 ⟨rfl, hb1⟩)
  clear kf0 kf1 kf2 kf3 kf4 flf
  replace hB := Kept.mk (hB.out.trans ((hb1).mono hB.out.size))
  replace Vf := Kept.mk (Vf.out.keep (hb1))
  clear hb1
  obtain ⟨vpf, vwf, flf, kf0, kf1, kf2, kf3, kf4⟩ := Vf.out.open_
  rw [HF.out]
  go_wp2_with fail
  ((with_reducible refine (H1.out _ _ flf).mono ?_); rintro e U ⟨v', rfl, hf', hb1⟩)
  obtain ⟨vp', vw', rfl, hp', hq'⟩ := hf'.fl
  have o1 := hp'.one
  have o2 := hq'.one
  obtain ⟨K1, K2, K3, K4⟩ := var_new U W vp' vw' hp' hq'
  clear hp' hq' hf'
  clear kf0 kf1 kf2 kf3 kf4 flf
  replace hB := Kept.mk (hB.out.trans ((hb1).mono hB.out.size))
  replace Vf := Kept.mk (Vf.out.keep (hb1))
  clear hb1
  go_wp2_with (refine wpList_store5 rfl (.tmp 12) (.tmp 29) rfl U.heap.size vp' vw' (.int .i64 W.fuse) (strC W.torn) (.bool W.dead) rfl rfl K1.out K2.out o1 o2 rfl rfl rfl ?_; replace hB := Kept.mk (hB.out.trans ((K3.out).mono hB.out.size)); replace Vf := Kept.mk (Vf.out.keep (K3.out)); have Vw := K4; clear K1 K2 K3 K4 o1 o2; generalize set5 (U.alloc (.cells #[.slice none 0 0, .slice none 0 0, .int .i64 0, .string ⟨#[]⟩, .bool false] 25)) U.heap.size vp' vw' (.int .i64 W.fuse) (strC W.torn) (.bool W.dead) = W3 at *; generalize U.heap.size = gw at *)
  go_wp2
  go_ret
  exact ⟨rfl, hB.out⟩
set_option maxRecDepth 100000 in
set_option maxHeartbeats 4000000 in
theorem flashFuse_3 (F : Fl) (v : Value) (page fz st : Int) (w : World) (hv : isFl F v w) (z0 : 0 ≤ fz) (z1 : fz ≤ 255) (z2 : 0 ≤ st) (z3 : st ≤ 255) (W : Fl) (hfew : fewB F = true) (hp0 : page < 0) (H1 : Kept (∀ (v : Value) (w : World), isFl F v w → Calls Try.prog 17 #[v, .int .i64 (fz % 12), .string ⟨#[]⟩] w fun e w' => ∃ v', e = .returned (.tuple #[v', .int .i64 0]) ∧ isFlN w.heap.size W v' w' ∧ Below w.heap.size w w')) :
    Calls Try.prog 7 #[v, .int .i64 page, .int .u8 fz, .int .u8 st] w fun e w' => e = .returned (.bool true) ∧ Below w.heap.size w w' := by
  obtain ⟨vp, vw, rfl, hp, hq⟩ := hv
  have HF := Kept.mk hfew
  clear hfew
  have d0 : decide (page < 0) = true := by simpa using hp0
  obtain ⟨hB, Vf⟩ := var_box w F vp vw hp hq
  clear hp hq
  go_enter Try.func7, Try.ntmps7
  go_wp2_with fail
  ((with_reducible refine (works_any _).mono ?_); rintro e W1 ⟨rfl, hb1⟩)
  replace hB := Kept.mk (hB.out.trans ((hb1).mono hB.out.size))
  replace Vf := Kept.mk (Vf.out.keep (hb1))
  clear hb1
  obtain ⟨vpf, vwf, flf, kf0, kf1, kf2, kf3, kf4⟩ := Vf.out.open_
  go_wp2_with fail
  ((with_reducible refine (few_any F _ _ flf).mono ?_); rintro e W2 ⟨rfl, hb1⟩)
  clear kf0 kf1 kf2 kf3 kf4 flf
  replace hB := Kept.mk (hB.out.trans ((hb1).mono hB.out.size))
  replace Vf := Kept.mk (Vf.out.keep (hb1))
  clear hb1
  obtain ⟨vpf, vwf, flf, kf0, kf1, kf2, kf3, kf4⟩ := Vf.out.open_
  rw [HF.out]
  go_wp2_with fail
  ((with_reducible refine (H1.out _ _ flf).mono ?_); rintro e U ⟨v', rfl, hf', hb1⟩)
  obtain ⟨vp', vw', rfl, hp', hq'⟩ := hf'.fl
  have o1 := hp'.one
  have o2 := hq'.one
  obtain ⟨K1, K2, K3, K4⟩ := var_new U W vp' vw' hp' hq'
  clear hp' hq' hf'
  clear kf0 kf1 kf2 kf3 kf4 flf
  replace hB := Kept.mk (hB.out.trans ((hb1).mono hB.out.size))
  replace Vf := Kept.mk (Vf.out.keep (hb1))
  clear hb1
  go_wp2_with (refine wpList_store5 rfl (.tmp 12) (.tmp 29) rfl U.heap.size vp' vw' (.int .i64 W.fuse) (strC W.torn) (.bool W.dead) rfl rfl K1.out K2.out o1 o2 rfl rfl rfl ?_; replace hB := Kept.mk (hB.out.trans ((K3.out).mono hB.out.size)); replace Vf := Kept.mk (Vf.out.keep (K3.out)); have Vw := K4; clear K1 K2 K3 K4 o1 o2; generalize set5 (U.alloc (.cells #[.slice none 0 0, .slice none 0 0, .int .i64 0, .string ⟨#[]⟩, .bool false] 25)) U.heap.size vp' vw' (.int .i64 W.fuse) (strC W.torn) (.bool W.dead) = W3 at *; generalize U.heap.size = gw at *)
  go_wp2
  go_ret
  exact ⟨rfl, hB.out⟩
set_option maxRecDepth 100000 in
set_option maxHeartbeats 4000000 in
theorem flashFuse_4 (F : Fl) (v : Value) (page fz st : Int) (w : World) (hv : isFl F v w) (z0 : 0 ≤ fz) (z1 : fz ≤ 255) (z2 : 0 ≤ st) (z3 : st ≤ 255) (W : Fl) (hfew : fewB F = true) (hp0 : 0 ≤ page) (hp1 : (F.pages.length : Int) ≤ page) (H1 : Kept (∀ (v : Value) (w : World), isFl F v w → Calls Try.prog 17 #[v, .int .i64 (fz % 12), .string ⟨#[]⟩] w fun e w' => ∃ v', e = .returned (.tuple #[v', .int .i64 0]) ∧ isFlN w.heap.size W v' w' ∧ Below w.heap.size w w')) :
    Calls Try.prog 7 #[v, .int .i64 page, .int .u8 fz, .int .u8 st] w fun e w' => e = .returned (.bool true) ∧ Below w.heap.size w w' := by
  obtain ⟨vp, vw, rfl, hp, hq⟩ := hv
  have HF := Kept.mk hfew
  clear hfew
  have d0 : decide (page < 0) = false := by simp; omega
  have d1 : decide ((F.pages.length : Int) ≤ page) = true := by simpa using hp1
  obtain ⟨hB, Vf⟩ := var_box w F vp vw hp hq
  clear hp hq
  go_enter Try.func7, Try.ntmps7
  go_wp2_with fail
  ((with_reducible refine (works_any _).mono ?_); rintro e W1 ⟨rfl, hb1⟩)
  replace hB := Kept.mk (hB.out.trans ((hb1).mono hB.out.size))
  replace Vf := Kept.mk (Vf.out.keep (hb1))
  clear hb1
  obtain ⟨vpf, vwf, flf, kf0, kf1, kf2, kf3, kf4⟩ := Vf.out.open_
  go_wp2_with fail
  ((with_reducible refine (few_any F _ _ flf).mono ?_); rintro e W2 ⟨rfl, hb1⟩)
  clear kf0 kf1 kf2 kf3 kf4 flf
  replace hB := Kept.mk (hB.out.trans ((hb1).mono hB.out.size))
  replace Vf := Kept.mk (Vf.out.keep (hb1))
  clear hb1
  obtain ⟨vpf, vwf, flf, kf0, kf1, kf2, kf3, kf4⟩ := Vf.out.open_
  rw [HF.out]
  go_wp2_with fail
  ((with_reducible refine (H1.out _ _ flf).mono ?_); rintro e U ⟨v', rfl, hf', hb1⟩)
  obtain ⟨vp', vw', rfl, hp', hq'⟩ := hf'.fl
  have o1 := hp'.one
  have o2 := hq'.one
  obtain ⟨K1, K2, K3, K4⟩ := var_new U W vp' vw' hp' hq'
  clear hp' hq' hf'
  clear kf0 kf1 kf2 kf3 kf4 flf
  replace hB := Kept.mk (hB.out.trans ((hb1).mono hB.out.size))
  replace Vf := Kept.mk (Vf.out.keep (hb1))
  clear hb1
  go_wp2_with (refine wpList_store5 rfl (.tmp 12) (.tmp 29) rfl U.heap.size vp' vw' (.int .i64 W.fuse) (strC W.torn) (.bool W.dead) rfl rfl K1.out K2.out o1 o2 rfl rfl rfl ?_; replace hB := Kept.mk (hB.out.trans ((K3.out).mono hB.out.size)); replace Vf := Kept.mk (Vf.out.keep (K3.out)); have Vw := K4; clear K1 K2 K3 K4 o1 o2; generalize set5 (U.alloc (.cells #[.slice none 0 0, .slice none 0 0, .int .i64 0, .string ⟨#[]⟩, .bool false] 25)) U.heap.size vp' vw' (.int .i64 W.fuse) (strC W.torn) (.bool W.dead) = W3 at *; generalize U.heap.size = gw at *; obtain ⟨vpf, vwf, flf, kf0, kf1, kf2, kf3, kf4⟩ := Vf.out.open_; obtain ⟨af, cf, hvf⟩ := (isFlp flf).len; rw [List.length_map] at hvf; subst hvf)
  go_wp2
  go_ret
  exact ⟨rfl, hB.out⟩
set_option maxRecDepth 100000 in
set_option maxHeartbeats 4000000 in
theorem flashFuse_5 (F : Fl) (v : Value) (fz st : Int) (k n m : Nat) (w : World) (hv : isFl F v w) (z0 : 0 ≤ fz) (z1 : fz ≤ 255) (z2 : 0 ≤ st) (z3 : st ≤ 255) (W : Fl) (hfew : fewB F = true) (hk : k < F.pages.length) (hfw : F.wear.length = F.pages.length) (hn : n ≤ 11) (hm : m ≤ 19) (hfz : fz % 12 = (n : Int)) (hst : st % 20 = (m : Int)) (HI : Kept (∀ i, FuseI W k n i (fuseD W k i))) (HWF : Kept (W.wear = F.wear)) (HE : Kept (∀ (j : Nat) (v : Value) (w : World), isFl (fuseD W k j) v w → Calls Try.prog 10 #[v, .int .i64 (k : Int)] w fun e w' => ∃ v', e = .returned (.tuple #[v', .int .i64 (eraseE (fuseD W k j) k)]) ∧ isFlN w.heap.size (fuseD W k (j + 1)) v' w' ∧ Below w.heap.size w w')) (HSA : Kept (∀ (j : Nat) (u v : Value) (w : World), isFl (fuseD W k j) u w → isFl (fuseD W k j) v w → Calls Try.prog 25 #[u, v] w fun e w' => e = .returned (.bool true) ∧ Below w.heap.size w w')) (H1 : Kept (∀ (v : Value) (w : World), isFl F v w → Calls Try.prog 17 #[v, .int .i64 (fz % 12), .string ⟨#[]⟩] w fun e w' => ∃ v', e = .returned (.tuple #[v', .int .i64 0]) ∧ isFlN w.heap.size (fuseD W k 0) v' w' ∧ Below w.heap.size w w')) :
    Calls Try.prog 7 #[v, .int .i64 (k : Int), .int .u8 fz, .int .u8 st] w fun e w' => e = .returned (.bool true) ∧ Below w.heap.size w w' := by
  have HFZ := Kept.mk hfz
  have HST := Kept.mk hst
  clear hfz hst
  obtain ⟨vp, vw, rfl, hp, hq⟩ := hv
  have HF := Kept.mk hfew
  clear hfew
  have d0 : decide ((k : Int) < 0) = false := by simp
  have d1 : decide ((F.pages.length : Int) ≤ (k : Int)) = false := by simp; omega
  have d1' : decide (F.pages.length ≤ k) = false := by simp; omega
  have Vo := Kept.mk (varO_box w F vp vw hp hq)
  obtain ⟨hB, Vf⟩ := var_box w F vp vw hp hq
  clear hp hq
  go_enter Try.func7, Try.ntmps7
  go_wp2_with fail
  ((with_reducible refine (works_any _).mono ?_); rintro e W1 ⟨rfl, hb1⟩)
  replace hB := Kept.mk (hB.out.trans ((hb1).mono hB.out.size))
  replace Vf := Kept.mk (Vf.out.keep (hb1))
  replace Vo := Kept.mk (Vo.out.keep (hb1))
  clear hb1
  obtain ⟨vpf, vwf, flf, kf0, kf1, kf2, kf3, kf4⟩ := Vf.out.open_
  go_wp2_with fail
  ((with_reducible refine (few_any F _ _ flf).mono ?_); rintro e W2 ⟨rfl, hb1⟩)
  clear kf0 kf1 kf2 kf3 kf4 flf
  replace hB := Kept.mk (hB.out.trans ((hb1).mono hB.out.size))
  replace Vf := Kept.mk (Vf.out.keep (hb1))
  replace Vo := Kept.mk (Vo.out.keep (hb1))
  clear hb1
  obtain ⟨vpf, vwf, flf, kf0, kf1, kf2, kf3, kf4⟩ := Vf.out.open_
  rw [HF.out]
  go_wp2_with fail
  ((with_reducible refine (H1.out _ _ flf).mono ?_); rintro e U ⟨v', rfl, hf', hb1⟩)
  have hBU : (w.heap.size + 1) ≤ U.heap.size := Nat.le_trans Vo.out.lt hb1.size
  replace hf' := hf'.low (B' := (w.heap.size + 1)) Vo.out.lt
  obtain ⟨vp', vw', rfl, hp', hq'⟩ := hf'
  have o1 := hp'.one
  have o2 := hq'.one
  obtain ⟨K1, K2, K3, K4⟩ := varN_new U (fuseD W k 0) vp' vw' hBU hp' hq'
  clear hp' hq' hBU
  clear kf0 kf1 kf2 kf3 kf4 flf
  replace hB := Kept.mk (hB.out.trans ((hb1).mono hB.out.size))
  replace Vf := Kept.mk (Vf.out.keep (hb1))
  replace Vo := Kept.mk (Vo.out.keep (hb1))
  clear hb1
  go_wp2_with (refine wpList_store5 rfl (.tmp 12) (.tmp 29) rfl U.heap.size vp' vw' (.int .i64 (fuseD W k 0).fuse) (strC (fuseD W k 0).torn) (.bool (fuseD W k 0).dead) rfl rfl K1.out K2.out o1 o2 rfl rfl rfl ?_; replace hB := Kept.mk (hB.out.trans ((K3.out).mono hB.out.size)); replace Vf := Kept.mk (Vf.out.keep (K3.out)); replace Vo := Kept.mk (Vo.out.keep (K3.out)); have Vw := K4; clear K1 K2 K3 K4 o1 o2; generalize set5 (U.alloc (.cells #[.slice none 0 0, .slice none 0 0, .int .i64 0, .string ⟨#[]⟩, .bool false] 25)) U.heap.size vp' vw' (.int .i64 (fuseD W k 0).fuse) (strC (fuseD W k 0).torn) (.bool (fuseD W k 0).dead) = W3 at *; generalize U.heap.size = gw at *; obtain ⟨vpf, vwf, flf, kf0, kf1, kf2, kf3, kf4⟩ := Vf.out.open_; obtain ⟨af, cf, hvf⟩ := (isFlp flf).len; rw [List.length_map] at hvf; subst hvf)
  rewrite [HFZ.out]
  clear kf0 kf1 kf2 kf3 kf4 flf Vf
  go_loopw [14] (fun i wr => ∃ j : Nat, j ≤ m ∧ i = .int .i64 (j : Int) ∧ Kept (Below w.heap.size w wr) ∧ Kept (VarO w wr w.heap.size F) ∧ Kept (VarN (w.heap.size + 1) wr gw (fuseD W k j))) (fun i _ => m - (intOf i).toNat)
  case atStart => exact ⟨0, Nat.zero_le _, rfl, hB, Vo, Vw⟩
  case round =>
    clear hB Vo Vw
    obtain ⟨j, hj, rfl, hB, Vo, Vw⟩ := hrel
    have hI := HI.out j
    have hI1 := HI.out (j + 1)
    have hT := fuse_told hI
    by_cases hlt : j < m
    · have c0 : decide ((j : Int) < st % 20) = true := by rw [HST.out]; simpa using hlt
      by_cases h1 : j < n
      · skip
        have HEE := Kept.mk (show eraseE (fuseD W k j) k = 0 from hT.1 h1)
        have HD := Kept.mk (show (fuseD W k (j + 1)).dead = false from (hI1.live (by omega)).1)
        have c1 : decide ((j : Int) < (n : Int)) = true := by simpa using h1
        have c2 : decide ((n : Int) ≤ (j : Int)) = false := by simp; omega
        have c3 : decide ((n : Int) < (j : Int)) = false := by simp; omega
        have HI6 := Kept.mk (show (fuseD W k j).pages.length ≤ 6 ∧ (fuseD W k j).wear.length ≤ 6 from by have := has_facts _ k hI.has; omega)
        clear hT hI hI1
        obtain ⟨vpw, vww, flw, kw0, kw1, kw2, kw3, kw4⟩ := Vw.out.var.open_
        go_wp2_with fail
        ((with_reducible refine (HE.out j _ _ flw).mono ?_); rintro e U ⟨v', rfl, hf', hb1⟩)
        rewrite [HEE.out]
        have hBU : (w.heap.size + 1) ≤ U.heap.size := Nat.le_trans Vo.out.lt hb1.size
        replace hf' := hf'.low (B' := (w.heap.size + 1)) Vo.out.lt
        obtain ⟨vp', vw', rfl, hp', hq'⟩ := hf'
        have o1 := hp'.one
        have o2 := hq'.one
        obtain ⟨K1, K2, K3, K4⟩ := varN_new U (fuseD W k (j + 1)) vp' vw' hBU hp' hq'
        clear hp' hq' hBU
        clear kw0 kw1 kw2 kw3 kw4 flw
        replace hB := Kept.mk (hB.out.trans ((hb1).mono hB.out.size))
        replace Vo := Kept.mk (Vo.out.keep (hb1))
        replace Vw := Kept.mk (Vw.out.keep (hb1))
        clear hb1
        have hwx := Vw.out.lt
        go_wp2_with (first | (refine wpList_store5 rfl (.tmp 15) (.tmp 60) rfl U.heap.size vp' vw' (.int .i64 (fuseD W k (j + 1)).fuse) (strC (fuseD W k (j + 1)).torn) (.bool (fuseD W k (j + 1)).dead) rfl rfl K1.out K2.out o1 o2 rfl rfl rfl ?_; replace hB := Kept.mk (hB.out.trans ((K3.out).mono hB.out.size)); replace Vo := Kept.mk (Vo.out.keep (K3.out)); replace Vw := Kept.mk (Vw.out.keep (K3.out)); have Vx := K4; clear K1 K2 K3 K4 o1 o2; generalize set5 (U.alloc (.cells #[.slice none 0 0, .slice none 0 0, .int .i64 0, .string ⟨#[]⟩, .bool false] 25)) U.heap.size vp' vw' (.int .i64 (fuseD W k (j + 1)).fuse) (strC (fuseD W k (j + 1)).torn) (.bool (fuseD W k (j + 1)).dead) = W4 at *; generalize U.heap.size = gx at *; obtain ⟨vpx, vwx, Cx, Cw, Fw, ox1, ox2, Vw1, hB1⟩ := VarN.copy Vw.out Vx.out (by omega) hB.out (Nat.le_succ _); obtain ⟨p0, p1, p2, p3, p4, Cw⟩ := Cw.out; have CW := Kept.mk Cw; clear Cw; have Vo1 := Kept.mk (Vo.out.set5_ (b := gw) (by have := Vw.out.low; omega) vpx vwx (.int .i64 (fuseD W k (j + 1)).fuse) (strC (fuseD W k (j + 1)).torn) (.bool (fuseD W k (j + 1)).dead)); rw [HD.out] at Vo1 Vw1 hB1 Cx; obtain ⟨_, kx0, kx1, kx2, kx3, kx4⟩ := Cx.out) | (refine wpList_store5 rfl (.tmp 12) (.tmp 93) rfl gw vpx vwx (.int .i64 (fuseD W k (j + 1)).fuse) (strC (fuseD W k (j + 1)).torn) (.bool false) rfl rfl CW.out Fw.out ox1 ox2 rfl rfl rfl ?_; clear kx0 kx1 kx2 kx3 kx4; generalize set5 _ gw vpx vwx (.int .i64 (fuseD W k (j + 1)).fuse) (strC (fuseD W k (j + 1)).torn) (.bool false) = WZ at *))
        go_roundw
        case rel => exact ⟨j + 1, by omega, by go_num, hB1, Vo1, Vw1⟩
        case measure => simp [intOf]; omega
      · by_cases h2 : j = n
        · have h2a : n ≤ j := by omega
          have h2b : j ≤ n := by omega
          clear h2
          have HEE := Kept.mk (show eraseE (fuseD W k j) k = 8 from hT.2.1 (by omega))
          have HD := Kept.mk (show (fuseD W k (j + 1)).dead = true from hI1.dead (by omega))
          have c1 : decide ((j : Int) < (n : Int)) = false := by simp; omega
          have c2 : decide ((n : Int) ≤ (j : Int)) = true := by simp; omega
          have c3 : decide ((n : Int) < (j : Int)) = false := by simp; omega
          have HI6 := Kept.mk (show (fuseD W k j).pages.length ≤ 6 ∧ (fuseD W k j).wear.length ≤ 6 from by have := has_facts _ k hI.has; omega)
          clear hT hI hI1
          obtain ⟨vpw, vww, flw, kw0, kw1, kw2, kw3, kw4⟩ := Vw.out.var.open_
          go_wp2_with fail
          ((with_reducible refine (HE.out j _ _ flw).mono ?_); rintro e U ⟨v', rfl, hf', hb1⟩)
          rewrite [HEE.out]
          have hBU : (w.heap.size + 1) ≤ U.heap.size := Nat.le_trans Vo.out.lt hb1.size
          replace hf' := hf'.low (B' := (w.heap.size + 1)) Vo.out.lt
          obtain ⟨vp', vw', rfl, hp', hq'⟩ := hf'
          have o1 := hp'.one
          have o2 := hq'.one
          obtain ⟨K1, K2, K3, K4⟩ := varN_new U (fuseD W k (j + 1)) vp' vw' hBU hp' hq'
          clear hp' hq' hBU
          clear kw0 kw1 kw2 kw3 kw4 flw
          replace hB := Kept.mk (hB.out.trans ((hb1).mono hB.out.size))
          replace Vo := Kept.mk (Vo.out.keep (hb1))
          replace Vw := Kept.mk (Vw.out.keep (hb1))
          clear hb1
          have hwx := Vw.out.lt
          go_wp2_with (first | (refine wpList_store5 rfl (.tmp 15) (.tmp 60) rfl U.heap.size vp' vw' (.int .i64 (fuseD W k (j + 1)).fuse) (strC (fuseD W k (j + 1)).torn) (.bool (fuseD W k (j + 1)).dead) rfl rfl K1.out K2.out o1 o2 rfl rfl rfl ?_; replace hB := Kept.mk (hB.out.trans ((K3.out).mono hB.out.size)); replace Vo := Kept.mk (Vo.out.keep (K3.out)); replace Vw := Kept.mk (Vw.out.keep (K3.out)); have Vx := K4; clear K1 K2 K3 K4 o1 o2; generalize set5 (U.alloc (.cells #[.slice none 0 0, .slice none 0 0, .int .i64 0, .string ⟨#[]⟩, .bool false] 25)) U.heap.size vp' vw' (.int .i64 (fuseD W k (j + 1)).fuse) (strC (fuseD W k (j + 1)).torn) (.bool (fuseD W k (j + 1)).dead) = W4 at *; generalize U.heap.size = gx at *; obtain ⟨vpx, vwx, Cx, Cw, Fw, ox1, ox2, Vw1, hB1⟩ := VarN.copy Vw.out Vx.out (by omega) hB.out (Nat.le_succ _); obtain ⟨p0, p1, p2, p3, p4, Cw⟩ := Cw.out; have CW := Kept.mk Cw; clear Cw; have Vo1 := Kept.mk (Vo.out.set5_ (b := gw) (by have := Vw.out.low; omega) vpx vwx (.int .i64 (fuseD W k (j + 1)).fuse) (strC (fuseD W k (j + 1)).torn) (.bool (fuseD W k (j + 1)).dead)); rw [HD.out] at Vo1 Vw1 hB1 Cx; obtain ⟨_, kx0, kx1, kx2, kx3, kx4⟩ := Cx.out) | (refine wpList_store5 rfl (.tmp 12) (.tmp 93) rfl gw vpx vwx (.int .i64 (fuseD W k (j + 1)).fuse) (strC (fuseD W k (j + 1)).torn) (.bool true) rfl rfl CW.out Fw.out ox1 ox2 rfl rfl rfl ?_; clear kx0 kx1 kx2 kx3 kx4; generalize set5 _ gw vpx vwx (.int .i64 (fuseD W k (j + 1)).fuse) (strC (fuseD W k (j + 1)).torn) (.bool true) = WZ at *))
          go_roundw
          case rel => exact ⟨j + 1, by omega, by go_num, hB1, Vo1, Vw1⟩
          case measure => simp [intOf]; omega
        · have h3 : n < j := by omega
          have HEE := Kept.mk (show eraseE (fuseD W k j) k = 8 from hT.2.1 (by omega))
          have HD := Kept.mk (show (fuseD W k (j + 1)).dead = true from hI1.dead (by omega))
          have c1 : decide ((j : Int) < (n : Int)) = false := by simp; omega
          have c2 : decide ((n : Int) ≤ (j : Int)) = true := by simp; omega
          have c3 : decide ((n : Int) < (j : Int)) = true := by simp; omega
          have HSM := Kept.mk (hT.2.2 h3)
          have HI6 := Kept.mk (show (fuseD W k j).pages.length ≤ 6 ∧ (fuseD W k j).wear.length ≤ 6 from by have := has_facts _ k hI.has; omega)
          clear hT hI hI1
          obtain ⟨vpw, vww, flw, kw0, kw1, kw2, kw3, kw4⟩ := Vw.out.var.open_
          go_wp2_with fail
          ((with_reducible refine (HE.out j _ _ flw).mono ?_); rintro e U ⟨v', rfl, hf', hb1⟩)
          rewrite [HEE.out]
          have hBU : (w.heap.size + 1) ≤ U.heap.size := Nat.le_trans Vo.out.lt hb1.size
          replace hf' := hf'.low (B' := (w.heap.size + 1)) Vo.out.lt
          obtain ⟨vp', vw', rfl, hp', hq'⟩ := hf'
          have o1 := hp'.one
          have o2 := hq'.one
          obtain ⟨K1, K2, K3, K4⟩ := varN_new U (fuseD W k (j + 1)) vp' vw' hBU hp' hq'
          clear hp' hq' hBU
          clear kw0 kw1 kw2 kw3 kw4 flw
          replace hB := Kept.mk (hB.out.trans ((hb1).mono hB.out.size))
          replace Vo := Kept.mk (Vo.out.keep (hb1))
          replace Vw := Kept.mk (Vw.out.keep (hb1))
          clear hb1
          have hwx := Vw.out.lt
          go_wp2_with (refine wpList_store5 rfl (.tmp 15) (.tmp 60) rfl U.heap.size vp' vw' (.int .i64 (fuseD W k (j + 1)).fuse) (strC (fuseD W k (j + 1)).torn) (.bool (fuseD W k (j + 1)).dead) rfl rfl K1.out K2.out o1 o2 rfl rfl rfl ?_; replace hB := Kept.mk (hB.out.trans ((K3.out).mono hB.out.size)); replace Vo := Kept.mk (Vo.out.keep (K3.out)); replace Vw := Kept.mk (Vw.out.keep (K3.out)); have Vx := K4; clear K1 K2 K3 K4 o1 o2; generalize set5 (U.alloc (.cells #[.slice none 0 0, .slice none 0 0, .int .i64 0, .string ⟨#[]⟩, .bool false] 25)) U.heap.size vp' vw' (.int .i64 (fuseD W k (j + 1)).fuse) (strC (fuseD W k (j + 1)).torn) (.bool (fuseD W k (j + 1)).dead) = W4 at *; generalize U.heap.size = gx at *; obtain ⟨vpx, vwx, flx, kx0, kx1, kx2, kx3, kx4⟩ := Vx.out.var.open_; obtain ⟨vpw, vww, flw, kw0, kw1, kw2, kw3, kw4⟩ := Vw.out.var.open_; rw [HD.out] at kx4 flx)
          ((with_reducible refine (HSA.out j _ _ _ (isFl_congr HSM.out flx) flw).mono ?_); rintro e W9 ⟨rfl, hb1⟩)
          clear kx0 kx1 kx2 kx3 kx4 flx
          clear kw0 kw1 kw2 kw3 kw4 flw
          replace hB := Kept.mk (hB.out.trans ((hb1).mono hB.out.size))
          replace Vo := Kept.mk (Vo.out.keep (hb1))
          replace Vw := Kept.mk (Vw.out.keep (hb1))
          replace Vx := Kept.mk (Vx.out.keep (hb1))
          clear hb1
          obtain ⟨vpx, vwx, Cx, Cw, Fw, ox1, ox2, Vw1, hB1⟩ := VarN.copy Vw.out Vx.out (by omega) hB.out (Nat.le_succ _)
          obtain ⟨p0, p1, p2, p3, p4, Cw⟩ := Cw.out
          have CW := Kept.mk Cw
          clear Cw
          have Vo1 := Kept.mk (Vo.out.set5_ (b := gw) (by have := Vw.out.low; omega) vpx vwx (.int .i64 (fuseD W k (j + 1)).fuse) (strC (fuseD W k (j + 1)).torn) (.bool (fuseD W k (j + 1)).dead))
          rw [HD.out] at Vo1 Vw1 hB1 Cx
          obtain ⟨_, kx0, kx1, kx2, kx3, kx4⟩ := Cx.out
          go_wp2_with (refine wpList_store5 rfl (.tmp 12) (.tmp 93) rfl gw vpx vwx (.int .i64 (fuseD W k (j + 1)).fuse) (strC (fuseD W k (j + 1)).torn) (.bool true) rfl rfl CW.out Fw.out ox1 ox2 rfl rfl rfl ?_; clear kx0 kx1 kx2 kx3 kx4; generalize set5 _ gw vpx vwx (.int .i64 (fuseD W k (j + 1)).fuse) (strC (fuseD W k (j + 1)).torn) (.bool true) = WZ at *)
          go_roundw
          case rel => exact ⟨j + 1, by omega, by go_num, hB1, Vo1, Vw1⟩
          case measure => simp [intOf]; omega
    · have c0 : decide ((j : Int) < st % 20) = false := by rw [HST.out]; simp; omega
      obtain rfl : j = m := by omega
      have hw := hI.wear
      have hnw := hI.nw
      have hf1 := has_facts _ k hI.has
      have hwb := wear_bound (HI.out 0).has
      have hWF := HWF.out
      clear hT hI hI1
      obtain ⟨b1, o1, c1, d1, q1, s1, C1, L1, lb1, ld1, P1, R1⟩ := Vw.out.var.rows (n := (fuseD W k j).pages.length) (m := (fuseD W k j).wear.length) rfl rfl (by omega) (by omega)
      obtain ⟨b2, o2, c2, d2, q2, s2, C2, L2, lb2, ld2, P2, R2⟩ := (Vo.out.var hB.out).rows (n := F.pages.length) (m := F.wear.length) rfl rfl (by omega) (by omega)
      have hk1 : k < (fuseD W k j).wear.length := by omega
      have hk2 : k < F.wear.length := by omega
      have p1 := R1 k _ (List.getElem?_eq_getElem hk1)
      have p2 := R2 k _ (List.getElem?_eq_getElem hk2)
      have e1 : (fuseD W k j).wear.getD k 0 = (fuseD W k j).wear[k] := by simp [List.getD_eq_getElem?_getD, hk1]
      have e2 : W.wear.getD k 0 = F.wear[k] := by rw [hWF]; simp [List.getD_eq_getElem?_getD, hk2]
      rw [e1, e2] at hw
      simp only [fuseD, e2] at hwb
      go_wp2_with fail
      refine fuse_end _ _ _ rfl gw w.heap.size d1 q1 _ s1 d2 q2 _ s2 k (n : Int) st (j : Int) (min n j : Nat) _ _ rfl rfl rfl rfl rfl rfl C1.2.2.1 C1.1 C2.2.2.1 C2.1 hk1 hk2 p1 ld1 p2 ld2 z2 z3 HST.out (by split <;> omega) (by omega) (by omega) (by rw [hw]; split <;> omega) ?_
      intro a5 w5 hd h0 hb5
      have hB2 := hB.out.trans (hb5.mono hB.out.size)
      go_wp2
      refine bodyPost_ret (results_tmp rfl a5.tmps Try.prog w5) hd ⟨?_, hB2⟩
      rw [h0]

theorem flashFuse_walk (F0 : Fl) (v0 : Value) (a1 a2 a3 : Int) (c0 : Came F0) (w1 : (Lit.int .i64 a1).wf = true) (w2 : (Lit.int .u8 a2).wf = true) (w3 : (Lit.int .u8 a3).wf = true) (w : World) (hv : isFl F0 v0 w) (z0 : F0.pages.length * 16 ≤ reachBytes ∧ F0.wear.length * 8 ≤ reachBytes) :
    Calls Try.prog 7 #[v0, .int .i64 a1, .int .u8 a2, .int .u8 a3] w fun e w' => e = .returned (.bool true) ∧ Below w.heap.size w w' := by
  have u8 : ∀ x : Int, (Lit.int .u8 x).wf = true → 0 ≤ x ∧ x ≤ 255 := by
    intro x h
    unfold Lit.wf at h
    rw [Bool.and_eq_true] at h
    exact ⟨of_decide_eq_true h.1, of_decide_eq_true h.2⟩
  obtain ⟨y0, y1⟩ := u8 a2 w2
  obtain ⟨y2, y3⟩ := u8 a3 w3
  have hrb := reachBytes_lt
  have hwk : ∀ (v : Value) (w : World), isFl F0 v w → Calls Try.prog 17 #[v, .int .i64 (a2 % 12), .string ⟨#[]⟩] w fun e w' => ∃ v', e = .returned (.tuple #[v', .int .i64 (wakeE F0 [])]) ∧ isFlN w.heap.size (wakeF F0 (a2 % 12) []) v' w' ∧ Below w.heap.size w w' :=
    fun v w hv => wake_any F0 (a2 % 12) [] v w hv (by omega) (by omega)
  cases hfew : fewB F0 with
  | false => exact flashFuse_1 F0 v0 a1 a2 a3 w hv y0 y1 y2 y3 _ _ hfew ⟨hwk⟩
  | true =>
  cases hmay : mayB F0 with
  | false =>
    have hE : wakeE F0 [] = 1 := by unfold wakeE wakeB; rw [hmay]; rfl
    rw [hE] at hwk
    exact flashFuse_2 F0 v0 a1 a2 a3 w hv y0 y1 y2 y3 _ hfew ⟨hwk⟩
  | true =>
  have hE : wakeE F0 [] = 0 := by unfold wakeE wakeB; rw [hmay]; rfl
  have hG : wakeF F0 (a2 % 12) [] = { F0 with fuse := a2 % 12, torn := [], dead := false } := by unfold wakeF wakeB; rw [hmay]; rfl
  rw [hE] at hwk
  by_cases hp0 : a1 < 0
  · exact flashFuse_3 F0 v0 a1 a2 a3 w hv y0 y1 y2 y3 _ hfew hp0 ⟨hwk⟩
  by_cases hp1 : (F0.pages.length : Int) ≤ a1
  · exact flashFuse_4 F0 v0 a1 a2 a3 w hv y0 y1 y2 y3 _ hfew (by omega) hp1 ⟨hwk⟩
  rw [hG] at hwk
  obtain ⟨D, hD⟩ : ∃ D : Fl, D = { F0 with fuse := a2 % 12, torn := [], dead := false } := ⟨_, rfl⟩
  rw [← hD] at hwk
  have hmD : mayB D = true := by rw [hD]; exact wake_may (by decide) hmay
  have dp : D.pages = F0.pages := by rw [hD]
  have dw : D.wear = F0.wear := by rw [hD]
  have df : D.fuse = a2 % 12 := by rw [hD]
  have dd : D.dead = false := by rw [hD]
  clear hD hG
  obtain ⟨k, rfl⟩ := Int.eq_ofNat_of_zero_le (show 0 ≤ a1 by omega)
  have hh : hasB D (k : Int) = true := by unfold hasB; rw [hmD, dp]; simp; omega
  have hfa := has_facts D k hh
  obtain ⟨n, hn⟩ := Int.eq_ofNat_of_zero_le (show 0 ≤ a2 % 12 by omega)
  obtain ⟨m, hm⟩ := Int.eq_ofNat_of_zero_le (show 0 ≤ a3 % 20 by omega)
  have hall := fuse_all D k n (by omega) hh dd (by rw [df, hn])
  have hlen : ∀ j, (fuseD D k j).pages.length ≤ 6 ∧ (fuseD D k j).wear.length ≤ 6 := fun j => by have := has_facts _ k (hall j).has; omega
  refine flashFuse_5 F0 v0 a2 a3 k n m w hv y0 y1 y2 y3 D hfew (by omega) (by rw [← dp, ← dw]; omega) (by omega) (by omega) hn hm ⟨hall⟩ ⟨dw⟩ ⟨?_⟩ ⟨?_⟩ ⟨hwk⟩
  · intro j v w hv
    exact erase_any (fuseD D k j) k v w hv (by have := hlen j; omega) (by have := hlen j; omega) (by have := (hall j).small; omega)
  · intro j u v w hu hv
    have := hlen j
    refine (same_any (fuseD D k j) (fuseD D k j) u v w hu hv (by omega) (by omega) (by omega) (by omega)).mono ?_
    rintro e w' ⟨rfl, hb⟩
    exact ⟨by rw [sameB_self], hb⟩

set_option maxRecDepth 100000 in
theorem flashFuse_lifted (os : Os) (started : os.Started) (H : Type) (enc : TypeId × Value → H) :
    ReturnsInHanded {} Try.checked os 7 .any (Rows.flashFuseSpec.pre6 enc Try.prog Try.f7 Rows.flashFuseRow.domain false) (Rows.flashFuseSpec.post enc Try.prog Try.f7 false true false false) := by
  refine returnsInHanded_of_change_sized (C := Try.checked) (by kernel_rfl : ownKnob Try.prog.godebug = none) started (by kernel_rfl) Try.func7
    (ChangeSpec.witness6 (enc := enc) (C := Try.checked) false ⟨#[], #[.agg #[.slice none 0 0, .slice none 0 0, .int .i64 0, .string ByteArray.empty, .bool false], .int .i64 0, .int .u8 0, .int .u8 0], []⟩ 8 (by kernel_rfl) (by kernel_rfl) (by kernel_rfl) (by kernel_rfl)) ?_
  intro W base args ds gs before hval0 hW hcnd hsz0 _
  have hval : ∀ (j : Nat) t v, Try.f7.params[j]? = some t → args[j]? = some v → Value.okWide Try.prog W .any base t v := hval0
  have hW' := hW
  obtain ⟨p, q, hA0, hV, rfl, hfz, hnd⟩ := hW
  have hA : DataW.TrodAll enc Try.prog W 0 (fun _ => true) true Try.f7.params.toList args.toList ds p := hA0
  have hsz : (DataW.weightsEach Try.prog (Try.f7.params.toList ++ Rows.flashFuseSpec.plain.varTypes Try.prog) (ds ++ gs)).all (· ≤ reachBytes) = true := hsz0
  rw [Try.params7] at hA hval hsz
  obtain ⟨v0, vs0, d0, ds0, p0, q0, hargs, rfl, rfl, h0, r0⟩ := trodAll_cons hA
  obtain ⟨v1, vs1, d1, ds1, p1, q1, rfl, rfl, rfl, h1, r1⟩ := trodAll_cons r0
  obtain ⟨v2, vs2, d2, ds2, p2, q2, rfl, rfl, rfl, h2, r2⟩ := trodAll_cons r1
  obtain ⟨v3, vs3, d3, ds3, p3, q3, rfl, rfl, rfl, h3, r3⟩ := trodAll_cons r2
  obtain ⟨rfl, rfl, rfl⟩ := trodAll_nil r3
  obtain rfl : args = #[v0, v1, v2, v3] := by cases args; simp_all
  obtain ⟨rfl, rfl⟩ := trodVars_none hV
  obtain ⟨F0, fl0, w0, z0⟩ := open_flash (hval 0 25 v0 rfl rfl) h0
  have lt0 : ∀ x ∈ p0, x.block < W.heap.size := fun x hx => by obtain ⟨fuel, hf⟩ := h0; exact DataW.trod_lt fuel _ _ _ hf x hx
  obtain ⟨a1, rfl, rfl, rfl, w1⟩ := open_int Try.underlying3 (hval 1 3 v1 rfl rfl) h1
  obtain ⟨a2, rfl, rfl, rfl, w2⟩ := open_int Try.underlying5 (hval 2 5 v2 rfl rfl) h2
  obtain ⟨a3, rfl, rfl, rfl, w3⟩ := open_int Try.underlying5 (hval 3 5 v3 rfl rfl) h3
  clear hA0 hval0
  simp only [List.append_nil] at hW'
  replace z0 := z0 (fun m hm => by have := List.all_eq_true.1 hsz m (DataW.weights_mem_each (j := 0) rfl rfl m hm); simpa using this)
  refine (flashFuse_walk F0 v0 a1 a2 a3 w0 w1 w2 w3 W fl0 z0).mono fun e W' ⟨he, bel⟩ => ?_
  subst he
  exact ⟨_, rfl, _, _, _, [], _, [], hW', trodAll_mk1 (shut_bool Try.underlying4 _), (trodAll_cons_mk (Below.trod (by kernel_rfl) (by kernel_rfl) (of_decide_eq_true (by kernel_rfl)) h0 bel lt0) (trodAll_cons_mk (shut_int Try.underlying3 w1) (trodAll_cons_mk (shut_int Try.underlying5 w2) (trodAll_cons_mk (shut_int Try.underlying5 w3) trodAll_mk0)))), rfl, bel.frame _, fun h => by cases h⟩
/-- THE STATEMENT. -/
theorem flashFuse_proved : Rows.FlashFuseSaid :=
  OpenClaim.holds_of_wide 7 Try.f7 rfl rfl rfl rfl rfl rfl rfl ⟨rfl, rfl, rfl, rfl, rfl⟩ rfl rfl rfl rfl rfl (by kernel_rfl) Try.func7 (by kernel_rfl)
    (of_decide_eq_true (by kernel_rfl)) (by unfold Func.isWrapper; first | (rw [if_pos (by decide +kernel)]; kernel_rfl) | (rw [if_neg (by decide +kernel)]; exact ⟨rfl, rfl⟩))
    (fun os started H enc _ => flashFuse_lifted os started H enc)
#print axioms flashFuse_proved
end Go.Proofs.Ytipiioggdalkoaa
