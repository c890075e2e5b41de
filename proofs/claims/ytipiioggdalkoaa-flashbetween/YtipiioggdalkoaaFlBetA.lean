/- A torn step leaves a page between what it was, and what it would be, bit by bit; all other pages as they were; and nothing is worn (flash.Program, Erase, Wake, Free). -/
import Derived.Test.YtipiioggdalkoaaFlWorks
import Derived.Test.YtipiioggdalkoaaFlBetMath
import Derived.Test.YtipiioggdalkoaaFlOpen
import Derived.Test.YtipiioggdalkoaaFlVarN
import Derived.Test.YtipiioggdalkoaaRefLists
import Derived.IntWalk
import Derived.SizedLaws
import Derived.ProofKit
import Derived.OpenShut
import Derived.ShutString
import Derived.ChangeOld
import Derived.Below
namespace Go.Proofs.Ytipiioggdalkoaa
open Go.ChangeShapes Go.WideShapes Go.ChangeAt Go.RowKit
open Go.ChangeMaps (open_string shut_string)
set_option linter.unusedVariables false
set_option linter.unusedSimpArgs false
attribute [local irreducible] set5
theorem isFlp {G : Fl} {vp vw f t d : Value} {w : World} (h : isFl G (.agg #[vp, vw, f, t, d]) w) : isCells (G.pages.map strC) vp w := by
  obtain ⟨a, b, e, h1, _⟩ := h
  injection e with e
  injection e with e
  injection e with e1 e
  subst e1
  exact h1
theorem len_sl (p : Option Addr) (n c : Nat) (ty : TypeId) (w : World) : (Builtin.len_ #[22] ty #[.slice p n c]).run Try.prog w = .ok (.int .i64 (n : Int)) w := by simp [Builtin.len_, go_sem, run_underlying Try.underlying22]
theorem add_one (x : Int) (h0 : 0 ≤ x) (h1 : x ≤ 2147483647) (w : World) : (binOp .add 3 (.int .i64 x) (.int .i64 1)).run Try.prog w = .ok (.int .i64 (x + 1)) w := by
  have hw : IntKind.i64.wrap (x + 1) = x + 1 := IntWalk.i64_in _ (by omega)
  simp [binOp, hw, go_sem]

noncomputable def bet15 : Array Oper := regionOf Try.f5 15
set_option maxRecDepth 100000 in
set_option maxHeartbeats 4000000 in
theorem bet15_wp (Q : Exit → Act → World → Prop) (a0 : Act) (w0 : World) (hsz : a0.tmps.size = 305) (nn mm k : Nat) (gc bc oc cc dc qc sc : Nat) (gd bd od cd dd qd sd : Nat) (gf bf of cf df qf sf : Nat) (fc fd ff : Int) (tc td tf : List UInt8) (df_ : Bool) (x1 x2 : Int) (hkm : k < mm) (hx0 : 0 ≤ x2) (hx1 : x2 ≤ 2147483647) (hx : (if (2147483647 : Int) < x2 + 1 then 2147483647 else x2 + 1) = x1) (Cc : Cells5 w0 gc (.slice (some ⟨bc, oc, none⟩) nn cc) (.slice (some ⟨dc, qc, none⟩) mm sc) (.int .i64 fc) (strC tc) (.bool true)) (Cd : Cells5 w0 gd (.slice (some ⟨bd, od, none⟩) nn cd) (.slice (some ⟨dd, qd, none⟩) mm sd) (.int .i64 fd) (strC td) (.bool false)) (Cf : Cells5 w0 gf (.slice (some ⟨bf, of, none⟩) nn cf) (.slice (some ⟨df, qf, none⟩) mm sf) (.int .i64 ff) (strC tf) (.bool df_)) (Rd : w0.cell? ⟨dd, qd + k, none⟩ = some (.int .i64 x1)) (ldd : dd < w0.heap.size) (Rf : w0.cell? ⟨df, qf + k, none⟩ = some (.int .i64 x2)) (ldf : df < w0.heap.size) (e22 : a0.tmps.getD 22 undef = .int .i64 8) (e24 : a0.tmps.getD 24 undef = .int .i64 0) (e1 : a0.tmps.getD 1 undef = .int .i64 (k : Int)) (e21 : a0.tmps.getD 21 undef = .pointer (some ⟨gc, 0, none⟩)) (e23 : a0.tmps.getD 23 undef = .pointer (some ⟨gd, 0, none⟩)) (e5 : a0.tmps.getD 5 undef = .pointer (some ⟨gf, 0, none⟩))
    (hQ : ∀ (f : Nat → Value) (w : World), f 151 = .bool false → Below w0.heap.size w0 w → Q .normal { tmps := [104, 105, 106, 107, 108, 109, 110, 111, 112, 113, 114, 115, 116, 117, 118, 119, 120, 121, 122, 123, 124, 125, 126, 127, 128, 129, 130, 131, 132, 133, 134, 135, 136, 137, 138, 139, 140, 141, 142, 143, 144, 145, 146, 147, 148, 149, 150, 151].foldl (fun t s => t.setIfInBounds s (f s)) a0.tmps, defers := a0.defers } w) :
    (Code.region 15 bet15 true).wp Try.prog Q a0 w0 := by
  refine wp_region_flow mixed (by rw [hsz]; kernel_rfl) ?_
  rw [show bet15.size = 48 by kernel_rfl]
  refine ⟨isVal (.int .i64 8), step_move (.tmp 22) (by kernel_rfl) (wanted_none (by kernel_rfl)) (stable_val _) (knows_old 22 (.int .i64 8) (by kernel_rfl) e22), ?_⟩
  refine ⟨isVal (.bool false), step_bin .neq 28 28 (.tmp 104) (.const (.int .i64 8)) (.int .i64 8) (.int .i64 8) (.bool false) (by kernel_rfl) (wanted_none (by kernel_rfl)) (knows_new (V := isVal (.int .i64 8)) 104 0 (by kernel_rfl) (by kernel_rfl) (by kernel_rfl)) (knows_const _) (fun _ => rfl) (neq_int _ _ _ _ _ (by decide)), ?_⟩
  refine ⟨isVal (.bool false), step_move (.tmp 105) (by kernel_rfl) (wanted_none (by kernel_rfl)) (stable_val _) (knows_new (V := isVal (.bool false)) 105 1 (by kernel_rfl) (by kernel_rfl) (by kernel_rfl)), ?_⟩
  refine ⟨isVal (.int .i64 0), step_move (.tmp 24) (by kernel_rfl) (wanted_some 2 106 false (by kernel_rfl) (by kernel_rfl) (by kernel_rfl) (by kernel_rfl)) (stable_val _) (knows_old 24 (.int .i64 0) (by kernel_rfl) e24), ?_⟩
  refine ⟨isVal (.bool false), step_bin .neq 28 28 (.tmp 107) (.const (.int .i64 0)) (.int .i64 0) (.int .i64 0) (.bool false) (by kernel_rfl) (wanted_some 2 106 false (by kernel_rfl) (by kernel_rfl) (by kernel_rfl) (by kernel_rfl)) (knows_new (V := isVal (.int .i64 0)) 107 3 (by kernel_rfl) (by kernel_rfl) (by kernel_rfl)) (knows_const _) (fun _ => rfl) (neq_int _ _ _ _ _ (by decide)), ?_⟩
  refine ⟨isVal (.bool false), step_pick (.tmp 106) (.const (.bool true)) (.tmp 108) false (by kernel_rfl) (wanted_none (by kernel_rfl)) (stable_val _) (knows_new (V := isVal (.bool false)) 106 2 (by kernel_rfl) (by kernel_rfl) (by kernel_rfl)) (knows_new (V := isVal (.bool false)) 108 4 (by kernel_rfl) (by kernel_rfl) (by kernel_rfl)), ?_⟩
  refine ⟨isVal (.bool false), step_move (.tmp 109) (by kernel_rfl) (wanted_none (by kernel_rfl)) (stable_val _) (knows_new (V := isVal (.bool false)) 109 5 (by kernel_rfl) (by kernel_rfl) (by kernel_rfl)), ?_⟩
  refine ⟨isVal (.pointer (some ⟨gc, 4, none⟩)), step_field 25 (.tmp 21) 4 ⟨gc, 0, none⟩ ⟨gc, 4, none⟩ (by kernel_rfl) (wanted_some 6 110 false (by kernel_rfl) (by kernel_rfl) (by kernel_rfl) (by kernel_rfl)) (knows_old 21 (.pointer (some ⟨gc, 0, none⟩)) (by kernel_rfl) e21) (field_fl gc 4 (by omega)), ?_⟩
  refine ⟨isVal (.bool true), step_read 4 (.tmp 111) ⟨gc, 4, none⟩ (.bool true) (by kernel_rfl) (wanted_some 6 110 false (by kernel_rfl) (by kernel_rfl) (by kernel_rfl) (by kernel_rfl)) (knows_new (V := isVal (.pointer (some ⟨gc, 4, none⟩))) 111 7 (by kernel_rfl) (by kernel_rfl) (by kernel_rfl)) Cc.2.2.2.2.2 Cc.1 agg_bool, ?_⟩
  refine ⟨isVal (.bool false), step_un .not 4 (.tmp 112) (.bool true) (.bool false) (by kernel_rfl) (wanted_some 6 110 false (by kernel_rfl) (by kernel_rfl) (by kernel_rfl) (by kernel_rfl)) (knows_new (V := isVal (.bool true)) 112 8 (by kernel_rfl) (by kernel_rfl) (by kernel_rfl)) (fun _ => rfl), ?_⟩
  refine ⟨isVal (.bool false), step_pick (.tmp 110) (.const (.bool true)) (.tmp 113) false (by kernel_rfl) (wanted_none (by kernel_rfl)) (stable_val _) (knows_new (V := isVal (.bool false)) 110 6 (by kernel_rfl) (by kernel_rfl) (by kernel_rfl)) (knows_new (V := isVal (.bool false)) 113 9 (by kernel_rfl) (by kernel_rfl) (by kernel_rfl)), ?_⟩
  refine ⟨isVal (.bool false), step_move (.tmp 114) (by kernel_rfl) (wanted_none (by kernel_rfl)) (stable_val _) (knows_new (V := isVal (.bool false)) 114 10 (by kernel_rfl) (by kernel_rfl) (by kernel_rfl)), ?_⟩
  refine ⟨isVal (.pointer (some ⟨gd, 4, none⟩)), step_field 25 (.tmp 23) 4 ⟨gd, 0, none⟩ ⟨gd, 4, none⟩ (by kernel_rfl) (wanted_some 11 115 false (by kernel_rfl) (by kernel_rfl) (by kernel_rfl) (by kernel_rfl)) (knows_old 23 (.pointer (some ⟨gd, 0, none⟩)) (by kernel_rfl) e23) (field_fl gd 4 (by omega)), ?_⟩
  refine ⟨isVal (.bool false), step_read 4 (.tmp 116) ⟨gd, 4, none⟩ (.bool false) (by kernel_rfl) (wanted_some 11 115 false (by kernel_rfl) (by kernel_rfl) (by kernel_rfl) (by kernel_rfl)) (knows_new (V := isVal (.pointer (some ⟨gd, 4, none⟩))) 116 12 (by kernel_rfl) (by kernel_rfl) (by kernel_rfl)) Cd.2.2.2.2.2 Cd.1 agg_bool, ?_⟩
  refine ⟨isVal (.bool false), step_pick (.tmp 115) (.const (.bool true)) (.tmp 117) false (by kernel_rfl) (wanted_none (by kernel_rfl)) (stable_val _) (knows_new (V := isVal (.bool false)) 115 11 (by kernel_rfl) (by kernel_rfl) (by kernel_rfl)) (knows_new (V := isVal (.bool false)) 117 13 (by kernel_rfl) (by kernel_rfl) (by kernel_rfl)), ?_⟩
  refine ⟨isVal (.bool false), step_move (.tmp 118) (by kernel_rfl) (wanted_none (by kernel_rfl)) (stable_val _) (knows_new (V := isVal (.bool false)) 118 14 (by kernel_rfl) (by kernel_rfl) (by kernel_rfl)), ?_⟩
  refine ⟨isVal (.pointer (some ⟨gc, 0, none⟩)), step_field 25 (.tmp 21) 0 ⟨gc, 0, none⟩ ⟨gc, 0, none⟩ (by kernel_rfl) (wanted_some 15 119 false (by kernel_rfl) (by kernel_rfl) (by kernel_rfl) (by kernel_rfl)) (knows_old 21 (.pointer (some ⟨gc, 0, none⟩)) (by kernel_rfl) e21) (field_fl gc 0 (by omega)), ?_⟩
  refine ⟨isVal (.slice (some ⟨bc, oc, none⟩) nn cc), step_read 22 (.tmp 120) ⟨gc, 0, none⟩ (.slice (some ⟨bc, oc, none⟩) nn cc) (by kernel_rfl) (wanted_some 15 119 false (by kernel_rfl) (by kernel_rfl) (by kernel_rfl) (by kernel_rfl)) (knows_new (V := isVal (.pointer (some ⟨gc, 0, none⟩))) 120 16 (by kernel_rfl) (by kernel_rfl) (by kernel_rfl)) Cc.2.1 Cc.1 agg_strs, ?_⟩
  refine ⟨isVal (.int .i64 (nn : Int)), step_len 22 (.tmp 121) (.slice (some ⟨bc, oc, none⟩) nn cc) (.int .i64 (nn : Int)) (by kernel_rfl) (wanted_some 15 119 false (by kernel_rfl) (by kernel_rfl) (by kernel_rfl) (by kernel_rfl)) (knows_new (V := isVal (.slice (some ⟨bc, oc, none⟩) nn cc)) 121 17 (by kernel_rfl) (by kernel_rfl) (by kernel_rfl)) (fun ty w => len_sl _ _ _ ty w), ?_⟩
  refine ⟨isVal (.pointer (some ⟨gf, 0, none⟩)), step_field 25 (.tmp 5) 0 ⟨gf, 0, none⟩ ⟨gf, 0, none⟩ (by kernel_rfl) (wanted_some 15 119 false (by kernel_rfl) (by kernel_rfl) (by kernel_rfl) (by kernel_rfl)) (knows_old 5 (.pointer (some ⟨gf, 0, none⟩)) (by kernel_rfl) e5) (field_fl gf 0 (by omega)), ?_⟩
  refine ⟨isVal (.slice (some ⟨bf, of, none⟩) nn cf), step_read 22 (.tmp 123) ⟨gf, 0, none⟩ (.slice (some ⟨bf, of, none⟩) nn cf) (by kernel_rfl) (wanted_some 15 119 false (by kernel_rfl) (by kernel_rfl) (by kernel_rfl) (by kernel_rfl)) (knows_new (V := isVal (.pointer (some ⟨gf, 0, none⟩))) 123 19 (by kernel_rfl) (by kernel_rfl) (by kernel_rfl)) Cf.2.1 Cf.1 agg_strs, ?_⟩
  refine ⟨isVal (.int .i64 (nn : Int)), step_len 22 (.tmp 124) (.slice (some ⟨bf, of, none⟩) nn cf) (.int .i64 (nn : Int)) (by kernel_rfl) (wanted_some 15 119 false (by kernel_rfl) (by kernel_rfl) (by kernel_rfl) (by kernel_rfl)) (knows_new (V := isVal (.slice (some ⟨bf, of, none⟩) nn cf)) 124 20 (by kernel_rfl) (by kernel_rfl) (by kernel_rfl)) (fun ty w => len_sl _ _ _ ty w), ?_⟩
  refine ⟨isVal (.bool false), step_bin .neq 3 3 (.tmp 122) (.tmp 125) (.int .i64 (nn : Int)) (.int .i64 (nn : Int)) (.bool false) (by kernel_rfl) (wanted_some 15 119 false (by kernel_rfl) (by kernel_rfl) (by kernel_rfl) (by kernel_rfl)) (knows_new (V := isVal (.int .i64 (nn : Int))) 122 18 (by kernel_rfl) (by kernel_rfl) (by kernel_rfl)) (knows_new (V := isVal (.int .i64 (nn : Int))) 125 21 (by kernel_rfl) (by kernel_rfl) (by kernel_rfl)) (fun _ => rfl) (neq_int _ _ _ _ _ (by simp)), ?_⟩
  refine ⟨isVal (.bool false), step_pick (.tmp 119) (.const (.bool true)) (.tmp 126) false (by kernel_rfl) (wanted_none (by kernel_rfl)) (stable_val _) (knows_new (V := isVal (.bool false)) 119 15 (by kernel_rfl) (by kernel_rfl) (by kernel_rfl)) (knows_new (V := isVal (.bool false)) 126 22 (by kernel_rfl) (by kernel_rfl) (by kernel_rfl)), ?_⟩
  refine ⟨isVal (.bool false), step_move (.tmp 127) (by kernel_rfl) (wanted_none (by kernel_rfl)) (stable_val _) (knows_new (V := isVal (.bool false)) 127 23 (by kernel_rfl) (by kernel_rfl) (by kernel_rfl)), ?_⟩
  refine ⟨isVal (.pointer (some ⟨gd, 0, none⟩)), step_field 25 (.tmp 23) 0 ⟨gd, 0, none⟩ ⟨gd, 0, none⟩ (by kernel_rfl) (wanted_some 24 128 false (by kernel_rfl) (by kernel_rfl) (by kernel_rfl) (by kernel_rfl)) (knows_old 23 (.pointer (some ⟨gd, 0, none⟩)) (by kernel_rfl) e23) (field_fl gd 0 (by omega)), ?_⟩
  refine ⟨isVal (.slice (some ⟨bd, od, none⟩) nn cd), step_read 22 (.tmp 129) ⟨gd, 0, none⟩ (.slice (some ⟨bd, od, none⟩) nn cd) (by kernel_rfl) (wanted_some 24 128 false (by kernel_rfl) (by kernel_rfl) (by kernel_rfl) (by kernel_rfl)) (knows_new (V := isVal (.pointer (some ⟨gd, 0, none⟩))) 129 25 (by kernel_rfl) (by kernel_rfl) (by kernel_rfl)) Cd.2.1 Cd.1 agg_strs, ?_⟩
  refine ⟨isVal (.int .i64 (nn : Int)), step_len 22 (.tmp 130) (.slice (some ⟨bd, od, none⟩) nn cd) (.int .i64 (nn : Int)) (by kernel_rfl) (wanted_some 24 128 false (by kernel_rfl) (by kernel_rfl) (by kernel_rfl) (by kernel_rfl)) (knows_new (V := isVal (.slice (some ⟨bd, od, none⟩) nn cd)) 130 26 (by kernel_rfl) (by kernel_rfl) (by kernel_rfl)) (fun ty w => len_sl _ _ _ ty w), ?_⟩
  refine ⟨isVal (.pointer (some ⟨gf, 0, none⟩)), step_field 25 (.tmp 5) 0 ⟨gf, 0, none⟩ ⟨gf, 0, none⟩ (by kernel_rfl) (wanted_some 24 128 false (by kernel_rfl) (by kernel_rfl) (by kernel_rfl) (by kernel_rfl)) (knows_old 5 (.pointer (some ⟨gf, 0, none⟩)) (by kernel_rfl) e5) (field_fl gf 0 (by omega)), ?_⟩
  refine ⟨isVal (.slice (some ⟨bf, of, none⟩) nn cf), step_read 22 (.tmp 132) ⟨gf, 0, none⟩ (.slice (some ⟨bf, of, none⟩) nn cf) (by kernel_rfl) (wanted_some 24 128 false (by kernel_rfl) (by kernel_rfl) (by kernel_rfl) (by kernel_rfl)) (knows_new (V := isVal (.pointer (some ⟨gf, 0, none⟩))) 132 28 (by kernel_rfl) (by kernel_rfl) (by kernel_rfl)) Cf.2.1 Cf.1 agg_strs, ?_⟩
  refine ⟨isVal (.int .i64 (nn : Int)), step_len 22 (.tmp 133) (.slice (some ⟨bf, of, none⟩) nn cf) (.int .i64 (nn : Int)) (by kernel_rfl) (wanted_some 24 128 false (by kernel_rfl) (by kernel_rfl) (by kernel_rfl) (by kernel_rfl)) (knows_new (V := isVal (.slice (some ⟨bf, of, none⟩) nn cf)) 133 29 (by kernel_rfl) (by kernel_rfl) (by kernel_rfl)) (fun ty w => len_sl _ _ _ ty w), ?_⟩
  refine ⟨isVal (.bool false), step_bin .neq 3 3 (.tmp 131) (.tmp 134) (.int .i64 (nn : Int)) (.int .i64 (nn : Int)) (.bool false) (by kernel_rfl) (wanted_some 24 128 false (by kernel_rfl) (by kernel_rfl) (by kernel_rfl) (by kernel_rfl)) (knows_new (V := isVal (.int .i64 (nn : Int))) 131 27 (by kernel_rfl) (by kernel_rfl) (by kernel_rfl)) (knows_new (V := isVal (.int .i64 (nn : Int))) 134 30 (by kernel_rfl) (by kernel_rfl) (by kernel_rfl)) (fun _ => rfl) (neq_int _ _ _ _ _ (by simp)), ?_⟩
  refine ⟨isVal (.bool false), step_pick (.tmp 128) (.const (.bool true)) (.tmp 135) false (by kernel_rfl) (wanted_none (by kernel_rfl)) (stable_val _) (knows_new (V := isVal (.bool false)) 128 24 (by kernel_rfl) (by kernel_rfl) (by kernel_rfl)) (knows_new (V := isVal (.bool false)) 135 31 (by kernel_rfl) (by kernel_rfl) (by kernel_rfl)), ?_⟩
  refine ⟨isVal (.bool false), step_move (.tmp 136) (by kernel_rfl) (wanted_none (by kernel_rfl)) (stable_val _) (knows_new (V := isVal (.bool false)) 136 32 (by kernel_rfl) (by kernel_rfl) (by kernel_rfl)), ?_⟩
  refine ⟨isVal (.pointer (some ⟨gd, 1, none⟩)), step_field 25 (.tmp 23) 1 ⟨gd, 0, none⟩ ⟨gd, 1, none⟩ (by kernel_rfl) (wanted_some 33 137 false (by kernel_rfl) (by kernel_rfl) (by kernel_rfl) (by kernel_rfl)) (knows_old 23 (.pointer (some ⟨gd, 0, none⟩)) (by kernel_rfl) e23) (field_fl gd 1 (by omega)), ?_⟩
  refine ⟨isVal (.slice (some ⟨dd, qd, none⟩) mm sd), step_read 23 (.tmp 138) ⟨gd, 1, none⟩ (.slice (some ⟨dd, qd, none⟩) mm sd) (by kernel_rfl) (wanted_some 33 137 false (by kernel_rfl) (by kernel_rfl) (by kernel_rfl) (by kernel_rfl)) (knows_new (V := isVal (.pointer (some ⟨gd, 1, none⟩))) 138 34 (by kernel_rfl) (by kernel_rfl) (by kernel_rfl)) Cd.2.2.1 Cd.1 agg_ints, ?_⟩
  refine ⟨isVal (.int .i64 (k : Int)), step_move (.tmp 1) (by kernel_rfl) (wanted_some 33 137 false (by kernel_rfl) (by kernel_rfl) (by kernel_rfl) (by kernel_rfl)) (stable_val _) (knows_old 1 (.int .i64 (k : Int)) (by kernel_rfl) e1), ?_⟩
  refine ⟨isVal (.pointer (some ⟨dd, qd + k, none⟩)), step_place 23 3 (.tmp 139) (.tmp 140) dd qd mm sd k (by kernel_rfl) (wanted_some 33 137 false (by kernel_rfl) (by kernel_rfl) (by kernel_rfl) (by kernel_rfl)) (knows_new (V := isVal (.slice (some ⟨dd, qd, none⟩) mm sd)) 139 35 (by kernel_rfl) (by kernel_rfl) (by kernel_rfl)) (knows_new (V := isVal (.int .i64 (k : Int))) 140 36 (by kernel_rfl) (by kernel_rfl) (by kernel_rfl)) Try.underlying23 (by kernel_rfl) hkm, ?_⟩
  refine ⟨isVal (.int .i64 x1), step_read 3 (.tmp 141) ⟨dd, qd + k, none⟩ (.int .i64 x1) (by kernel_rfl) (wanted_some 33 137 false (by kernel_rfl) (by kernel_rfl) (by kernel_rfl) (by kernel_rfl)) (knows_new (V := isVal (.pointer (some ⟨dd, qd + k, none⟩))) 141 37 (by kernel_rfl) (by kernel_rfl) (by kernel_rfl)) Rd ldd agg_int, ?_⟩
  refine ⟨isVal (.pointer (some ⟨gf, 1, none⟩)), step_field 25 (.tmp 5) 1 ⟨gf, 0, none⟩ ⟨gf, 1, none⟩ (by kernel_rfl) (wanted_some 33 137 false (by kernel_rfl) (by kernel_rfl) (by kernel_rfl) (by kernel_rfl)) (knows_old 5 (.pointer (some ⟨gf, 0, none⟩)) (by kernel_rfl) e5) (field_fl gf 1 (by omega)), ?_⟩
  refine ⟨isVal (.slice (some ⟨df, qf, none⟩) mm sf), step_read 23 (.tmp 143) ⟨gf, 1, none⟩ (.slice (some ⟨df, qf, none⟩) mm sf) (by kernel_rfl) (wanted_some 33 137 false (by kernel_rfl) (by kernel_rfl) (by kernel_rfl) (by kernel_rfl)) (knows_new (V := isVal (.pointer (some ⟨gf, 1, none⟩))) 143 39 (by kernel_rfl) (by kernel_rfl) (by kernel_rfl)) Cf.2.2.1 Cf.1 agg_ints, ?_⟩
  refine ⟨isVal (.int .i64 (k : Int)), step_move (.tmp 1) (by kernel_rfl) (wanted_some 33 137 false (by kernel_rfl) (by kernel_rfl) (by kernel_rfl) (by kernel_rfl)) (stable_val _) (knows_old 1 (.int .i64 (k : Int)) (by kernel_rfl) e1), ?_⟩
  refine ⟨isVal (.pointer (some ⟨df, qf + k, none⟩)), step_place 23 3 (.tmp 144) (.tmp 145) df qf mm sf k (by kernel_rfl) (wanted_some 33 137 false (by kernel_rfl) (by kernel_rfl) (by kernel_rfl) (by kernel_rfl)) (knows_new (V := isVal (.slice (some ⟨df, qf, none⟩) mm sf)) 144 40 (by kernel_rfl) (by kernel_rfl) (by kernel_rfl)) (knows_new (V := isVal (.int .i64 (k : Int))) 145 41 (by kernel_rfl) (by kernel_rfl) (by kernel_rfl)) Try.underlying23 (by kernel_rfl) hkm, ?_⟩
  refine ⟨isVal (.int .i64 x2), step_read 3 (.tmp 146) ⟨df, qf + k, none⟩ (.int .i64 x2) (by kernel_rfl) (wanted_some 33 137 false (by kernel_rfl) (by kernel_rfl) (by kernel_rfl) (by kernel_rfl)) (knows_new (V := isVal (.pointer (some ⟨df, qf + k, none⟩))) 146 42 (by kernel_rfl) (by kernel_rfl) (by kernel_rfl)) Rf ldf agg_int, ?_⟩
  refine ⟨isVal (.int .i64 (x2 + 1)), step_bin .add 3 3 (.tmp 147) (.const (.int .i64 1)) (.int .i64 x2) (.int .i64 1) (.int .i64 (x2 + 1)) (by kernel_rfl) (wanted_some 33 137 false (by kernel_rfl) (by kernel_rfl) (by kernel_rfl) (by kernel_rfl)) (knows_new (V := isVal (.int .i64 x2)) 147 43 (by kernel_rfl) (by kernel_rfl) (by kernel_rfl)) (knows_const _) (fun _ => rfl) (fun w => add_one x2 hx0 hx1 w), ?_⟩
  refine ⟨isVal (.int .i64 x1), step_min .i64 3 3 (.tmp 148) (.const (.int .i64 2147483647)) (x2 + 1) 2147483647 x1 (by kernel_rfl) (wanted_some 33 137 false (by kernel_rfl) (by kernel_rfl) (by kernel_rfl) (by kernel_rfl)) (knows_new (V := isVal (.int .i64 (x2 + 1))) 148 44 (by kernel_rfl) (by kernel_rfl) (by kernel_rfl)) (knows_const _) hx, ?_⟩
  refine ⟨isVal (.bool false), step_bin .neq 3 3 (.tmp 142) (.tmp 149) (.int .i64 x1) (.int .i64 x1) (.bool false) (by kernel_rfl) (wanted_some 33 137 false (by kernel_rfl) (by kernel_rfl) (by kernel_rfl) (by kernel_rfl)) (knows_new (V := isVal (.int .i64 x1)) 142 38 (by kernel_rfl) (by kernel_rfl) (by kernel_rfl)) (knows_new (V := isVal (.int .i64 x1)) 149 45 (by kernel_rfl) (by kernel_rfl) (by kernel_rfl)) (fun _ => rfl) (neq_int _ _ _ _ _ (by simp)), ?_⟩
  refine ⟨isVal (.bool false), step_pick (.tmp 137) (.const (.bool true)) (.tmp 150) false (by kernel_rfl) (wanted_none (by kernel_rfl)) (stable_val _) (knows_new (V := isVal (.bool false)) 137 33 (by kernel_rfl) (by kernel_rfl) (by kernel_rfl)) (knows_new (V := isVal (.bool false)) 150 46 (by kernel_rfl) (by kernel_rfl) (by kernel_rfl)), ?_⟩
  intro a w hkp hb hd
  rw [kept_of hkp [some 104, some 105, some 106, some 107, some 108, some 109, some 110, some 111, some 112, some 113, some 114, some 115, some 116, some 117, some 118, some 119, some 120, some 121, some 122, some 123, some 124, some 125, some 126, some 127, some 128, some 129, some 130, some 131, some 132, some 133, some 134, some 135, some 136, some 137, some 138, some 139, some 140, some 141, some 142, some 143, some 144, some 145, some 146, some 147, some 148, some 149, some 150, some 151] [104, 105, 106, 107, 108, 109, 110, 111, 112, 113, 114, 115, 116, 117, 118, 119, 120, 121, 122, 123, 124, 125, 126, 127, 128, 129, 130, 131, 132, 133, 134, 135, 136, 137, 138, 139, 140, 141, 142, 143, 144, 145, 146, 147, 148, 149, 150, 151] (by kernel_rfl) (by decide)]
  exact hQ (fun s => a.tmps.getD s undef) w (fdone_of (hd 47 (by rw [show bet15.size = 48 by kernel_rfl]; decide)) (t := 151) (V := isVal (.bool false)) (by kernel_rfl) (by kernel_rfl)) hb

noncomputable def bet18 : Array Oper := regionOf Try.f5 18
set_option maxRecDepth 100000 in
set_option maxHeartbeats 4000000 in
theorem bet18_wp (Q : Exit → Act → World → Prop) (a0 : Act) (w0 : World) (hsz : a0.tmps.size = 305) (nn mm k : Nat) (gc bc oc cc dc qc sc : Nat) (gd bd od cd dd qd sd : Nat) (gf bf of cf df qf sf : Nat) (fc fd ff : Int) (tc td tf : List UInt8) (df_ : Bool) (p cP : List UInt8) (hkn : k < nn) (Cc : Cells5 w0 gc (.slice (some ⟨bc, oc, none⟩) nn cc) (.slice (some ⟨dc, qc, none⟩) mm sc) (.int .i64 fc) (strC tc) (.bool true)) (Cd : Cells5 w0 gd (.slice (some ⟨bd, od, none⟩) nn cd) (.slice (some ⟨dd, qd, none⟩) mm sd) (.int .i64 fd) (strC td) (.bool false)) (Cf : Cells5 w0 gf (.slice (some ⟨bf, of, none⟩) nn cf) (.slice (some ⟨df, qf, none⟩) mm sf) (.int .i64 ff) (strC tf) (.bool df_)) (Pc : w0.cell? ⟨bc, oc + k, none⟩ = some (.string ⟨cP.toArray⟩)) (lbc : bc < w0.heap.size) (hor : ∀ w : World, Below w0.heap.size w0 w → Calls Try.prog 26 #[.string ⟨p.toArray⟩, .string ⟨cP.toArray⟩] w fun e w' => ∃ y, e = .returned y ∧ isVal (.string ⟨cP.toArray⟩) y w' ∧ Below w.heap.size w w') (hints : ∀ w : World, Below w0.heap.size w0 w → Calls Try.prog 27 #[.slice (some ⟨dc, qc, none⟩) mm sc, .slice (some ⟨df, qf, none⟩) mm sf] w fun e w' => ∃ y, e = .returned y ∧ isVal (.bool true) y w' ∧ Below w.heap.size w w') (hfree : ∀ w : World, Below w0.heap.size w0 w → Calls Try.prog 24 #[.agg #[.slice (some ⟨bd, od, none⟩) nn cd, .slice (some ⟨dd, qd, none⟩) mm sd, .int .i64 fd, strC td, .bool false], .int .i64 (k : Int)] w fun e w' => ∃ y, e = .returned y ∧ isVal (.bool true) y w' ∧ Below w.heap.size w w') (e25 : a0.tmps.getD 25 undef = .string ⟨p.toArray⟩) (e1 : a0.tmps.getD 1 undef = .int .i64 (k : Int)) (e21 : a0.tmps.getD 21 undef = .pointer (some ⟨gc, 0, none⟩)) (e23 : a0.tmps.getD 23 undef = .pointer (some ⟨gd, 0, none⟩)) (e5 : a0.tmps.getD 5 undef = .pointer (some ⟨gf, 0, none⟩))
    (hQ : ∀ (f : Nat → Value) (w : World), f 183 = .bool false → Below w0.heap.size w0 w → Q .normal { tmps := [157, 158, 159, 160, 161, 162, 163, 164, 165, 166, 167, 168, 169, 170, 171, 172, 173, 174, 175, 176, 177, 178, 179, 180, 181, 182, 183].foldl (fun t s => t.setIfInBounds s (f s)) a0.tmps, defers := a0.defers } w) :
    (Code.region 18 bet18 true).wp Try.prog Q a0 w0 := by
  refine wp_region_flow mixed (by rw [hsz]; kernel_rfl) ?_
  rw [show bet18.size = 27 by kernel_rfl]
  refine ⟨isVal (.string ⟨p.toArray⟩), step_move (.tmp 25) (by kernel_rfl) (wanted_none (by kernel_rfl)) (stable_val _) (knows_old 25 (.string ⟨p.toArray⟩) (by kernel_rfl) e25), ?_⟩
  refine ⟨isVal (.pointer (some ⟨gc, 0, none⟩)), step_field 25 (.tmp 21) 0 ⟨gc, 0, none⟩ ⟨gc, 0, none⟩ (by kernel_rfl) (wanted_none (by kernel_rfl)) (knows_old 21 (.pointer (some ⟨gc, 0, none⟩)) (by kernel_rfl) e21) (field_fl gc 0 (by omega)), ?_⟩
  refine ⟨isVal (.slice (some ⟨bc, oc, none⟩) nn cc), step_read 22 (.tmp 158) ⟨gc, 0, none⟩ (.slice (some ⟨bc, oc, none⟩) nn cc) (by kernel_rfl) (wanted_none (by kernel_rfl)) (knows_new (V := isVal (.pointer (some ⟨gc, 0, none⟩))) 158 1 (by kernel_rfl) (by kernel_rfl) (by kernel_rfl)) Cc.2.1 Cc.1 agg_strs, ?_⟩
  refine ⟨isVal (.int .i64 (k : Int)), step_move (.tmp 1) (by kernel_rfl) (wanted_none (by kernel_rfl)) (stable_val _) (knows_old 1 (.int .i64 (k : Int)) (by kernel_rfl) e1), ?_⟩
  refine ⟨isVal (.pointer (some ⟨bc, oc + k, none⟩)), step_place 22 9 (.tmp 159) (.tmp 160) bc oc nn cc k (by kernel_rfl) (wanted_none (by kernel_rfl)) (knows_new (V := isVal (.slice (some ⟨bc, oc, none⟩) nn cc)) 159 2 (by kernel_rfl) (by kernel_rfl) (by kernel_rfl)) (knows_new (V := isVal (.int .i64 (k : Int))) 160 3 (by kernel_rfl) (by kernel_rfl) (by kernel_rfl)) Try.underlying22 (by kernel_rfl) hkn, ?_⟩
  refine ⟨isVal (.string ⟨cP.toArray⟩), step_read 9 (.tmp 161) ⟨bc, oc + k, none⟩ (.string ⟨cP.toArray⟩) (by kernel_rfl) (wanted_none (by kernel_rfl)) (knows_new (V := isVal (.pointer (some ⟨bc, oc + k, none⟩))) 161 4 (by kernel_rfl) (by kernel_rfl) (by kernel_rfl)) Pc lbc agg_str, ?_⟩
  refine ⟨isVal (.string ⟨cP.toArray⟩), step_call 26 #[.tmp 157, .tmp 162] #[9, 9] #[.string ⟨p.toArray⟩, .string ⟨cP.toArray⟩] (by kernel_rfl) (wanted_none (by kernel_rfl)) (stable_val _) (args2 (.tmp 157) (.tmp 162) (.string ⟨p.toArray⟩) (.string ⟨cP.toArray⟩) (knows_new (V := isVal (.string ⟨p.toArray⟩)) 157 0 (by kernel_rfl) (by kernel_rfl) (by kernel_rfl)) (knows_new (V := isVal (.string ⟨cP.toArray⟩)) 162 5 (by kernel_rfl) (by kernel_rfl) (by kernel_rfl))) (enters_of Try.func26 (by kernel_rfl) rfl) (by intro w hb; exact hor w hb), ?_⟩
  refine ⟨isVal (.pointer (some ⟨gc, 0, none⟩)), step_field 25 (.tmp 21) 0 ⟨gc, 0, none⟩ ⟨gc, 0, none⟩ (by kernel_rfl) (wanted_none (by kernel_rfl)) (knows_old 21 (.pointer (some ⟨gc, 0, none⟩)) (by kernel_rfl) e21) (field_fl gc 0 (by omega)), ?_⟩
  refine ⟨isVal (.slice (some ⟨bc, oc, none⟩) nn cc), step_read 22 (.tmp 164) ⟨gc, 0, none⟩ (.slice (some ⟨bc, oc, none⟩) nn cc) (by kernel_rfl) (wanted_none (by kernel_rfl)) (knows_new (V := isVal (.pointer (some ⟨gc, 0, none⟩))) 164 7 (by kernel_rfl) (by kernel_rfl) (by kernel_rfl)) Cc.2.1 Cc.1 agg_strs, ?_⟩
  refine ⟨isVal (.int .i64 (k : Int)), step_move (.tmp 1) (by kernel_rfl) (wanted_none (by kernel_rfl)) (stable_val _) (knows_old 1 (.int .i64 (k : Int)) (by kernel_rfl) e1), ?_⟩
  refine ⟨isVal (.pointer (some ⟨bc, oc + k, none⟩)), step_place 22 9 (.tmp 165) (.tmp 166) bc oc nn cc k (by kernel_rfl) (wanted_none (by kernel_rfl)) (knows_new (V := isVal (.slice (some ⟨bc, oc, none⟩) nn cc)) 165 8 (by kernel_rfl) (by kernel_rfl) (by kernel_rfl)) (knows_new (V := isVal (.int .i64 (k : Int))) 166 9 (by kernel_rfl) (by kernel_rfl) (by kernel_rfl)) Try.underlying22 (by kernel_rfl) hkn, ?_⟩
  refine ⟨isVal (.string ⟨cP.toArray⟩), step_read 9 (.tmp 167) ⟨bc, oc + k, none⟩ (.string ⟨cP.toArray⟩) (by kernel_rfl) (wanted_none (by kernel_rfl)) (knows_new (V := isVal (.pointer (some ⟨bc, oc + k, none⟩))) 167 10 (by kernel_rfl) (by kernel_rfl) (by kernel_rfl)) Pc lbc agg_str, ?_⟩
  refine ⟨isVal (.bool false), step_bin .neq 9 9 (.tmp 163) (.tmp 168) (.string ⟨cP.toArray⟩) (.string ⟨cP.toArray⟩) (.bool false) (by kernel_rfl) (wanted_none (by kernel_rfl)) (knows_new (V := isVal (.string ⟨cP.toArray⟩)) 163 6 (by kernel_rfl) (by kernel_rfl) (by kernel_rfl)) (knows_new (V := isVal (.string ⟨cP.toArray⟩)) 168 11 (by kernel_rfl) (by kernel_rfl) (by kernel_rfl)) (fun _ => rfl) (neq_str _ _ _ _ (by simp)), ?_⟩
  refine ⟨isVal (.bool false), step_move (.tmp 169) (by kernel_rfl) (wanted_none (by kernel_rfl)) (stable_val _) (knows_new (V := isVal (.bool false)) 169 12 (by kernel_rfl) (by kernel_rfl) (by kernel_rfl)), ?_⟩
  refine ⟨isVal (.pointer (some ⟨gc, 1, none⟩)), step_field 25 (.tmp 21) 1 ⟨gc, 0, none⟩ ⟨gc, 1, none⟩ (by kernel_rfl) (wanted_some 13 170 false (by kernel_rfl) (by kernel_rfl) (by kernel_rfl) (by kernel_rfl)) (knows_old 21 (.pointer (some ⟨gc, 0, none⟩)) (by kernel_rfl) e21) (field_fl gc 1 (by omega)), ?_⟩
  refine ⟨isVal (.slice (some ⟨dc, qc, none⟩) mm sc), step_read 23 (.tmp 171) ⟨gc, 1, none⟩ (.slice (some ⟨dc, qc, none⟩) mm sc) (by kernel_rfl) (wanted_some 13 170 false (by kernel_rfl) (by kernel_rfl) (by kernel_rfl) (by kernel_rfl)) (knows_new (V := isVal (.pointer (some ⟨gc, 1, none⟩))) 171 14 (by kernel_rfl) (by kernel_rfl) (by kernel_rfl)) Cc.2.2.1 Cc.1 agg_ints, ?_⟩
  refine ⟨isVal (.pointer (some ⟨gf, 1, none⟩)), step_field 25 (.tmp 5) 1 ⟨gf, 0, none⟩ ⟨gf, 1, none⟩ (by kernel_rfl) (wanted_some 13 170 false (by kernel_rfl) (by kernel_rfl) (by kernel_rfl) (by kernel_rfl)) (knows_old 5 (.pointer (some ⟨gf, 0, none⟩)) (by kernel_rfl) e5) (field_fl gf 1 (by omega)), ?_⟩
  refine ⟨isVal (.slice (some ⟨df, qf, none⟩) mm sf), step_read 23 (.tmp 173) ⟨gf, 1, none⟩ (.slice (some ⟨df, qf, none⟩) mm sf) (by kernel_rfl) (wanted_some 13 170 false (by kernel_rfl) (by kernel_rfl) (by kernel_rfl) (by kernel_rfl)) (knows_new (V := isVal (.pointer (some ⟨gf, 1, none⟩))) 173 16 (by kernel_rfl) (by kernel_rfl) (by kernel_rfl)) Cf.2.2.1 Cf.1 agg_ints, ?_⟩
  refine ⟨isVal (.bool true), step_call 27 #[.tmp 172, .tmp 174] #[23, 23] #[.slice (some ⟨dc, qc, none⟩) mm sc, .slice (some ⟨df, qf, none⟩) mm sf] (by kernel_rfl) (wanted_some 13 170 false (by kernel_rfl) (by kernel_rfl) (by kernel_rfl) (by kernel_rfl)) (stable_val _) (args2 (.tmp 172) (.tmp 174) (.slice (some ⟨dc, qc, none⟩) mm sc) (.slice (some ⟨df, qf, none⟩) mm sf) (knows_new (V := isVal (.slice (some ⟨dc, qc, none⟩) mm sc)) 172 15 (by kernel_rfl) (by kernel_rfl) (by kernel_rfl)) (knows_new (V := isVal (.slice (some ⟨df, qf, none⟩) mm sf)) 174 17 (by kernel_rfl) (by kernel_rfl) (by kernel_rfl))) (enters_of Try.func27 (by kernel_rfl) rfl) (by intro w hb; exact hints w hb), ?_⟩
  refine ⟨isVal (.bool false), step_un .not 4 (.tmp 175) (.bool true) (.bool false) (by kernel_rfl) (wanted_some 13 170 false (by kernel_rfl) (by kernel_rfl) (by kernel_rfl) (by kernel_rfl)) (knows_new (V := isVal (.bool true)) 175 18 (by kernel_rfl) (by kernel_rfl) (by kernel_rfl)) (fun _ => rfl), ?_⟩
  refine ⟨isVal (.bool false), step_pick (.tmp 170) (.const (.bool true)) (.tmp 176) false (by kernel_rfl) (wanted_none (by kernel_rfl)) (stable_val _) (knows_new (V := isVal (.bool false)) 170 13 (by kernel_rfl) (by kernel_rfl) (by kernel_rfl)) (knows_new (V := isVal (.bool false)) 176 19 (by kernel_rfl) (by kernel_rfl) (by kernel_rfl)), ?_⟩
  refine ⟨isVal (.bool false), step_move (.tmp 177) (by kernel_rfl) (wanted_none (by kernel_rfl)) (stable_val _) (knows_new (V := isVal (.bool false)) 177 20 (by kernel_rfl) (by kernel_rfl) (by kernel_rfl)), ?_⟩
  refine ⟨isVal (.agg #[.slice (some ⟨bd, od, none⟩) nn cd, .slice (some ⟨dd, qd, none⟩) mm sd, .int .i64 fd, strC td, .bool false]), step_load5 (.tmp 23) gd (by kernel_rfl) (wanted_some 21 178 false (by kernel_rfl) (by kernel_rfl) (by kernel_rfl) (by kernel_rfl)) (knows_old 23 (.pointer (some ⟨gd, 0, none⟩)) (by kernel_rfl) e23) Cd, ?_⟩
  refine ⟨isVal (.int .i64 (k : Int)), step_move (.tmp 1) (by kernel_rfl) (wanted_some 21 178 false (by kernel_rfl) (by kernel_rfl) (by kernel_rfl) (by kernel_rfl)) (stable_val _) (knows_old 1 (.int .i64 (k : Int)) (by kernel_rfl) e1), ?_⟩
  refine ⟨isVal (.bool true), step_call 24 #[.tmp 179, .tmp 180] #[25, 3] #[.agg #[.slice (some ⟨bd, od, none⟩) nn cd, .slice (some ⟨dd, qd, none⟩) mm sd, .int .i64 fd, strC td, .bool false], .int .i64 (k : Int)] (by kernel_rfl) (wanted_some 21 178 false (by kernel_rfl) (by kernel_rfl) (by kernel_rfl) (by kernel_rfl)) (stable_val _) (args2 (.tmp 179) (.tmp 180) (.agg #[.slice (some ⟨bd, od, none⟩) nn cd, .slice (some ⟨dd, qd, none⟩) mm sd, .int .i64 fd, strC td, .bool false]) (.int .i64 (k : Int)) (knows_new (V := isVal (.agg #[.slice (some ⟨bd, od, none⟩) nn cd, .slice (some ⟨dd, qd, none⟩) mm sd, .int .i64 fd, strC td, .bool false])) 179 22 (by kernel_rfl) (by kernel_rfl) (by kernel_rfl)) (knows_new (V := isVal (.int .i64 (k : Int))) 180 23 (by kernel_rfl) (by kernel_rfl) (by kernel_rfl))) (enters_of Try.func24 (by kernel_rfl) rfl) (by intro w hb; exact hfree w hb), ?_⟩
  refine ⟨isVal (.bool false), step_un .not 4 (.tmp 181) (.bool true) (.bool false) (by kernel_rfl) (wanted_some 21 178 false (by kernel_rfl) (by kernel_rfl) (by kernel_rfl) (by kernel_rfl)) (knows_new (V := isVal (.bool true)) 181 24 (by kernel_rfl) (by kernel_rfl) (by kernel_rfl)) (fun _ => rfl), ?_⟩
  refine ⟨isVal (.bool false), step_pick (.tmp 178) (.const (.bool true)) (.tmp 182) false (by kernel_rfl) (wanted_none (by kernel_rfl)) (stable_val _) (knows_new (V := isVal (.bool false)) 178 21 (by kernel_rfl) (by kernel_rfl) (by kernel_rfl)) (knows_new (V := isVal (.bool false)) 182 25 (by kernel_rfl) (by kernel_rfl) (by kernel_rfl)), ?_⟩
  intro a w hkp hb hd
  rw [kept_of hkp [some 157, some 158, some 159, some 160, some 161, some 162, some 163, some 164, some 165, some 166, some 167, some 168, some 169, some 170, some 171, some 172, some 173, some 174, some 175, some 176, some 177, some 178, some 179, some 180, some 181, some 182, some 183] [157, 158, 159, 160, 161, 162, 163, 164, 165, 166, 167, 168, 169, 170, 171, 172, 173, 174, 175, 176, 177, 178, 179, 180, 181, 182, 183] (by kernel_rfl) (by decide)]
  exact hQ (fun s => a.tmps.getD s undef) w (fdone_of (hd 26 (by rw [show bet18.size = 27 by kernel_rfl]; decide)) (t := 183) (V := isVal (.bool false)) (by kernel_rfl) (by kernel_rfl)) hb

noncomputable def bet25 : Array Oper := regionOf Try.f5 25
set_option maxRecDepth 100000 in
set_option maxHeartbeats 4000000 in
theorem bet25_wp (Q : Exit → Act → World → Prop) (a0 : Act) (w0 : World) (hsz : a0.tmps.size = 305) (nn mm k : Nat) (j : Nat) (p : List UInt8) (hj : j < nn) (hne : ((j : Int) != (k : Int)) = true) (ga ba oa ca da qa sa : Nat) (Ca : w0.cell? ⟨ga, 0, none⟩ = some (.slice (some ⟨ba, oa, none⟩) nn ca)) (la : ga < w0.heap.size) (Pa : w0.cell? ⟨ba, oa + j, none⟩ = some (.string ⟨p.toArray⟩)) (lba : ba < w0.heap.size) (gb bb ob cb db qb sb : Nat) (Cb : w0.cell? ⟨gb, 0, none⟩ = some (.slice (some ⟨bb, ob, none⟩) nn cb)) (lb : gb < w0.heap.size) (Pb : w0.cell? ⟨bb, ob + j, none⟩ = some (.string ⟨p.toArray⟩)) (lbb : bb < w0.heap.size) (gc bc oc cc dc qc sc : Nat) (Cc : w0.cell? ⟨gc, 0, none⟩ = some (.slice (some ⟨bc, oc, none⟩) nn cc)) (lc : gc < w0.heap.size) (Pc : w0.cell? ⟨bc, oc + j, none⟩ = some (.string ⟨p.toArray⟩)) (lbc : bc < w0.heap.size) (gd bd od cd dd qd sd : Nat) (Cd : w0.cell? ⟨gd, 0, none⟩ = some (.slice (some ⟨bd, od, none⟩) nn cd)) (ld : gd < w0.heap.size) (Pd : w0.cell? ⟨bd, od + j, none⟩ = some (.string ⟨p.toArray⟩)) (lbd : bd < w0.heap.size) (gf bf of cf df qf sf : Nat) (Cf : w0.cell? ⟨gf, 0, none⟩ = some (.slice (some ⟨bf, of, none⟩) nn cf)) (lf : gf < w0.heap.size) (Pf : w0.cell? ⟨bf, of + j, none⟩ = some (.string ⟨p.toArray⟩)) (lbf : bf < w0.heap.size) (e26 : a0.tmps.getD 26 undef = .int .i64 (j : Int)) (e1 : a0.tmps.getD 1 undef = .int .i64 (k : Int)) (e17 : a0.tmps.getD 17 undef = .pointer (some ⟨ga, 0, none⟩)) (e19 : a0.tmps.getD 19 undef = .pointer (some ⟨gb, 0, none⟩)) (e21 : a0.tmps.getD 21 undef = .pointer (some ⟨gc, 0, none⟩)) (e23 : a0.tmps.getD 23 undef = .pointer (some ⟨gd, 0, none⟩)) (e5 : a0.tmps.getD 5 undef = .pointer (some ⟨gf, 0, none⟩))
    (hQ : ∀ (f : Nat → Value) (w : World), f 253 = .bool false → Below w0.heap.size w0 w → Q .normal { tmps := [199, 200, 201, 202, 203, 204, 205, 206, 207, 208, 209, 210, 211, 212, 213, 214, 215, 216, 217, 218, 219, 220, 221, 222, 223, 224, 225, 226, 227, 228, 229, 230, 231, 232, 233, 234, 235, 236, 237, 238, 239, 240, 241, 242, 243, 244, 245, 246, 247, 248, 249, 250, 251, 252, 253].foldl (fun t s => t.setIfInBounds s (f s)) a0.tmps, defers := a0.defers } w) :
    (Code.region 25 bet25 true).wp Try.prog Q a0 w0 := by
  refine wp_region_flow mixed (by rw [hsz]; kernel_rfl) ?_
  rw [show bet25.size = 55 by kernel_rfl]
  refine ⟨isVal (.int .i64 (j : Int)), step_move (.tmp 26) (by kernel_rfl) (wanted_none (by kernel_rfl)) (stable_val _) (knows_old 26 (.int .i64 (j : Int)) (by kernel_rfl) e26), ?_⟩
  refine ⟨isVal (.int .i64 (k : Int)), step_move (.tmp 1) (by kernel_rfl) (wanted_none (by kernel_rfl)) (stable_val _) (knows_old 1 (.int .i64 (k : Int)) (by kernel_rfl) e1), ?_⟩
  refine ⟨isVal (.bool true), step_bin .neq 3 3 (.tmp 199) (.tmp 200) (.int .i64 (j : Int)) (.int .i64 (k : Int)) (.bool true) (by kernel_rfl) (wanted_none (by kernel_rfl)) (knows_new (V := isVal (.int .i64 (j : Int))) 199 0 (by kernel_rfl) (by kernel_rfl) (by kernel_rfl)) (knows_new (V := isVal (.int .i64 (k : Int))) 200 1 (by kernel_rfl) (by kernel_rfl) (by kernel_rfl)) (fun _ => rfl) (neq_int _ _ _ _ _ hne), ?_⟩
  refine ⟨isVal (.bool true), step_move (.tmp 201) (by kernel_rfl) (wanted_none (by kernel_rfl)) (stable_val _) (knows_new (V := isVal (.bool true)) 201 2 (by kernel_rfl) (by kernel_rfl) (by kernel_rfl)), ?_⟩
  refine ⟨isVal (.pointer (some ⟨ga, 0, none⟩)), step_field 25 (.tmp 17) 0 ⟨ga, 0, none⟩ ⟨ga, 0, none⟩ (by kernel_rfl) (wanted_some 3 202 true (by kernel_rfl) (by kernel_rfl) (by kernel_rfl) (by kernel_rfl)) (knows_old 17 (.pointer (some ⟨ga, 0, none⟩)) (by kernel_rfl) e17) (field_fl ga 0 (by omega)), ?_⟩
  refine ⟨isVal (.slice (some ⟨ba, oa, none⟩) nn ca), step_read 22 (.tmp 203) ⟨ga, 0, none⟩ (.slice (some ⟨ba, oa, none⟩) nn ca) (by kernel_rfl) (wanted_some 3 202 true (by kernel_rfl) (by kernel_rfl) (by kernel_rfl) (by kernel_rfl)) (knows_new (V := isVal (.pointer (some ⟨ga, 0, none⟩))) 203 4 (by kernel_rfl) (by kernel_rfl) (by kernel_rfl)) Ca la agg_strs, ?_⟩
  refine ⟨isVal (.int .i64 (j : Int)), step_move (.tmp 26) (by kernel_rfl) (wanted_some 3 202 true (by kernel_rfl) (by kernel_rfl) (by kernel_rfl) (by kernel_rfl)) (stable_val _) (knows_old 26 (.int .i64 (j : Int)) (by kernel_rfl) e26), ?_⟩
  refine ⟨isVal (.pointer (some ⟨ba, oa + j, none⟩)), step_place 22 9 (.tmp 204) (.tmp 205) ba oa nn ca j (by kernel_rfl) (wanted_some 3 202 true (by kernel_rfl) (by kernel_rfl) (by kernel_rfl) (by kernel_rfl)) (knows_new (V := isVal (.slice (some ⟨ba, oa, none⟩) nn ca)) 204 5 (by kernel_rfl) (by kernel_rfl) (by kernel_rfl)) (knows_new (V := isVal (.int .i64 (j : Int))) 205 6 (by kernel_rfl) (by kernel_rfl) (by kernel_rfl)) Try.underlying22 (by kernel_rfl) hj, ?_⟩
  refine ⟨isVal (.string ⟨p.toArray⟩), step_read 9 (.tmp 206) ⟨ba, oa + j, none⟩ (.string ⟨p.toArray⟩) (by kernel_rfl) (wanted_some 3 202 true (by kernel_rfl) (by kernel_rfl) (by kernel_rfl) (by kernel_rfl)) (knows_new (V := isVal (.pointer (some ⟨ba, oa + j, none⟩))) 206 7 (by kernel_rfl) (by kernel_rfl) (by kernel_rfl)) Pa lba agg_str, ?_⟩
  refine ⟨isVal (.pointer (some ⟨gf, 0, none⟩)), step_field 25 (.tmp 5) 0 ⟨gf, 0, none⟩ ⟨gf, 0, none⟩ (by kernel_rfl) (wanted_some 3 202 true (by kernel_rfl) (by kernel_rfl) (by kernel_rfl) (by kernel_rfl)) (knows_old 5 (.pointer (some ⟨gf, 0, none⟩)) (by kernel_rfl) e5) (field_fl gf 0 (by omega)), ?_⟩
  refine ⟨isVal (.slice (some ⟨bf, of, none⟩) nn cf), step_read 22 (.tmp 208) ⟨gf, 0, none⟩ (.slice (some ⟨bf, of, none⟩) nn cf) (by kernel_rfl) (wanted_some 3 202 true (by kernel_rfl) (by kernel_rfl) (by kernel_rfl) (by kernel_rfl)) (knows_new (V := isVal (.pointer (some ⟨gf, 0, none⟩))) 208 9 (by kernel_rfl) (by kernel_rfl) (by kernel_rfl)) Cf lf agg_strs, ?_⟩
  refine ⟨isVal (.int .i64 (j : Int)), step_move (.tmp 26) (by kernel_rfl) (wanted_some 3 202 true (by kernel_rfl) (by kernel_rfl) (by kernel_rfl) (by kernel_rfl)) (stable_val _) (knows_old 26 (.int .i64 (j : Int)) (by kernel_rfl) e26), ?_⟩
  refine ⟨isVal (.pointer (some ⟨bf, of + j, none⟩)), step_place 22 9 (.tmp 209) (.tmp 210) bf of nn cf j (by kernel_rfl) (wanted_some 3 202 true (by kernel_rfl) (by kernel_rfl) (by kernel_rfl) (by kernel_rfl)) (knows_new (V := isVal (.slice (some ⟨bf, of, none⟩) nn cf)) 209 10 (by kernel_rfl) (by kernel_rfl) (by kernel_rfl)) (knows_new (V := isVal (.int .i64 (j : Int))) 210 11 (by kernel_rfl) (by kernel_rfl) (by kernel_rfl)) Try.underlying22 (by kernel_rfl) hj, ?_⟩
  refine ⟨isVal (.string ⟨p.toArray⟩), step_read 9 (.tmp 211) ⟨bf, of + j, none⟩ (.string ⟨p.toArray⟩) (by kernel_rfl) (wanted_some 3 202 true (by kernel_rfl) (by kernel_rfl) (by kernel_rfl) (by kernel_rfl)) (knows_new (V := isVal (.pointer (some ⟨bf, of + j, none⟩))) 211 12 (by kernel_rfl) (by kernel_rfl) (by kernel_rfl)) Pf lbf agg_str, ?_⟩
  refine ⟨isVal (.bool false), step_bin .neq 9 9 (.tmp 207) (.tmp 212) (.string ⟨p.toArray⟩) (.string ⟨p.toArray⟩) (.bool false) (by kernel_rfl) (wanted_some 3 202 true (by kernel_rfl) (by kernel_rfl) (by kernel_rfl) (by kernel_rfl)) (knows_new (V := isVal (.string ⟨p.toArray⟩)) 207 8 (by kernel_rfl) (by kernel_rfl) (by kernel_rfl)) (knows_new (V := isVal (.string ⟨p.toArray⟩)) 212 13 (by kernel_rfl) (by kernel_rfl) (by kernel_rfl)) (fun _ => rfl) (neq_str _ _ _ _ (by simp)), ?_⟩
  refine ⟨isVal (.bool false), step_move (.tmp 213) (by kernel_rfl) (wanted_some 3 202 true (by kernel_rfl) (by kernel_rfl) (by kernel_rfl) (by kernel_rfl)) (stable_val _) (knows_new (V := isVal (.bool false)) 213 14 (by kernel_rfl) (by kernel_rfl) (by kernel_rfl)), ?_⟩
  refine ⟨isVal (.pointer (some ⟨gb, 0, none⟩)), step_field 25 (.tmp 19) 0 ⟨gb, 0, none⟩ ⟨gb, 0, none⟩ (by kernel_rfl) (wanted_some 15 214 false (by kernel_rfl) (by kernel_rfl) (by kernel_rfl) (by kernel_rfl)) (knows_old 19 (.pointer (some ⟨gb, 0, none⟩)) (by kernel_rfl) e19) (field_fl gb 0 (by omega)), ?_⟩
  refine ⟨isVal (.slice (some ⟨bb, ob, none⟩) nn cb), step_read 22 (.tmp 215) ⟨gb, 0, none⟩ (.slice (some ⟨bb, ob, none⟩) nn cb) (by kernel_rfl) (wanted_some 15 214 false (by kernel_rfl) (by kernel_rfl) (by kernel_rfl) (by kernel_rfl)) (knows_new (V := isVal (.pointer (some ⟨gb, 0, none⟩))) 215 16 (by kernel_rfl) (by kernel_rfl) (by kernel_rfl)) Cb lb agg_strs, ?_⟩
  refine ⟨isVal (.int .i64 (j : Int)), step_move (.tmp 26) (by kernel_rfl) (wanted_some 15 214 false (by kernel_rfl) (by kernel_rfl) (by kernel_rfl) (by kernel_rfl)) (stable_val _) (knows_old 26 (.int .i64 (j : Int)) (by kernel_rfl) e26), ?_⟩
  refine ⟨isVal (.pointer (some ⟨bb, ob + j, none⟩)), step_place 22 9 (.tmp 216) (.tmp 217) bb ob nn cb j (by kernel_rfl) (wanted_some 15 214 false (by kernel_rfl) (by kernel_rfl) (by kernel_rfl) (by kernel_rfl)) (knows_new (V := isVal (.slice (some ⟨bb, ob, none⟩) nn cb)) 216 17 (by kernel_rfl) (by kernel_rfl) (by kernel_rfl)) (knows_new (V := isVal (.int .i64 (j : Int))) 217 18 (by kernel_rfl) (by kernel_rfl) (by kernel_rfl)) Try.underlying22 (by kernel_rfl) hj, ?_⟩
  refine ⟨isVal (.string ⟨p.toArray⟩), step_read 9 (.tmp 218) ⟨bb, ob + j, none⟩ (.string ⟨p.toArray⟩) (by kernel_rfl) (wanted_some 15 214 false (by kernel_rfl) (by kernel_rfl) (by kernel_rfl) (by kernel_rfl)) (knows_new (V := isVal (.pointer (some ⟨bb, ob + j, none⟩))) 218 19 (by kernel_rfl) (by kernel_rfl) (by kernel_rfl)) Pb lbb agg_str, ?_⟩
  refine ⟨isVal (.pointer (some ⟨gf, 0, none⟩)), step_field 25 (.tmp 5) 0 ⟨gf, 0, none⟩ ⟨gf, 0, none⟩ (by kernel_rfl) (wanted_some 15 214 false (by kernel_rfl) (by kernel_rfl) (by kernel_rfl) (by kernel_rfl)) (knows_old 5 (.pointer (some ⟨gf, 0, none⟩)) (by kernel_rfl) e5) (field_fl gf 0 (by omega)), ?_⟩
  refine ⟨isVal (.slice (some ⟨bf, of, none⟩) nn cf), step_read 22 (.tmp 220) ⟨gf, 0, none⟩ (.slice (some ⟨bf, of, none⟩) nn cf) (by kernel_rfl) (wanted_some 15 214 false (by kernel_rfl) (by kernel_rfl) (by kernel_rfl) (by kernel_rfl)) (knows_new (V := isVal (.pointer (some ⟨gf, 0, none⟩))) 220 21 (by kernel_rfl) (by kernel_rfl) (by kernel_rfl)) Cf lf agg_strs, ?_⟩
  refine ⟨isVal (.int .i64 (j : Int)), step_move (.tmp 26) (by kernel_rfl) (wanted_some 15 214 false (by kernel_rfl) (by kernel_rfl) (by kernel_rfl) (by kernel_rfl)) (stable_val _) (knows_old 26 (.int .i64 (j : Int)) (by kernel_rfl) e26), ?_⟩
  refine ⟨isVal (.pointer (some ⟨bf, of + j, none⟩)), step_place 22 9 (.tmp 221) (.tmp 222) bf of nn cf j (by kernel_rfl) (wanted_some 15 214 false (by kernel_rfl) (by kernel_rfl) (by kernel_rfl) (by kernel_rfl)) (knows_new (V := isVal (.slice (some ⟨bf, of, none⟩) nn cf)) 221 22 (by kernel_rfl) (by kernel_rfl) (by kernel_rfl)) (knows_new (V := isVal (.int .i64 (j : Int))) 222 23 (by kernel_rfl) (by kernel_rfl) (by kernel_rfl)) Try.underlying22 (by kernel_rfl) hj, ?_⟩
  refine ⟨isVal (.string ⟨p.toArray⟩), step_read 9 (.tmp 223) ⟨bf, of + j, none⟩ (.string ⟨p.toArray⟩) (by kernel_rfl) (wanted_some 15 214 false (by kernel_rfl) (by kernel_rfl) (by kernel_rfl) (by kernel_rfl)) (knows_new (V := isVal (.pointer (some ⟨bf, of + j, none⟩))) 223 24 (by kernel_rfl) (by kernel_rfl) (by kernel_rfl)) Pf lbf agg_str, ?_⟩
  refine ⟨isVal (.bool false), step_bin .neq 9 9 (.tmp 219) (.tmp 224) (.string ⟨p.toArray⟩) (.string ⟨p.toArray⟩) (.bool false) (by kernel_rfl) (wanted_some 15 214 false (by kernel_rfl) (by kernel_rfl) (by kernel_rfl) (by kernel_rfl)) (knows_new (V := isVal (.string ⟨p.toArray⟩)) 219 20 (by kernel_rfl) (by kernel_rfl) (by kernel_rfl)) (knows_new (V := isVal (.string ⟨p.toArray⟩)) 224 25 (by kernel_rfl) (by kernel_rfl) (by kernel_rfl)) (fun _ => rfl) (neq_str _ _ _ _ (by simp)), ?_⟩
  refine ⟨isVal (.bool false), step_pick (.tmp 214) (.const (.bool true)) (.tmp 225) false (by kernel_rfl) (wanted_some 3 202 true (by kernel_rfl) (by kernel_rfl) (by kernel_rfl) (by kernel_rfl)) (stable_val _) (knows_new (V := isVal (.bool false)) 214 15 (by kernel_rfl) (by kernel_rfl) (by kernel_rfl)) (knows_new (V := isVal (.bool false)) 225 26 (by kernel_rfl) (by kernel_rfl) (by kernel_rfl)), ?_⟩
  refine ⟨isVal (.bool false), step_move (.tmp 226) (by kernel_rfl) (wanted_some 3 202 true (by kernel_rfl) (by kernel_rfl) (by kernel_rfl) (by kernel_rfl)) (stable_val _) (knows_new (V := isVal (.bool false)) 226 27 (by kernel_rfl) (by kernel_rfl) (by kernel_rfl)), ?_⟩
  refine ⟨isVal (.pointer (some ⟨gc, 0, none⟩)), step_field 25 (.tmp 21) 0 ⟨gc, 0, none⟩ ⟨gc, 0, none⟩ (by kernel_rfl) (wanted_some 28 227 false (by kernel_rfl) (by kernel_rfl) (by kernel_rfl) (by kernel_rfl)) (knows_old 21 (.pointer (some ⟨gc, 0, none⟩)) (by kernel_rfl) e21) (field_fl gc 0 (by omega)), ?_⟩
  refine ⟨isVal (.slice (some ⟨bc, oc, none⟩) nn cc), step_read 22 (.tmp 228) ⟨gc, 0, none⟩ (.slice (some ⟨bc, oc, none⟩) nn cc) (by kernel_rfl) (wanted_some 28 227 false (by kernel_rfl) (by kernel_rfl) (by kernel_rfl) (by kernel_rfl)) (knows_new (V := isVal (.pointer (some ⟨gc, 0, none⟩))) 228 29 (by kernel_rfl) (by kernel_rfl) (by kernel_rfl)) Cc lc agg_strs, ?_⟩
  refine ⟨isVal (.int .i64 (j : Int)), step_move (.tmp 26) (by kernel_rfl) (wanted_some 28 227 false (by kernel_rfl) (by kernel_rfl) (by kernel_rfl) (by kernel_rfl)) (stable_val _) (knows_old 26 (.int .i64 (j : Int)) (by kernel_rfl) e26), ?_⟩
  refine ⟨isVal (.pointer (some ⟨bc, oc + j, none⟩)), step_place 22 9 (.tmp 229) (.tmp 230) bc oc nn cc j (by kernel_rfl) (wanted_some 28 227 false (by kernel_rfl) (by kernel_rfl) (by kernel_rfl) (by kernel_rfl)) (knows_new (V := isVal (.slice (some ⟨bc, oc, none⟩) nn cc)) 229 30 (by kernel_rfl) (by kernel_rfl) (by kernel_rfl)) (knows_new (V := isVal (.int .i64 (j : Int))) 230 31 (by kernel_rfl) (by kernel_rfl) (by kernel_rfl)) Try.underlying22 (by kernel_rfl) hj, ?_⟩
  refine ⟨isVal (.string ⟨p.toArray⟩), step_read 9 (.tmp 231) ⟨bc, oc + j, none⟩ (.string ⟨p.toArray⟩) (by kernel_rfl) (wanted_some 28 227 false (by kernel_rfl) (by kernel_rfl) (by kernel_rfl) (by kernel_rfl)) (knows_new (V := isVal (.pointer (some ⟨bc, oc + j, none⟩))) 231 32 (by kernel_rfl) (by kernel_rfl) (by kernel_rfl)) Pc lbc agg_str, ?_⟩
  refine ⟨isVal (.pointer (some ⟨gf, 0, none⟩)), step_field 25 (.tmp 5) 0 ⟨gf, 0, none⟩ ⟨gf, 0, none⟩ (by kernel_rfl) (wanted_some 28 227 false (by kernel_rfl) (by kernel_rfl) (by kernel_rfl) (by kernel_rfl)) (knows_old 5 (.pointer (some ⟨gf, 0, none⟩)) (by kernel_rfl) e5) (field_fl gf 0 (by omega)), ?_⟩
  refine ⟨isVal (.slice (some ⟨bf, of, none⟩) nn cf), step_read 22 (.tmp 233) ⟨gf, 0, none⟩ (.slice (some ⟨bf, of, none⟩) nn cf) (by kernel_rfl) (wanted_some 28 227 false (by kernel_rfl) (by kernel_rfl) (by kernel_rfl) (by kernel_rfl)) (knows_new (V := isVal (.pointer (some ⟨gf, 0, none⟩))) 233 34 (by kernel_rfl) (by kernel_rfl) (by kernel_rfl)) Cf lf agg_strs, ?_⟩
  refine ⟨isVal (.int .i64 (j : Int)), step_move (.tmp 26) (by kernel_rfl) (wanted_some 28 227 false (by kernel_rfl) (by kernel_rfl) (by kernel_rfl) (by kernel_rfl)) (stable_val _) (knows_old 26 (.int .i64 (j : Int)) (by kernel_rfl) e26), ?_⟩
  refine ⟨isVal (.pointer (some ⟨bf, of + j, none⟩)), step_place 22 9 (.tmp 234) (.tmp 235) bf of nn cf j (by kernel_rfl) (wanted_some 28 227 false (by kernel_rfl) (by kernel_rfl) (by kernel_rfl) (by kernel_rfl)) (knows_new (V := isVal (.slice (some ⟨bf, of, none⟩) nn cf)) 234 35 (by kernel_rfl) (by kernel_rfl) (by kernel_rfl)) (knows_new (V := isVal (.int .i64 (j : Int))) 235 36 (by kernel_rfl) (by kernel_rfl) (by kernel_rfl)) Try.underlying22 (by kernel_rfl) hj, ?_⟩
  refine ⟨isVal (.string ⟨p.toArray⟩), step_read 9 (.tmp 236) ⟨bf, of + j, none⟩ (.string ⟨p.toArray⟩) (by kernel_rfl) (wanted_some 28 227 false (by kernel_rfl) (by kernel_rfl) (by kernel_rfl) (by kernel_rfl)) (knows_new (V := isVal (.pointer (some ⟨bf, of + j, none⟩))) 236 37 (by kernel_rfl) (by kernel_rfl) (by kernel_rfl)) Pf lbf agg_str, ?_⟩
  refine ⟨isVal (.bool false), step_bin .neq 9 9 (.tmp 232) (.tmp 237) (.string ⟨p.toArray⟩) (.string ⟨p.toArray⟩) (.bool false) (by kernel_rfl) (wanted_some 28 227 false (by kernel_rfl) (by kernel_rfl) (by kernel_rfl) (by kernel_rfl)) (knows_new (V := isVal (.string ⟨p.toArray⟩)) 232 33 (by kernel_rfl) (by kernel_rfl) (by kernel_rfl)) (knows_new (V := isVal (.string ⟨p.toArray⟩)) 237 38 (by kernel_rfl) (by kernel_rfl) (by kernel_rfl)) (fun _ => rfl) (neq_str _ _ _ _ (by simp)), ?_⟩
  refine ⟨isVal (.bool false), step_pick (.tmp 227) (.const (.bool true)) (.tmp 238) false (by kernel_rfl) (wanted_some 3 202 true (by kernel_rfl) (by kernel_rfl) (by kernel_rfl) (by kernel_rfl)) (stable_val _) (knows_new (V := isVal (.bool false)) 227 28 (by kernel_rfl) (by kernel_rfl) (by kernel_rfl)) (knows_new (V := isVal (.bool false)) 238 39 (by kernel_rfl) (by kernel_rfl) (by kernel_rfl)), ?_⟩
  refine ⟨isVal (.bool false), step_move (.tmp 239) (by kernel_rfl) (wanted_some 3 202 true (by kernel_rfl) (by kernel_rfl) (by kernel_rfl) (by kernel_rfl)) (stable_val _) (knows_new (V := isVal (.bool false)) 239 40 (by kernel_rfl) (by kernel_rfl) (by kernel_rfl)), ?_⟩
  refine ⟨isVal (.pointer (some ⟨gd, 0, none⟩)), step_field 25 (.tmp 23) 0 ⟨gd, 0, none⟩ ⟨gd, 0, none⟩ (by kernel_rfl) (wanted_some 41 240 false (by kernel_rfl) (by kernel_rfl) (by kernel_rfl) (by kernel_rfl)) (knows_old 23 (.pointer (some ⟨gd, 0, none⟩)) (by kernel_rfl) e23) (field_fl gd 0 (by omega)), ?_⟩
  refine ⟨isVal (.slice (some ⟨bd, od, none⟩) nn cd), step_read 22 (.tmp 241) ⟨gd, 0, none⟩ (.slice (some ⟨bd, od, none⟩) nn cd) (by kernel_rfl) (wanted_some 41 240 false (by kernel_rfl) (by kernel_rfl) (by kernel_rfl) (by kernel_rfl)) (knows_new (V := isVal (.pointer (some ⟨gd, 0, none⟩))) 241 42 (by kernel_rfl) (by kernel_rfl) (by kernel_rfl)) Cd ld agg_strs, ?_⟩
  refine ⟨isVal (.int .i64 (j : Int)), step_move (.tmp 26) (by kernel_rfl) (wanted_some 41 240 false (by kernel_rfl) (by kernel_rfl) (by kernel_rfl) (by kernel_rfl)) (stable_val _) (knows_old 26 (.int .i64 (j : Int)) (by kernel_rfl) e26), ?_⟩
  refine ⟨isVal (.pointer (some ⟨bd, od + j, none⟩)), step_place 22 9 (.tmp 242) (.tmp 243) bd od nn cd j (by kernel_rfl) (wanted_some 41 240 false (by kernel_rfl) (by kernel_rfl) (by kernel_rfl) (by kernel_rfl)) (knows_new (V := isVal (.slice (some ⟨bd, od, none⟩) nn cd)) 242 43 (by kernel_rfl) (by kernel_rfl) (by kernel_rfl)) (knows_new (V := isVal (.int .i64 (j : Int))) 243 44 (by kernel_rfl) (by kernel_rfl) (by kernel_rfl)) Try.underlying22 (by kernel_rfl) hj, ?_⟩
  refine ⟨isVal (.string ⟨p.toArray⟩), step_read 9 (.tmp 244) ⟨bd, od + j, none⟩ (.string ⟨p.toArray⟩) (by kernel_rfl) (wanted_some 41 240 false (by kernel_rfl) (by kernel_rfl) (by kernel_rfl) (by kernel_rfl)) (knows_new (V := isVal (.pointer (some ⟨bd, od + j, none⟩))) 244 45 (by kernel_rfl) (by kernel_rfl) (by kernel_rfl)) Pd lbd agg_str, ?_⟩
  refine ⟨isVal (.pointer (some ⟨gf, 0, none⟩)), step_field 25 (.tmp 5) 0 ⟨gf, 0, none⟩ ⟨gf, 0, none⟩ (by kernel_rfl) (wanted_some 41 240 false (by kernel_rfl) (by kernel_rfl) (by kernel_rfl) (by kernel_rfl)) (knows_old 5 (.pointer (some ⟨gf, 0, none⟩)) (by kernel_rfl) e5) (field_fl gf 0 (by omega)), ?_⟩
  refine ⟨isVal (.slice (some ⟨bf, of, none⟩) nn cf), step_read 22 (.tmp 246) ⟨gf, 0, none⟩ (.slice (some ⟨bf, of, none⟩) nn cf) (by kernel_rfl) (wanted_some 41 240 false (by kernel_rfl) (by kernel_rfl) (by kernel_rfl) (by kernel_rfl)) (knows_new (V := isVal (.pointer (some ⟨gf, 0, none⟩))) 246 47 (by kernel_rfl) (by kernel_rfl) (by kernel_rfl)) Cf lf agg_strs, ?_⟩
  refine ⟨isVal (.int .i64 (j : Int)), step_move (.tmp 26) (by kernel_rfl) (wanted_some 41 240 false (by kernel_rfl) (by kernel_rfl) (by kernel_rfl) (by kernel_rfl)) (stable_val _) (knows_old 26 (.int .i64 (j : Int)) (by kernel_rfl) e26), ?_⟩
  refine ⟨isVal (.pointer (some ⟨bf, of + j, none⟩)), step_place 22 9 (.tmp 247) (.tmp 248) bf of nn cf j (by kernel_rfl) (wanted_some 41 240 false (by kernel_rfl) (by kernel_rfl) (by kernel_rfl) (by kernel_rfl)) (knows_new (V := isVal (.slice (some ⟨bf, of, none⟩) nn cf)) 247 48 (by kernel_rfl) (by kernel_rfl) (by kernel_rfl)) (knows_new (V := isVal (.int .i64 (j : Int))) 248 49 (by kernel_rfl) (by kernel_rfl) (by kernel_rfl)) Try.underlying22 (by kernel_rfl) hj, ?_⟩
  refine ⟨isVal (.string ⟨p.toArray⟩), step_read 9 (.tmp 249) ⟨bf, of + j, none⟩ (.string ⟨p.toArray⟩) (by kernel_rfl) (wanted_some 41 240 false (by kernel_rfl) (by kernel_rfl) (by kernel_rfl) (by kernel_rfl)) (knows_new (V := isVal (.pointer (some ⟨bf, of + j, none⟩))) 249 50 (by kernel_rfl) (by kernel_rfl) (by kernel_rfl)) Pf lbf agg_str, ?_⟩
  refine ⟨isVal (.bool false), step_bin .neq 9 9 (.tmp 245) (.tmp 250) (.string ⟨p.toArray⟩) (.string ⟨p.toArray⟩) (.bool false) (by kernel_rfl) (wanted_some 41 240 false (by kernel_rfl) (by kernel_rfl) (by kernel_rfl) (by kernel_rfl)) (knows_new (V := isVal (.string ⟨p.toArray⟩)) 245 46 (by kernel_rfl) (by kernel_rfl) (by kernel_rfl)) (knows_new (V := isVal (.string ⟨p.toArray⟩)) 250 51 (by kernel_rfl) (by kernel_rfl) (by kernel_rfl)) (fun _ => rfl) (neq_str _ _ _ _ (by simp)), ?_⟩
  refine ⟨isVal (.bool false), step_pick (.tmp 240) (.const (.bool true)) (.tmp 251) false (by kernel_rfl) (wanted_some 3 202 true (by kernel_rfl) (by kernel_rfl) (by kernel_rfl) (by kernel_rfl)) (stable_val _) (knows_new (V := isVal (.bool false)) 240 41 (by kernel_rfl) (by kernel_rfl) (by kernel_rfl)) (knows_new (V := isVal (.bool false)) 251 52 (by kernel_rfl) (by kernel_rfl) (by kernel_rfl)), ?_⟩
  refine ⟨isVal (.bool false), step_pick (.tmp 202) (.tmp 252) (.const (.bool false)) true (by kernel_rfl) (wanted_none (by kernel_rfl)) (stable_val _) (knows_new (V := isVal (.bool true)) 202 3 (by kernel_rfl) (by kernel_rfl) (by kernel_rfl)) (knows_new (V := isVal (.bool false)) 252 53 (by kernel_rfl) (by kernel_rfl) (by kernel_rfl)), ?_⟩
  intro a w hkp hb hd
  rw [kept_of hkp [some 199, some 200, some 201, some 202, some 203, some 204, some 205, some 206, some 207, some 208, some 209, some 210, some 211, some 212, some 213, some 214, some 215, some 216, some 217, some 218, some 219, some 220, some 221, some 222, some 223, some 224, some 225, some 226, some 227, some 228, some 229, some 230, some 231, some 232, some 233, some 234, some 235, some 236, some 237, some 238, some 239, some 240, some 241, some 242, some 243, some 244, some 245, some 246, some 247, some 248, some 249, some 250, some 251, some 252, some 253] [199, 200, 201, 202, 203, 204, 205, 206, 207, 208, 209, 210, 211, 212, 213, 214, 215, 216, 217, 218, 219, 220, 221, 222, 223, 224, 225, 226, 227, 228, 229, 230, 231, 232, 233, 234, 235, 236, 237, 238, 239, 240, 241, 242, 243, 244, 245, 246, 247, 248, 249, 250, 251, 252, 253] (by kernel_rfl) (by decide)]
  exact hQ (fun s => a.tmps.getD s undef) w (fdone_of (hd 54 (by rw [show bet25.size = 55 by kernel_rfl]; decide)) (t := 253) (V := isVal (.bool false)) (by kernel_rfl) (by kernel_rfl)) hb

noncomputable def bet25s : Array Oper := regionOf Try.f5 25
set_option maxRecDepth 100000 in
set_option maxHeartbeats 4000000 in
theorem bet25s_wp (Q : Exit → Act → World → Prop) (a0 : Act) (w0 : World) (hsz : a0.tmps.size = 305) (nn mm k : Nat) (j : Nat) (p : List UInt8) (hj : j < nn) (hne : ((j : Int) != (k : Int)) = false) (ga ba oa ca da qa sa : Nat) (Ca : w0.cell? ⟨ga, 0, none⟩ = some (.slice (some ⟨ba, oa, none⟩) nn ca)) (la : ga < w0.heap.size) (lba : ba < w0.heap.size) (gb bb ob cb db qb sb : Nat) (Cb : w0.cell? ⟨gb, 0, none⟩ = some (.slice (some ⟨bb, ob, none⟩) nn cb)) (lb : gb < w0.heap.size) (lbb : bb < w0.heap.size) (gc bc oc cc dc qc sc : Nat) (Cc : w0.cell? ⟨gc, 0, none⟩ = some (.slice (some ⟨bc, oc, none⟩) nn cc)) (lc : gc < w0.heap.size) (lbc : bc < w0.heap.size) (gd bd od cd dd qd sd : Nat) (Cd : w0.cell? ⟨gd, 0, none⟩ = some (.slice (some ⟨bd, od, none⟩) nn cd)) (ld : gd < w0.heap.size) (lbd : bd < w0.heap.size) (gf bf of cf df qf sf : Nat) (Cf : w0.cell? ⟨gf, 0, none⟩ = some (.slice (some ⟨bf, of, none⟩) nn cf)) (lf : gf < w0.heap.size) (lbf : bf < w0.heap.size) (e26 : a0.tmps.getD 26 undef = .int .i64 (j : Int)) (e1 : a0.tmps.getD 1 undef = .int .i64 (k : Int)) (e17 : a0.tmps.getD 17 undef = .pointer (some ⟨ga, 0, none⟩)) (e19 : a0.tmps.getD 19 undef = .pointer (some ⟨gb, 0, none⟩)) (e21 : a0.tmps.getD 21 undef = .pointer (some ⟨gc, 0, none⟩)) (e23 : a0.tmps.getD 23 undef = .pointer (some ⟨gd, 0, none⟩)) (e5 : a0.tmps.getD 5 undef = .pointer (some ⟨gf, 0, none⟩))
    (hQ : ∀ (f : Nat → Value) (w : World), f 253 = .bool false → Below w0.heap.size w0 w → Q .normal { tmps := [199, 200, 201, 202, 203, 204, 205, 206, 207, 208, 209, 210, 211, 212, 213, 214, 215, 216, 217, 218, 219, 220, 221, 222, 223, 224, 225, 226, 227, 228, 229, 230, 231, 232, 233, 234, 235, 236, 237, 238, 239, 240, 241, 242, 243, 244, 245, 246, 247, 248, 249, 250, 251, 252, 253].foldl (fun t s => t.setIfInBounds s (f s)) a0.tmps, defers := a0.defers } w) :
    (Code.region 25 bet25s true).wp Try.prog Q a0 w0 := by
  refine wp_region_flow mixed (by rw [hsz]; kernel_rfl) ?_
  rw [show bet25s.size = 55 by kernel_rfl]
  refine ⟨isVal (.int .i64 (j : Int)), step_move (.tmp 26) (by kernel_rfl) (wanted_none (by kernel_rfl)) (stable_val _) (knows_old 26 (.int .i64 (j : Int)) (by kernel_rfl) e26), ?_⟩
  refine ⟨isVal (.int .i64 (k : Int)), step_move (.tmp 1) (by kernel_rfl) (wanted_none (by kernel_rfl)) (stable_val _) (knows_old 1 (.int .i64 (k : Int)) (by kernel_rfl) e1), ?_⟩
  refine ⟨isVal (.bool false), step_bin .neq 3 3 (.tmp 199) (.tmp 200) (.int .i64 (j : Int)) (.int .i64 (k : Int)) (.bool false) (by kernel_rfl) (wanted_none (by kernel_rfl)) (knows_new (V := isVal (.int .i64 (j : Int))) 199 0 (by kernel_rfl) (by kernel_rfl) (by kernel_rfl)) (knows_new (V := isVal (.int .i64 (k : Int))) 200 1 (by kernel_rfl) (by kernel_rfl) (by kernel_rfl)) (fun _ => rfl) (neq_int _ _ _ _ _ hne), ?_⟩
  refine ⟨isVal (.bool false), step_move (.tmp 201) (by kernel_rfl) (wanted_none (by kernel_rfl)) (stable_val _) (knows_new (V := isVal (.bool false)) 201 2 (by kernel_rfl) (by kernel_rfl) (by kernel_rfl)), ?_⟩
  refine ⟨_, step_skip 3 202 true false (by kernel_rfl) (by kernel_rfl) (by kernel_rfl) (by kernel_rfl) rfl, ?_⟩
  refine ⟨_, step_skip 3 202 true false (by kernel_rfl) (by kernel_rfl) (by kernel_rfl) (by kernel_rfl) rfl, ?_⟩
  refine ⟨_, step_skip 3 202 true false (by kernel_rfl) (by kernel_rfl) (by kernel_rfl) (by kernel_rfl) rfl, ?_⟩
  refine ⟨_, step_skip 3 202 true false (by kernel_rfl) (by kernel_rfl) (by kernel_rfl) (by kernel_rfl) rfl, ?_⟩
  refine ⟨_, step_skip 3 202 true false (by kernel_rfl) (by kernel_rfl) (by kernel_rfl) (by kernel_rfl) rfl, ?_⟩
  refine ⟨_, step_skip 3 202 true false (by kernel_rfl) (by kernel_rfl) (by kernel_rfl) (by kernel_rfl) rfl, ?_⟩
  refine ⟨_, step_skip 3 202 true false (by kernel_rfl) (by kernel_rfl) (by kernel_rfl) (by kernel_rfl) rfl, ?_⟩
  refine ⟨_, step_skip 3 202 true false (by kernel_rfl) (by kernel_rfl) (by kernel_rfl) (by kernel_rfl) rfl, ?_⟩
  refine ⟨_, step_skip 3 202 true false (by kernel_rfl) (by kernel_rfl) (by kernel_rfl) (by kernel_rfl) rfl, ?_⟩
  refine ⟨_, step_skip 3 202 true false (by kernel_rfl) (by kernel_rfl) (by kernel_rfl) (by kernel_rfl) rfl, ?_⟩
  refine ⟨_, step_skip 3 202 true false (by kernel_rfl) (by kernel_rfl) (by kernel_rfl) (by kernel_rfl) rfl, ?_⟩
  refine ⟨_, step_skip 3 202 true false (by kernel_rfl) (by kernel_rfl) (by kernel_rfl) (by kernel_rfl) rfl, ?_⟩
  refine ⟨_, step_skipU 15 214 false (by kernel_rfl) (by kernel_rfl) (by kernel_rfl) (by kernel_rfl), ?_⟩
  refine ⟨_, step_skipU 15 214 false (by kernel_rfl) (by kernel_rfl) (by kernel_rfl) (by kernel_rfl), ?_⟩
  refine ⟨_, step_skipU 15 214 false (by kernel_rfl) (by kernel_rfl) (by kernel_rfl) (by kernel_rfl), ?_⟩
  refine ⟨_, step_skipU 15 214 false (by kernel_rfl) (by kernel_rfl) (by kernel_rfl) (by kernel_rfl), ?_⟩
  refine ⟨_, step_skipU 15 214 false (by kernel_rfl) (by kernel_rfl) (by kernel_rfl) (by kernel_rfl), ?_⟩
  refine ⟨_, step_skipU 15 214 false (by kernel_rfl) (by kernel_rfl) (by kernel_rfl) (by kernel_rfl), ?_⟩
  refine ⟨_, step_skipU 15 214 false (by kernel_rfl) (by kernel_rfl) (by kernel_rfl) (by kernel_rfl), ?_⟩
  refine ⟨_, step_skipU 15 214 false (by kernel_rfl) (by kernel_rfl) (by kernel_rfl) (by kernel_rfl), ?_⟩
  refine ⟨_, step_skipU 15 214 false (by kernel_rfl) (by kernel_rfl) (by kernel_rfl) (by kernel_rfl), ?_⟩
  refine ⟨_, step_skipU 15 214 false (by kernel_rfl) (by kernel_rfl) (by kernel_rfl) (by kernel_rfl), ?_⟩
  refine ⟨_, step_skipU 15 214 false (by kernel_rfl) (by kernel_rfl) (by kernel_rfl) (by kernel_rfl), ?_⟩
  refine ⟨_, step_skip 3 202 true false (by kernel_rfl) (by kernel_rfl) (by kernel_rfl) (by kernel_rfl) rfl, ?_⟩
  refine ⟨_, step_skip 3 202 true false (by kernel_rfl) (by kernel_rfl) (by kernel_rfl) (by kernel_rfl) rfl, ?_⟩
  refine ⟨_, step_skipU 28 227 false (by kernel_rfl) (by kernel_rfl) (by kernel_rfl) (by kernel_rfl), ?_⟩
  refine ⟨_, step_skipU 28 227 false (by kernel_rfl) (by kernel_rfl) (by kernel_rfl) (by kernel_rfl), ?_⟩
  refine ⟨_, step_skipU 28 227 false (by kernel_rfl) (by kernel_rfl) (by kernel_rfl) (by kernel_rfl), ?_⟩
  refine ⟨_, step_skipU 28 227 false (by kernel_rfl) (by kernel_rfl) (by kernel_rfl) (by kernel_rfl), ?_⟩
  refine ⟨_, step_skipU 28 227 false (by kernel_rfl) (by kernel_rfl) (by kernel_rfl) (by kernel_rfl), ?_⟩
  refine ⟨_, step_skipU 28 227 false (by kernel_rfl) (by kernel_rfl) (by kernel_rfl) (by kernel_rfl), ?_⟩
  refine ⟨_, step_skipU 28 227 false (by kernel_rfl) (by kernel_rfl) (by kernel_rfl) (by kernel_rfl), ?_⟩
  refine ⟨_, step_skipU 28 227 false (by kernel_rfl) (by kernel_rfl) (by kernel_rfl) (by kernel_rfl), ?_⟩
  refine ⟨_, step_skipU 28 227 false (by kernel_rfl) (by kernel_rfl) (by kernel_rfl) (by kernel_rfl), ?_⟩
  refine ⟨_, step_skipU 28 227 false (by kernel_rfl) (by kernel_rfl) (by kernel_rfl) (by kernel_rfl), ?_⟩
  refine ⟨_, step_skipU 28 227 false (by kernel_rfl) (by kernel_rfl) (by kernel_rfl) (by kernel_rfl), ?_⟩
  refine ⟨_, step_skip 3 202 true false (by kernel_rfl) (by kernel_rfl) (by kernel_rfl) (by kernel_rfl) rfl, ?_⟩
  refine ⟨_, step_skip 3 202 true false (by kernel_rfl) (by kernel_rfl) (by kernel_rfl) (by kernel_rfl) rfl, ?_⟩
  refine ⟨_, step_skipU 41 240 false (by kernel_rfl) (by kernel_rfl) (by kernel_rfl) (by kernel_rfl), ?_⟩
  refine ⟨_, step_skipU 41 240 false (by kernel_rfl) (by kernel_rfl) (by kernel_rfl) (by kernel_rfl), ?_⟩
  refine ⟨_, step_skipU 41 240 false (by kernel_rfl) (by kernel_rfl) (by kernel_rfl) (by kernel_rfl), ?_⟩
  refine ⟨_, step_skipU 41 240 false (by kernel_rfl) (by kernel_rfl) (by kernel_rfl) (by kernel_rfl), ?_⟩
  refine ⟨_, step_skipU 41 240 false (by kernel_rfl) (by kernel_rfl) (by kernel_rfl) (by kernel_rfl), ?_⟩
  refine ⟨_, step_skipU 41 240 false (by kernel_rfl) (by kernel_rfl) (by kernel_rfl) (by kernel_rfl), ?_⟩
  refine ⟨_, step_skipU 41 240 false (by kernel_rfl) (by kernel_rfl) (by kernel_rfl) (by kernel_rfl), ?_⟩
  refine ⟨_, step_skipU 41 240 false (by kernel_rfl) (by kernel_rfl) (by kernel_rfl) (by kernel_rfl), ?_⟩
  refine ⟨_, step_skipU 41 240 false (by kernel_rfl) (by kernel_rfl) (by kernel_rfl) (by kernel_rfl), ?_⟩
  refine ⟨_, step_skipU 41 240 false (by kernel_rfl) (by kernel_rfl) (by kernel_rfl) (by kernel_rfl), ?_⟩
  refine ⟨_, step_skipU 41 240 false (by kernel_rfl) (by kernel_rfl) (by kernel_rfl) (by kernel_rfl), ?_⟩
  refine ⟨_, step_skip 3 202 true false (by kernel_rfl) (by kernel_rfl) (by kernel_rfl) (by kernel_rfl) rfl, ?_⟩
  refine ⟨isVal (.bool false), step_pick (.tmp 202) (.tmp 252) (.const (.bool false)) false (by kernel_rfl) (wanted_none (by kernel_rfl)) (stable_val _) (knows_new (V := isVal (.bool false)) 202 3 (by kernel_rfl) (by kernel_rfl) (by kernel_rfl)) (knows_const _), ?_⟩
  intro a w hkp hb hd
  rw [kept_of hkp [some 199, some 200, some 201, some 202, some 203, some 204, some 205, some 206, some 207, some 208, some 209, some 210, some 211, some 212, some 213, some 214, some 215, some 216, some 217, some 218, some 219, some 220, some 221, some 222, some 223, some 224, some 225, some 226, some 227, some 228, some 229, some 230, some 231, some 232, some 233, some 234, some 235, some 236, some 237, some 238, some 239, some 240, some 241, some 242, some 243, some 244, some 245, some 246, some 247, some 248, some 249, some 250, some 251, some 252, some 253] [199, 200, 201, 202, 203, 204, 205, 206, 207, 208, 209, 210, 211, 212, 213, 214, 215, 216, 217, 218, 219, 220, 221, 222, 223, 224, 225, 226, 227, 228, 229, 230, 231, 232, 233, 234, 235, 236, 237, 238, 239, 240, 241, 242, 243, 244, 245, 246, 247, 248, 249, 250, 251, 252, 253] (by kernel_rfl) (by decide)]
  exact hQ (fun s => a.tmps.getD s undef) w (fdone_of (hd 54 (by rw [show bet25s.size = 55 by kernel_rfl]; decide)) (t := 253) (V := isVal (.bool false)) (by kernel_rfl) (by kernel_rfl)) hb

noncomputable def bet27 : Array Oper := regionOf Try.f5 27
set_option maxRecDepth 100000 in
set_option maxHeartbeats 4000000 in
theorem bet27_wp (Q : Exit → Act → World → Prop) (a0 : Act) (w0 : World) (hsz : a0.tmps.size = 305) (nn mm k : Nat) (p aP bP : List UInt8) (hkn : k < nn) (hand : ∀ w : World, Below w0.heap.size w0 w → Calls Try.prog 28 #[.string ⟨p.toArray⟩, .string ⟨aP.toArray⟩] w fun e w' => ∃ y, e = .returned y ∧ isVal (.string ⟨aP.toArray⟩) y w' ∧ Below w.heap.size w w') (hor : ∀ w : World, Below w0.heap.size w0 w → Calls Try.prog 26 #[.string ⟨aP.toArray⟩, .string ⟨bP.toArray⟩] w fun e w' => ∃ y, e = .returned y ∧ isVal (.string ⟨aP.toArray⟩) y w' ∧ Below w.heap.size w w') (ga ba oa ca da qa sa : Nat) (Ca : w0.cell? ⟨ga, 0, none⟩ = some (.slice (some ⟨ba, oa, none⟩) nn ca)) (la : ga < w0.heap.size) (Pa : w0.cell? ⟨ba, oa + k, none⟩ = some (.string ⟨aP.toArray⟩)) (lba : ba < w0.heap.size) (gb bb ob cb db qb sb : Nat) (Cb : w0.cell? ⟨gb, 0, none⟩ = some (.slice (some ⟨bb, ob, none⟩) nn cb)) (lb : gb < w0.heap.size) (Pb : w0.cell? ⟨bb, ob + k, none⟩ = some (.string ⟨bP.toArray⟩)) (lbb : bb < w0.heap.size) (e25 : a0.tmps.getD 25 undef = .string ⟨p.toArray⟩) (e1 : a0.tmps.getD 1 undef = .int .i64 (k : Int)) (e17 : a0.tmps.getD 17 undef = .pointer (some ⟨ga, 0, none⟩)) (e19 : a0.tmps.getD 19 undef = .pointer (some ⟨gb, 0, none⟩))
    (hQ : ∀ (f : Nat → Value) (w : World), f 27 = .bool true → Below w0.heap.size w0 w → Q .normal { tmps := [254, 255, 256, 257, 258, 259, 260, 261, 262, 263, 264, 265, 266, 267, 268, 269, 270, 271, 272, 273, 274, 275, 276, 277, 278, 279, 280, 281, 282, 283, 284, 285, 27].foldl (fun t s => t.setIfInBounds s (f s)) a0.tmps, defers := a0.defers } w) :
    (Code.region 27 bet27 true).wp Try.prog Q a0 w0 := by
  refine wp_region_flow mixed (by rw [hsz]; kernel_rfl) ?_
  rw [show bet27.size = 33 by kernel_rfl]
  refine ⟨isVal (.string ⟨p.toArray⟩), step_move (.tmp 25) (by kernel_rfl) (wanted_none (by kernel_rfl)) (stable_val _) (knows_old 25 (.string ⟨p.toArray⟩) (by kernel_rfl) e25), ?_⟩
  refine ⟨isVal (.pointer (some ⟨ga, 0, none⟩)), step_field 25 (.tmp 17) 0 ⟨ga, 0, none⟩ ⟨ga, 0, none⟩ (by kernel_rfl) (wanted_none (by kernel_rfl)) (knows_old 17 (.pointer (some ⟨ga, 0, none⟩)) (by kernel_rfl) e17) (field_fl ga 0 (by omega)), ?_⟩
  refine ⟨isVal (.slice (some ⟨ba, oa, none⟩) nn ca), step_read 22 (.tmp 255) ⟨ga, 0, none⟩ (.slice (some ⟨ba, oa, none⟩) nn ca) (by kernel_rfl) (wanted_none (by kernel_rfl)) (knows_new (V := isVal (.pointer (some ⟨ga, 0, none⟩))) 255 1 (by kernel_rfl) (by kernel_rfl) (by kernel_rfl)) Ca la agg_strs, ?_⟩
  refine ⟨isVal (.int .i64 (k : Int)), step_move (.tmp 1) (by kernel_rfl) (wanted_none (by kernel_rfl)) (stable_val _) (knows_old 1 (.int .i64 (k : Int)) (by kernel_rfl) e1), ?_⟩
  refine ⟨isVal (.pointer (some ⟨ba, oa + k, none⟩)), step_place 22 9 (.tmp 256) (.tmp 257) ba oa nn ca k (by kernel_rfl) (wanted_none (by kernel_rfl)) (knows_new (V := isVal (.slice (some ⟨ba, oa, none⟩) nn ca)) 256 2 (by kernel_rfl) (by kernel_rfl) (by kernel_rfl)) (knows_new (V := isVal (.int .i64 (k : Int))) 257 3 (by kernel_rfl) (by kernel_rfl) (by kernel_rfl)) Try.underlying22 (by kernel_rfl) hkn, ?_⟩
  refine ⟨isVal (.string ⟨aP.toArray⟩), step_read 9 (.tmp 258) ⟨ba, oa + k, none⟩ (.string ⟨aP.toArray⟩) (by kernel_rfl) (wanted_none (by kernel_rfl)) (knows_new (V := isVal (.pointer (some ⟨ba, oa + k, none⟩))) 258 4 (by kernel_rfl) (by kernel_rfl) (by kernel_rfl)) Pa lba agg_str, ?_⟩
  refine ⟨isVal (.string ⟨aP.toArray⟩), step_call 28 #[.tmp 254, .tmp 259] #[9, 9] #[.string ⟨p.toArray⟩, .string ⟨aP.toArray⟩] (by kernel_rfl) (wanted_none (by kernel_rfl)) (stable_val _) (args2 (.tmp 254) (.tmp 259) (.string ⟨p.toArray⟩) (.string ⟨aP.toArray⟩) (knows_new (V := isVal (.string ⟨p.toArray⟩)) 254 0 (by kernel_rfl) (by kernel_rfl) (by kernel_rfl)) (knows_new (V := isVal (.string ⟨aP.toArray⟩)) 259 5 (by kernel_rfl) (by kernel_rfl) (by kernel_rfl))) (enters_of Try.func28 (by kernel_rfl) rfl) (by intro w hb; exact hand w hb), ?_⟩
  refine ⟨isVal (.pointer (some ⟨ga, 0, none⟩)), step_field 25 (.tmp 17) 0 ⟨ga, 0, none⟩ ⟨ga, 0, none⟩ (by kernel_rfl) (wanted_none (by kernel_rfl)) (knows_old 17 (.pointer (some ⟨ga, 0, none⟩)) (by kernel_rfl) e17) (field_fl ga 0 (by omega)), ?_⟩
  refine ⟨isVal (.slice (some ⟨ba, oa, none⟩) nn ca), step_read 22 (.tmp 261) ⟨ga, 0, none⟩ (.slice (some ⟨ba, oa, none⟩) nn ca) (by kernel_rfl) (wanted_none (by kernel_rfl)) (knows_new (V := isVal (.pointer (some ⟨ga, 0, none⟩))) 261 7 (by kernel_rfl) (by kernel_rfl) (by kernel_rfl)) Ca la agg_strs, ?_⟩
  refine ⟨isVal (.int .i64 (k : Int)), step_move (.tmp 1) (by kernel_rfl) (wanted_none (by kernel_rfl)) (stable_val _) (knows_old 1 (.int .i64 (k : Int)) (by kernel_rfl) e1), ?_⟩
  refine ⟨isVal (.pointer (some ⟨ba, oa + k, none⟩)), step_place 22 9 (.tmp 262) (.tmp 263) ba oa nn ca k (by kernel_rfl) (wanted_none (by kernel_rfl)) (knows_new (V := isVal (.slice (some ⟨ba, oa, none⟩) nn ca)) 262 8 (by kernel_rfl) (by kernel_rfl) (by kernel_rfl)) (knows_new (V := isVal (.int .i64 (k : Int))) 263 9 (by kernel_rfl) (by kernel_rfl) (by kernel_rfl)) Try.underlying22 (by kernel_rfl) hkn, ?_⟩
  refine ⟨isVal (.string ⟨aP.toArray⟩), step_read 9 (.tmp 264) ⟨ba, oa + k, none⟩ (.string ⟨aP.toArray⟩) (by kernel_rfl) (wanted_none (by kernel_rfl)) (knows_new (V := isVal (.pointer (some ⟨ba, oa + k, none⟩))) 264 10 (by kernel_rfl) (by kernel_rfl) (by kernel_rfl)) Pa lba agg_str, ?_⟩
  refine ⟨isVal (.bool true), step_bin .eql 9 9 (.tmp 260) (.tmp 265) (.string ⟨aP.toArray⟩) (.string ⟨aP.toArray⟩) (.bool true) (by kernel_rfl) (wanted_none (by kernel_rfl)) (knows_new (V := isVal (.string ⟨aP.toArray⟩)) 260 6 (by kernel_rfl) (by kernel_rfl) (by kernel_rfl)) (knows_new (V := isVal (.string ⟨aP.toArray⟩)) 265 11 (by kernel_rfl) (by kernel_rfl) (by kernel_rfl)) (fun _ => rfl) (eql_str _ _ _ _ (by simp)), ?_⟩
  refine ⟨isVal (.bool true), step_move (.tmp 266) (by kernel_rfl) (wanted_none (by kernel_rfl)) (stable_val _) (knows_new (V := isVal (.bool true)) 266 12 (by kernel_rfl) (by kernel_rfl) (by kernel_rfl)), ?_⟩
  refine ⟨isVal (.pointer (some ⟨ga, 0, none⟩)), step_field 25 (.tmp 17) 0 ⟨ga, 0, none⟩ ⟨ga, 0, none⟩ (by kernel_rfl) (wanted_some 13 267 true (by kernel_rfl) (by kernel_rfl) (by kernel_rfl) (by kernel_rfl)) (knows_old 17 (.pointer (some ⟨ga, 0, none⟩)) (by kernel_rfl) e17) (field_fl ga 0 (by omega)), ?_⟩
  refine ⟨isVal (.slice (some ⟨ba, oa, none⟩) nn ca), step_read 22 (.tmp 268) ⟨ga, 0, none⟩ (.slice (some ⟨ba, oa, none⟩) nn ca) (by kernel_rfl) (wanted_some 13 267 true (by kernel_rfl) (by kernel_rfl) (by kernel_rfl) (by kernel_rfl)) (knows_new (V := isVal (.pointer (some ⟨ga, 0, none⟩))) 268 14 (by kernel_rfl) (by kernel_rfl) (by kernel_rfl)) Ca la agg_strs, ?_⟩
  refine ⟨isVal (.int .i64 (k : Int)), step_move (.tmp 1) (by kernel_rfl) (wanted_some 13 267 true (by kernel_rfl) (by kernel_rfl) (by kernel_rfl) (by kernel_rfl)) (stable_val _) (knows_old 1 (.int .i64 (k : Int)) (by kernel_rfl) e1), ?_⟩
  refine ⟨isVal (.pointer (some ⟨ba, oa + k, none⟩)), step_place 22 9 (.tmp 269) (.tmp 270) ba oa nn ca k (by kernel_rfl) (wanted_some 13 267 true (by kernel_rfl) (by kernel_rfl) (by kernel_rfl) (by kernel_rfl)) (knows_new (V := isVal (.slice (some ⟨ba, oa, none⟩) nn ca)) 269 15 (by kernel_rfl) (by kernel_rfl) (by kernel_rfl)) (knows_new (V := isVal (.int .i64 (k : Int))) 270 16 (by kernel_rfl) (by kernel_rfl) (by kernel_rfl)) Try.underlying22 (by kernel_rfl) hkn, ?_⟩
  refine ⟨isVal (.string ⟨aP.toArray⟩), step_read 9 (.tmp 271) ⟨ba, oa + k, none⟩ (.string ⟨aP.toArray⟩) (by kernel_rfl) (wanted_some 13 267 true (by kernel_rfl) (by kernel_rfl) (by kernel_rfl) (by kernel_rfl)) (knows_new (V := isVal (.pointer (some ⟨ba, oa + k, none⟩))) 271 17 (by kernel_rfl) (by kernel_rfl) (by kernel_rfl)) Pa lba agg_str, ?_⟩
  refine ⟨isVal (.pointer (some ⟨gb, 0, none⟩)), step_field 25 (.tmp 19) 0 ⟨gb, 0, none⟩ ⟨gb, 0, none⟩ (by kernel_rfl) (wanted_some 13 267 true (by kernel_rfl) (by kernel_rfl) (by kernel_rfl) (by kernel_rfl)) (knows_old 19 (.pointer (some ⟨gb, 0, none⟩)) (by kernel_rfl) e19) (field_fl gb 0 (by omega)), ?_⟩
  refine ⟨isVal (.slice (some ⟨bb, ob, none⟩) nn cb), step_read 22 (.tmp 273) ⟨gb, 0, none⟩ (.slice (some ⟨bb, ob, none⟩) nn cb) (by kernel_rfl) (wanted_some 13 267 true (by kernel_rfl) (by kernel_rfl) (by kernel_rfl) (by kernel_rfl)) (knows_new (V := isVal (.pointer (some ⟨gb, 0, none⟩))) 273 19 (by kernel_rfl) (by kernel_rfl) (by kernel_rfl)) Cb lb agg_strs, ?_⟩
  refine ⟨isVal (.int .i64 (k : Int)), step_move (.tmp 1) (by kernel_rfl) (wanted_some 13 267 true (by kernel_rfl) (by kernel_rfl) (by kernel_rfl) (by kernel_rfl)) (stable_val _) (knows_old 1 (.int .i64 (k : Int)) (by kernel_rfl) e1), ?_⟩
  refine ⟨isVal (.pointer (some ⟨bb, ob + k, none⟩)), step_place 22 9 (.tmp 274) (.tmp 275) bb ob nn cb k (by kernel_rfl) (wanted_some 13 267 true (by kernel_rfl) (by kernel_rfl) (by kernel_rfl) (by kernel_rfl)) (knows_new (V := isVal (.slice (some ⟨bb, ob, none⟩) nn cb)) 274 20 (by kernel_rfl) (by kernel_rfl) (by kernel_rfl)) (knows_new (V := isVal (.int .i64 (k : Int))) 275 21 (by kernel_rfl) (by kernel_rfl) (by kernel_rfl)) Try.underlying22 (by kernel_rfl) hkn, ?_⟩
  refine ⟨isVal (.string ⟨bP.toArray⟩), step_read 9 (.tmp 276) ⟨bb, ob + k, none⟩ (.string ⟨bP.toArray⟩) (by kernel_rfl) (wanted_some 13 267 true (by kernel_rfl) (by kernel_rfl) (by kernel_rfl) (by kernel_rfl)) (knows_new (V := isVal (.pointer (some ⟨bb, ob + k, none⟩))) 276 22 (by kernel_rfl) (by kernel_rfl) (by kernel_rfl)) Pb lbb agg_str, ?_⟩
  refine ⟨isVal (.string ⟨aP.toArray⟩), step_call 26 #[.tmp 272, .tmp 277] #[9, 9] #[.string ⟨aP.toArray⟩, .string ⟨bP.toArray⟩] (by kernel_rfl) (wanted_some 13 267 true (by kernel_rfl) (by kernel_rfl) (by kernel_rfl) (by kernel_rfl)) (stable_val _) (args2 (.tmp 272) (.tmp 277) (.string ⟨aP.toArray⟩) (.string ⟨bP.toArray⟩) (knows_new (V := isVal (.string ⟨aP.toArray⟩)) 272 18 (by kernel_rfl) (by kernel_rfl) (by kernel_rfl)) (knows_new (V := isVal (.string ⟨bP.toArray⟩)) 277 23 (by kernel_rfl) (by kernel_rfl) (by kernel_rfl))) (enters_of Try.func26 (by kernel_rfl) rfl) (by intro w hb; exact hor w hb), ?_⟩
  refine ⟨isVal (.pointer (some ⟨ga, 0, none⟩)), step_field 25 (.tmp 17) 0 ⟨ga, 0, none⟩ ⟨ga, 0, none⟩ (by kernel_rfl) (wanted_some 13 267 true (by kernel_rfl) (by kernel_rfl) (by kernel_rfl) (by kernel_rfl)) (knows_old 17 (.pointer (some ⟨ga, 0, none⟩)) (by kernel_rfl) e17) (field_fl ga 0 (by omega)), ?_⟩
  refine ⟨isVal (.slice (some ⟨ba, oa, none⟩) nn ca), step_read 22 (.tmp 279) ⟨ga, 0, none⟩ (.slice (some ⟨ba, oa, none⟩) nn ca) (by kernel_rfl) (wanted_some 13 267 true (by kernel_rfl) (by kernel_rfl) (by kernel_rfl) (by kernel_rfl)) (knows_new (V := isVal (.pointer (some ⟨ga, 0, none⟩))) 279 25 (by kernel_rfl) (by kernel_rfl) (by kernel_rfl)) Ca la agg_strs, ?_⟩
  refine ⟨isVal (.int .i64 (k : Int)), step_move (.tmp 1) (by kernel_rfl) (wanted_some 13 267 true (by kernel_rfl) (by kernel_rfl) (by kernel_rfl) (by kernel_rfl)) (stable_val _) (knows_old 1 (.int .i64 (k : Int)) (by kernel_rfl) e1), ?_⟩
  refine ⟨isVal (.pointer (some ⟨ba, oa + k, none⟩)), step_place 22 9 (.tmp 280) (.tmp 281) ba oa nn ca k (by kernel_rfl) (wanted_some 13 267 true (by kernel_rfl) (by kernel_rfl) (by kernel_rfl) (by kernel_rfl)) (knows_new (V := isVal (.slice (some ⟨ba, oa, none⟩) nn ca)) 280 26 (by kernel_rfl) (by kernel_rfl) (by kernel_rfl)) (knows_new (V := isVal (.int .i64 (k : Int))) 281 27 (by kernel_rfl) (by kernel_rfl) (by kernel_rfl)) Try.underlying22 (by kernel_rfl) hkn, ?_⟩
  refine ⟨isVal (.string ⟨aP.toArray⟩), step_read 9 (.tmp 282) ⟨ba, oa + k, none⟩ (.string ⟨aP.toArray⟩) (by kernel_rfl) (wanted_some 13 267 true (by kernel_rfl) (by kernel_rfl) (by kernel_rfl) (by kernel_rfl)) (knows_new (V := isVal (.pointer (some ⟨ba, oa + k, none⟩))) 282 28 (by kernel_rfl) (by kernel_rfl) (by kernel_rfl)) Pa lba agg_str, ?_⟩
  refine ⟨isVal (.bool true), step_bin .eql 9 9 (.tmp 278) (.tmp 283) (.string ⟨aP.toArray⟩) (.string ⟨aP.toArray⟩) (.bool true) (by kernel_rfl) (wanted_some 13 267 true (by kernel_rfl) (by kernel_rfl) (by kernel_rfl) (by kernel_rfl)) (knows_new (V := isVal (.string ⟨aP.toArray⟩)) 278 24 (by kernel_rfl) (by kernel_rfl) (by kernel_rfl)) (knows_new (V := isVal (.string ⟨aP.toArray⟩)) 283 29 (by kernel_rfl) (by kernel_rfl) (by kernel_rfl)) (fun _ => rfl) (eql_str _ _ _ _ (by simp)), ?_⟩
  refine ⟨isVal (.bool true), step_pick (.tmp 267) (.tmp 284) (.const (.bool false)) true (by kernel_rfl) (wanted_none (by kernel_rfl)) (stable_val _) (knows_new (V := isVal (.bool true)) 267 13 (by kernel_rfl) (by kernel_rfl) (by kernel_rfl)) (knows_new (V := isVal (.bool true)) 284 30 (by kernel_rfl) (by kernel_rfl) (by kernel_rfl)), ?_⟩
  refine ⟨isVal (.bool true), step_assign (.tmp 285) (by kernel_rfl) (wanted_none (by kernel_rfl)) (stable_val _) (knows_new (V := isVal (.bool true)) 285 31 (by kernel_rfl) (by kernel_rfl) (by kernel_rfl)), ?_⟩
  intro a w hkp hb hd
  rw [kept_of hkp [some 254, some 255, some 256, some 257, some 258, some 259, some 260, some 261, some 262, some 263, some 264, some 265, some 266, some 267, some 268, some 269, some 270, some 271, some 272, some 273, some 274, some 275, some 276, some 277, some 278, some 279, some 280, some 281, some 282, some 283, some 284, some 285, some 27] [254, 255, 256, 257, 258, 259, 260, 261, 262, 263, 264, 265, 266, 267, 268, 269, 270, 271, 272, 273, 274, 275, 276, 277, 278, 279, 280, 281, 282, 283, 284, 285, 27] (by kernel_rfl) (by decide)]
  exact hQ (fun s => a.tmps.getD s undef) w (fdone_of (hd 32 (by rw [show bet27.size = 33 by kernel_rfl]; decide)) (t := 27) (V := isVal (.bool true)) (by kernel_rfl) (by kernel_rfl)) hb
set_option maxRecDepth 100000 in
set_option maxHeartbeats 8000000 in
theorem flashBetween_1 (F : Fl) (v : Value) (page at_ : Int) (s torn : List UInt8) (w : World) (hv : isFl F v w) (hfew : fewB F = false) :
    Calls Try.prog 5 #[v, .int .i64 page, .int .i64 at_, .string ⟨s.toArray⟩, .string ⟨torn.toArray⟩] w fun e w' => e = .returned (.bool true) ∧ Below w.heap.size w w' := by
  obtain ⟨vp, vw, rfl, hp, hq⟩ := hv
  have HF := Kept.mk hfew
  clear hfew
  obtain ⟨hB, Vf⟩ := var_box w F vp vw hp hq
  clear hp hq
  go_enter Try.func5, Try.ntmps5
  go_wp2_with fail
  ((with_reducible refine (works_any _).mono ?_); rintro e W1 ⟨rfl, hb1⟩)
  replace hB := Kept.mk (hB.out.trans ((hb1).mono hB.out.size))
  replace Vf := Kept.mk (Vf.out.keep (hb1))
  clear hb1
  obtain ⟨vpf, vwf, flf, kf0, kf1, kf2, kf3, kf4⟩ := Vf.out.open_
  go_wp2_with fail
  ((with_reducible refine (few_any F _ _ flf).mono ?_); rintro e W2 ⟨rfl, hb1⟩)
  clear kf0 kf1 kf2 kf3 kf4 flf
  replace hB := Kept.mk (hB.out.trans ((hb1).mono hB.out.size))
  replace Vf := Kept.mk (Vf.out.keep (hb1))
  clear hb1
  obtain ⟨vpf, vwf, flf, kf0, kf1, kf2, kf3, kf4⟩ := Vf.out.open_
  rw [HF.out]
  go_wp2
  go_ret
  exact ⟨rfl, hB.out⟩
set_option maxRecDepth 100000 in
set_option maxHeartbeats 8000000 in
theorem flashBetween_2 (F : Fl) (v : Value) (page at_ : Int) (s torn : List UInt8) (w : World) (hv : isFl F v w) (hfew : fewB F = true) (hs : 400 < s.length) :
    Calls Try.prog 5 #[v, .int .i64 page, .int .i64 at_, .string ⟨s.toArray⟩, .string ⟨torn.toArray⟩] w fun e w' => e = .returned (.bool true) ∧ Below w.heap.size w w' := by
  obtain ⟨vp, vw, rfl, hp, hq⟩ := hv
  have HF := Kept.mk hfew
  clear hfew
  have hsz : (⟨s.toArray⟩ : ByteArray).size = s.length := size_mk s
  have c1 : decide (400 < (s.length : Int)) = true := by simp; omega
  obtain ⟨hB, Vf⟩ := var_box w F vp vw hp hq
  clear hp hq
  go_enter Try.func5, Try.ntmps5
  go_wp2_with fail
  ((with_reducible refine (works_any _).mono ?_); rintro e W1 ⟨rfl, hb1⟩)
  replace hB := Kept.mk (hB.out.trans ((hb1).mono hB.out.size))
  replace Vf := Kept.mk (Vf.out.keep (hb1))
  clear hb1
  obtain ⟨vpf, vwf, flf, kf0, kf1, kf2, kf3, kf4⟩ := Vf.out.open_
  go_wp2_with fail
  ((with_reducible refine (few_any F _ _ flf).mono ?_); rintro e W2 ⟨rfl, hb1⟩)
  clear kf0 kf1 kf2 kf3 kf4 flf
  replace hB := Kept.mk (hB.out.trans ((hb1).mono hB.out.size))
  replace Vf := Kept.mk (Vf.out.keep (hb1))
  clear hb1
  obtain ⟨vpf, vwf, flf, kf0, kf1, kf2, kf3, kf4⟩ := Vf.out.open_
  rw [HF.out]
  go_wp2
  go_ret
  exact ⟨rfl, hB.out⟩
set_option maxRecDepth 100000 in
set_option maxHeartbeats 8000000 in
theorem flashBetween_3 (F : Fl) (v : Value) (page at_ : Int) (s torn : List UInt8) (w : World) (hv : isFl F v w) (W V : Fl) (hfew : fewB F = true) (hs : s.length ≤ 400) (HW : Kept (∀ (v : Value) (w : World), isFl F v w → Calls Try.prog 17 #[v, .int .i64 0, .string ⟨torn.toArray⟩] w fun e w' => ∃ v', e = .returned (.tuple #[v', .int .i64 1]) ∧ isFlN w.heap.size W v' w' ∧ Below w.heap.size w w')) (HV : Kept (∀ (v : Value) (w : World), isFl F v w → Calls Try.prog 17 #[v, .int .i64 (-1), .string ⟨torn.toArray⟩] w fun e w' => ∃ v', e = .returned (.tuple #[v', .int .i64 1]) ∧ isFlN w.heap.size V v' w' ∧ Below w.heap.size w w')) :
    Calls Try.prog 5 #[v, .int .i64 page, .int .i64 at_, .string ⟨s.toArray⟩, .string ⟨torn.toArray⟩] w fun e w' => e = .returned (.bool true) ∧ Below w.heap.size w w' := by
  obtain ⟨vp, vw, rfl, hp, hq⟩ := hv
  have HF := Kept.mk hfew
  obtain ⟨hn1, hn2⟩ := few_facts hfew
  clear hfew
  have hsz : (⟨s.toArray⟩ : ByteArray).size = s.length := size_mk s
  have c1 : decide (400 < (s.length : Int)) = false := by simp; omega
  obtain ⟨hB, Vf⟩ := var_box w F vp vw hp hq
  clear hp hq
  go_enter Try.func5, Try.ntmps5
  go_wp2_with fail
  ((with_reducible refine (works_any _).mono ?_); rintro e W1 ⟨rfl, hb1⟩)
  replace hB := Kept.mk (hB.out.trans ((hb1).mono hB.out.size))
  replace Vf := Kept.mk (Vf.out.keep (hb1))
  clear hb1
  obtain ⟨vpf, vwf, flf, kf0, kf1, kf2, kf3, kf4⟩ := Vf.out.open_
  go_wp2_with fail
  ((with_reducible refine (few_any F _ _ flf).mono ?_); rintro e W2 ⟨rfl, hb1⟩)
  clear kf0 kf1 kf2 kf3 kf4 flf
  replace hB := Kept.mk (hB.out.trans ((hb1).mono hB.out.size))
  replace Vf := Kept.mk (Vf.out.keep (hb1))
  clear hb1
  obtain ⟨vpf, vwf, flf, kf0, kf1, kf2, kf3, kf4⟩ := Vf.out.open_
  rw [HF.out]
  go_wp2_with fail
  ((with_reducible refine (HW.out _ _ flf).mono ?_); rintro e U ⟨v', rfl, hf', hb1⟩)
  obtain ⟨vp', vw', rfl, hp', hq'⟩ := hf'.fl
  have o1 := hp'.one
  have o2 := hq'.one
  obtain ⟨K1, K2, K3, K4⟩ := var_new U W vp' vw' hp' hq'
  clear hp' hq' hf'
  clear kf0 kf1 kf2 kf3 kf4 flf
  replace hB := Kept.mk (hB.out.trans ((hb1).mono hB.out.size))
  replace Vf := Kept.mk (Vf.out.keep (hb1))
  clear hb1
  go_wp2_with (refine wpList_store5 rfl (.tmp 13) (.tmp 45) rfl U.heap.size vp' vw' (.int .i64 W.fuse) (strC W.torn) (.bool W.dead) rfl rfl K1.out K2.out o1 o2 rfl rfl rfl ?_; replace hB := Kept.mk (hB.out.trans ((K3.out).mono hB.out.size)); replace Vf := Kept.mk (Vf.out.keep (K3.out)); have Vw := K4; clear K1 K2 K3 K4 o1 o2; generalize set5 (U.alloc (.cells #[.slice none 0 0, .slice none 0 0, .int .i64 0, .string ⟨#[]⟩, .bool false] 25)) U.heap.size vp' vw' (.int .i64 W.fuse) (strC W.torn) (.bool W.dead) = W3 at *; generalize U.heap.size = gw at *; obtain ⟨vpf, vwf, flf, kf0, kf1, kf2, kf3, kf4⟩ := Vf.out.open_)
  ((with_reducible refine (HV.out _ _ flf).mono ?_); rintro e U ⟨v', rfl, hf', hb1⟩)
  obtain ⟨vp', vw', rfl, hp', hq'⟩ := hf'.fl
  have o1 := hp'.one
  have o2 := hq'.one
  obtain ⟨K1, K2, K3, K4⟩ := var_new U V vp' vw' hp' hq'
  clear hp' hq' hf'
  clear kf0 kf1 kf2 kf3 kf4 flf
  replace hB := Kept.mk (hB.out.trans ((hb1).mono hB.out.size))
  replace Vf := Kept.mk (Vf.out.keep (hb1))
  replace Vw := Kept.mk (Vw.out.keep (hb1))
  clear hb1
  go_wp2_with (refine wpList_store5 rfl (.tmp 15) (.tmp 51) rfl U.heap.size vp' vw' (.int .i64 V.fuse) (strC V.torn) (.bool V.dead) rfl rfl K1.out K2.out o1 o2 rfl rfl rfl ?_; replace hB := Kept.mk (hB.out.trans ((K3.out).mono hB.out.size)); replace Vf := Kept.mk (Vf.out.keep (K3.out)); replace Vw := Kept.mk (Vw.out.keep (K3.out)); have Vv := K4; clear K1 K2 K3 K4 o1 o2; generalize set5 (U.alloc (.cells #[.slice none 0 0, .slice none 0 0, .int .i64 0, .string ⟨#[]⟩, .bool false] 25)) U.heap.size vp' vw' (.int .i64 V.fuse) (strC V.torn) (.bool V.dead) = W4 at *; generalize U.heap.size = gv at *; obtain ⟨vpf, vwf, flf, kf0, kf1, kf2, kf3, kf4⟩ := Vf.out.open_)
  go_wp2
  go_ret
  exact ⟨rfl, hB.out⟩
set_option maxRecDepth 100000 in
set_option maxHeartbeats 8000000 in
theorem flashBetween_4 (F : Fl) (v : Value) (page at_ : Int) (s torn : List UInt8) (w : World) (hv : isFl F v w) (W V : Fl) (hfew : fewB F = true) (hs : s.length ≤ 400) (hp0 : page < 0) (HW : Kept (∀ (v : Value) (w : World), isFl F v w → Calls Try.prog 17 #[v, .int .i64 0, .string ⟨torn.toArray⟩] w fun e w' => ∃ v', e = .returned (.tuple #[v', .int .i64 0]) ∧ isFlN w.heap.size W v' w' ∧ Below w.heap.size w w')) (HV : Kept (∀ (v : Value) (w : World), isFl F v w → Calls Try.prog 17 #[v, .int .i64 (-1), .string ⟨torn.toArray⟩] w fun e w' => ∃ v', e = .returned (.tuple #[v', .int .i64 0]) ∧ isFlN w.heap.size V v' w' ∧ Below w.heap.size w w')) :
    Calls Try.prog 5 #[v, .int .i64 page, .int .i64 at_, .string ⟨s.toArray⟩, .string ⟨torn.toArray⟩] w fun e w' => e = .returned (.bool true) ∧ Below w.heap.size w w' := by
  obtain ⟨vp, vw, rfl, hp, hq⟩ := hv
  have HF := Kept.mk hfew
  obtain ⟨hn1, hn2⟩ := few_facts hfew
  clear hfew
  have hsz : (⟨s.toArray⟩ : ByteArray).size = s.length := size_mk s
  have c1 : decide (400 < (s.length : Int)) = false := by simp; omega
  have d0 : decide (page < 0) = true := by simpa using hp0
  obtain ⟨hB, Vf⟩ := var_box w F vp vw hp hq
  clear hp hq
  go_enter Try.func5, Try.ntmps5
  go_wp2_with fail
  ((with_reducible refine (works_any _).mono ?_); rintro e W1 ⟨rfl, hb1⟩)
  replace hB := Kept.mk (hB.out.trans ((hb1).mono hB.out.size))
  replace Vf := Kept.mk (Vf.out.keep (hb1))
  clear hb1
  obtain ⟨vpf, vwf, flf, kf0, kf1, kf2, kf3, kf4⟩ := Vf.out.open_
  go_wp2_with fail
  ((with_reducible refine (few_any F _ _ flf).mono ?_); rintro e W2 ⟨rfl, hb1⟩)
  clear kf0 kf1 kf2 kf3 kf4 flf
  replace hB := Kept.mk (hB.out.trans ((hb1).mono hB.out.size))
  replace Vf := Kept.mk (Vf.out.keep (hb1))
  clear hb1
  obtain ⟨vpf, vwf, flf, kf0, kf1, kf2, kf3, kf4⟩ := Vf.out.open_
  rw [HF.out]
  go_wp2_with fail
  ((with_reducible refine (HW.out _ _ flf).mono ?_); rintro e U ⟨v', rfl, hf', hb1⟩)
  obtain ⟨vp', vw', rfl, hp', hq'⟩ := hf'.fl
  have o1 := hp'.one
  have o2 := hq'.one
  obtain ⟨K1, K2, K3, K4⟩ := var_new U W vp' vw' hp' hq'
  clear hp' hq' hf'
  clear kf0 kf1 kf2 kf3 kf4 flf
  replace hB := Kept.mk (hB.out.trans ((hb1).mono hB.out.size))
  replace Vf := Kept.mk (Vf.out.keep (hb1))
  clear hb1
  go_wp2_with (refine wpList_store5 rfl (.tmp 13) (.tmp 45) rfl U.heap.size vp' vw' (.int .i64 W.fuse) (strC W.torn) (.bool W.dead) rfl rfl K1.out K2.out o1 o2 rfl rfl rfl ?_; replace hB := Kept.mk (hB.out.trans ((K3.out).mono hB.out.size)); replace Vf := Kept.mk (Vf.out.keep (K3.out)); have Vw := K4; clear K1 K2 K3 K4 o1 o2; generalize set5 (U.alloc (.cells #[.slice none 0 0, .slice none 0 0, .int .i64 0, .string ⟨#[]⟩, .bool false] 25)) U.heap.size vp' vw' (.int .i64 W.fuse) (strC W.torn) (.bool W.dead) = W3 at *; generalize U.heap.size = gw at *; obtain ⟨vpf, vwf, flf, kf0, kf1, kf2, kf3, kf4⟩ := Vf.out.open_)
  ((with_reducible refine (HV.out _ _ flf).mono ?_); rintro e U ⟨v', rfl, hf', hb1⟩)
  obtain ⟨vp', vw', rfl, hp', hq'⟩ := hf'.fl
  have o1 := hp'.one
  have o2 := hq'.one
  obtain ⟨K1, K2, K3, K4⟩ := var_new U V vp' vw' hp' hq'
  clear hp' hq' hf'
  clear kf0 kf1 kf2 kf3 kf4 flf
  replace hB := Kept.mk (hB.out.trans ((hb1).mono hB.out.size))
  replace Vf := Kept.mk (Vf.out.keep (hb1))
  replace Vw := Kept.mk (Vw.out.keep (hb1))
  clear hb1
  go_wp2_with (refine wpList_store5 rfl (.tmp 15) (.tmp 51) rfl U.heap.size vp' vw' (.int .i64 V.fuse) (strC V.torn) (.bool V.dead) rfl rfl K1.out K2.out o1 o2 rfl rfl rfl ?_; replace hB := Kept.mk (hB.out.trans ((K3.out).mono hB.out.size)); replace Vf := Kept.mk (Vf.out.keep (K3.out)); replace Vw := Kept.mk (Vw.out.keep (K3.out)); have Vv := K4; clear K1 K2 K3 K4 o1 o2; generalize set5 (U.alloc (.cells #[.slice none 0 0, .slice none 0 0, .int .i64 0, .string ⟨#[]⟩, .bool false] 25)) U.heap.size vp' vw' (.int .i64 V.fuse) (strC V.torn) (.bool V.dead) = W4 at *; generalize U.heap.size = gv at *; obtain ⟨vpf, vwf, flf, kf0, kf1, kf2, kf3, kf4⟩ := Vf.out.open_)
  go_wp2
  go_ret
  exact ⟨rfl, hB.out⟩
set_option maxRecDepth 100000 in
set_option maxHeartbeats 8000000 in
theorem flashBetween_5 (F : Fl) (v : Value) (page at_ : Int) (s torn : List UInt8) (w : World) (hv : isFl F v w) (W V : Fl) (hfew : fewB F = true) (hs : s.length ≤ 400) (hp0 : 0 ≤ page) (hp1 : (F.pages.length : Int) ≤ page) (HW : Kept (∀ (v : Value) (w : World), isFl F v w → Calls Try.prog 17 #[v, .int .i64 0, .string ⟨torn.toArray⟩] w fun e w' => ∃ v', e = .returned (.tuple #[v', .int .i64 0]) ∧ isFlN w.heap.size W v' w' ∧ Below w.heap.size w w')) (HV : Kept (∀ (v : Value) (w : World), isFl F v w → Calls Try.prog 17 #[v, .int .i64 (-1), .string ⟨torn.toArray⟩] w fun e w' => ∃ v', e = .returned (.tuple #[v', .int .i64 0]) ∧ isFlN w.heap.size V v' w' ∧ Below w.heap.size w w')) :
    Calls Try.prog 5 #[v, .int .i64 page, .int .i64 at_, .string ⟨s.toArray⟩, .string ⟨torn.toArray⟩] w fun e w' => e = .returned (.bool true) ∧ Below w.heap.size w w' := by
  obtain ⟨vp, vw, rfl, hp, hq⟩ := hv
  have HF := Kept.mk hfew
  obtain ⟨hn1, hn2⟩ := few_facts hfew
  clear hfew
  have hsz : (⟨s.toArray⟩ : ByteArray).size = s.length := size_mk s
  have c1 : decide (400 < (s.length : Int)) = false := by simp; omega
  have d0 : decide (page < 0) = false := by simp; omega
  have d1 : decide ((F.pages.length : Int) ≤ page) = true := by simpa using hp1
  obtain ⟨hB, Vf⟩ := var_box w F vp vw hp hq
  clear hp hq
  go_enter Try.func5, Try.ntmps5
  go_wp2_with fail
  ((with_reducible refine (works_any _).mono ?_); rintro e W1 ⟨rfl, hb1⟩)
  replace hB := Kept.mk (hB.out.trans ((hb1).mono hB.out.size))
  replace Vf := Kept.mk (Vf.out.keep (hb1))
  clear hb1
  obtain ⟨vpf, vwf, flf, kf0, kf1, kf2, kf3, kf4⟩ := Vf.out.open_
  go_wp2_with fail
  ((with_reducible refine (few_any F _ _ flf).mono ?_); rintro e W2 ⟨rfl, hb1⟩)
  clear kf0 kf1 kf2 kf3 kf4 flf
  replace hB := Kept.mk (hB.out.trans ((hb1).mono hB.out.size))
  replace Vf := Kept.mk (Vf.out.keep (hb1))
  clear hb1
  obtain ⟨vpf, vwf, flf, kf0, kf1, kf2, kf3, kf4⟩ := Vf.out.open_
  rw [HF.out]
  go_wp2_with fail
  ((with_reducible refine (HW.out _ _ flf).mono ?_); rintro e U ⟨v', rfl, hf', hb1⟩)
  obtain ⟨vp', vw', rfl, hp', hq'⟩ := hf'.fl
  have o1 := hp'.one
  have o2 := hq'.one
  obtain ⟨K1, K2, K3, K4⟩ := var_new U W vp' vw' hp' hq'
  clear hp' hq' hf'
  clear kf0 kf1 kf2 kf3 kf4 flf
  replace hB := Kept.mk (hB.out.trans ((hb1).mono hB.out.size))
  replace Vf := Kept.mk (Vf.out.keep (hb1))
  clear hb1
  go_wp2_with (refine wpList_store5 rfl (.tmp 13) (.tmp 45) rfl U.heap.size vp' vw' (.int .i64 W.fuse) (strC W.torn) (.bool W.dead) rfl rfl K1.out K2.out o1 o2 rfl rfl rfl ?_; replace hB := Kept.mk (hB.out.trans ((K3.out).mono hB.out.size)); replace Vf := Kept.mk (Vf.out.keep (K3.out)); have Vw := K4; clear K1 K2 K3 K4 o1 o2; generalize set5 (U.alloc (.cells #[.slice none 0 0, .slice none 0 0, .int .i64 0, .string ⟨#[]⟩, .bool false] 25)) U.heap.size vp' vw' (.int .i64 W.fuse) (strC W.torn) (.bool W.dead) = W3 at *; generalize U.heap.size = gw at *; obtain ⟨vpf, vwf, flf, kf0, kf1, kf2, kf3, kf4⟩ := Vf.out.open_)
  ((with_reducible refine (HV.out _ _ flf).mono ?_); rintro e U ⟨v', rfl, hf', hb1⟩)
  obtain ⟨vp', vw', rfl, hp', hq'⟩ := hf'.fl
  have o1 := hp'.one
  have o2 := hq'.one
  obtain ⟨K1, K2, K3, K4⟩ := var_new U V vp' vw' hp' hq'
  clear hp' hq' hf'
  clear kf0 kf1 kf2 kf3 kf4 flf
  replace hB := Kept.mk (hB.out.trans ((hb1).mono hB.out.size))
  replace Vf := Kept.mk (Vf.out.keep (hb1))
  replace Vw := Kept.mk (Vw.out.keep (hb1))
  clear hb1
  go_wp2_with (refine wpList_store5 rfl (.tmp 15) (.tmp 51) rfl U.heap.size vp' vw' (.int .i64 V.fuse) (strC V.torn) (.bool V.dead) rfl rfl K1.out K2.out o1 o2 rfl rfl rfl ?_; replace hB := Kept.mk (hB.out.trans ((K3.out).mono hB.out.size)); replace Vf := Kept.mk (Vf.out.keep (K3.out)); replace Vw := Kept.mk (Vw.out.keep (K3.out)); have Vv := K4; clear K1 K2 K3 K4 o1 o2; generalize set5 (U.alloc (.cells #[.slice none 0 0, .slice none 0 0, .int .i64 0, .string ⟨#[]⟩, .bool false] 25)) U.heap.size vp' vw' (.int .i64 V.fuse) (strC V.torn) (.bool V.dead) = W4 at *; generalize U.heap.size = gv at *; obtain ⟨vpf, vwf, flf, kf0, kf1, kf2, kf3, kf4⟩ := Vf.out.open_; obtain ⟨af, cf, hvf⟩ := (isFlp flf).len; rw [List.length_map] at hvf; subst hvf)
  go_wp2
  go_ret
  exact ⟨rfl, hB.out⟩
theorem cells_of_fl {C F : Fl} {vp vw f t d vp2 vw2 f2 t2 d2 : Value} {w : World} (h : isFl C (.agg #[vp, vw, f, t, d]) w) (h2 : isFl F (.agg #[vp2, vw2, f2, t2, d2]) w) : isCells (C.wear.map intC) vw w ∧ isCells (F.wear.map intC) vw2 w := by
  obtain ⟨a, b, e, _, h1⟩ := h
  obtain ⟨a2, b2, e2, _, h3⟩ := h2
  simp only [Value.agg.injEq, Array.mk.injEq, List.cons.injEq] at e e2
  rw [e.2.1, e2.2.1]
  exact ⟨h1, h3⟩
set_option maxRecDepth 100000 in
set_option maxHeartbeats 8000000 in
theorem flashBetween_6 (F : Fl) (v : Value) (k : Nat) (at_ : Int) (s torn : List UInt8) (w : World) (hv : isFl F v w) (W V A B C D : Fl) (p cP aP bP : List UInt8) (x1 x2 : Int) (hfew : fewB F = true) (hs : s.length ≤ 400) (hk : k < F.pages.length) (hmm : F.wear.length = F.pages.length) (hx0 : 0 ≤ x2) (hx1 : x2 ≤ 2147483647) (HX : Kept ((if (2147483647 : Int) < x2 + 1 then 2147483647 else x2 + 1) = x1))
    (HCD : Kept (C.dead = true ∧ D.dead = false ∧ C.pages.length = F.pages.length ∧ D.pages.length = F.pages.length ∧ C.wear.length = F.wear.length ∧ D.wear.length = F.wear.length ∧ C.pages[k]? = some cP ∧ F.pages[k]? = some p ∧ D.wear[k]? = some x1 ∧ F.wear[k]? = some x2 ∧ C.wear = F.wear)) (hcp : cP.length ≤ 10000) (hpp : p.length ≤ 10000) (HOR : Kept (pairL (· ||| ·) p cP = cP)) (HFR : Kept (∀ (v : Value) (w : World), isFl D v w → Calls Try.prog 24 #[v, .int .i64 (k : Int)] w fun e w' => e = .returned (.bool true) ∧ Below w.heap.size w w'))
    (HW : Kept (∀ (v : Value) (w : World), isFl F v w → Calls Try.prog 17 #[v, .int .i64 0, .string ⟨torn.toArray⟩] w fun e w' => ∃ v', e = .returned (.tuple #[v', .int .i64 0]) ∧ isFlN w.heap.size W v' w' ∧ Below w.heap.size w w')) (HV : Kept (∀ (v : Value) (w : World), isFl F v w → Calls Try.prog 17 #[v, .int .i64 (-1), .string ⟨torn.toArray⟩] w fun e w' => ∃ v', e = .returned (.tuple #[v', .int .i64 0]) ∧ isFlN w.heap.size V v' w' ∧ Below w.heap.size w w'))
    (HA : Kept (∀ (v : Value) (w : World), isFl W v w → Calls Try.prog 12 #[v, .int .i64 (k : Int), .int .i64 at_, .string ⟨s.toArray⟩] w fun e w' => ∃ v', e = .returned (.tuple #[v', .int .i64 1]) ∧ isFlN w.heap.size A v' w' ∧ Below w.heap.size w w')) (HB : Kept (∀ (v : Value) (w : World), isFl V v w → Calls Try.prog 12 #[v, .int .i64 (k : Int), .int .i64 at_, .string ⟨s.toArray⟩] w fun e w' => ∃ v', e = .returned (.tuple #[v', .int .i64 1]) ∧ isFlN w.heap.size B v' w' ∧ Below w.heap.size w w'))
    (HC : Kept (∀ (v : Value) (w : World), isFl W v w → Calls Try.prog 10 #[v, .int .i64 (k : Int)] w fun e w' => ∃ v', e = .returned (.tuple #[v', .int .i64 8]) ∧ isFlN w.heap.size C v' w' ∧ Below w.heap.size w w')) (HD : Kept (∀ (v : Value) (w : World), isFl V v w → Calls Try.prog 10 #[v, .int .i64 (k : Int)] w fun e w' => ∃ v', e = .returned (.tuple #[v', .int .i64 0]) ∧ isFlN w.heap.size D v' w' ∧ Below w.heap.size w w')) :
    Calls Try.prog 5 #[v, .int .i64 (k : Int), .int .i64 at_, .string ⟨s.toArray⟩, .string ⟨torn.toArray⟩] w fun e w' => e = .returned (.bool true) ∧ Below w.heap.size w w' := by
  obtain ⟨vp, vw, rfl, hp, hq⟩ := hv
  have HF := Kept.mk hfew
  obtain ⟨hn1, hn2⟩ := few_facts hfew
  clear hfew
  have hsz : (⟨s.toArray⟩ : ByteArray).size = s.length := size_mk s
  have c1 : decide (400 < (s.length : Int)) = false := by simp; omega
  have hm1 := Nat.le_of_eq hmm
  have hm2 := Nat.le_of_eq hmm.symm
  clear hmm
  have d0 : decide ((k : Int) < 0) = false := by simp
  have d1 : decide ((F.pages.length : Int) ≤ (k : Int)) = false := by simp; omega
  have d1' : decide (F.pages.length ≤ k) = false := by simp; omega
  obtain ⟨hB, Vf⟩ := var_box w F vp vw hp hq
  clear hp hq
  go_enter Try.func5, Try.ntmps5
  go_wp2_with fail
  ((with_reducible refine (works_any _).mono ?_); rintro e W1 ⟨rfl, hb1⟩)
  replace hB := Kept.mk (hB.out.trans ((hb1).mono hB.out.size))
  replace Vf := Kept.mk (Vf.out.keep (hb1))
  clear hb1
  obtain ⟨vpf, vwf, flf, kf0, kf1, kf2, kf3, kf4⟩ := Vf.out.open_
  go_wp2_with fail
  ((with_reducible refine (few_any F _ _ flf).mono ?_); rintro e W2 ⟨rfl, hb1⟩)
  clear kf0 kf1 kf2 kf3 kf4 flf
  replace hB := Kept.mk (hB.out.trans ((hb1).mono hB.out.size))
  replace Vf := Kept.mk (Vf.out.keep (hb1))
  clear hb1
  obtain ⟨vpf, vwf, flf, kf0, kf1, kf2, kf3, kf4⟩ := Vf.out.open_
  rw [HF.out]
  go_wp2_with fail
  ((with_reducible refine (HW.out _ _ flf).mono ?_); rintro e U ⟨v', rfl, hf', hb1⟩)
  obtain ⟨vp', vw', rfl, hp', hq'⟩ := hf'.fl
  have o1 := hp'.one
  have o2 := hq'.one
  obtain ⟨K1, K2, K3, K4⟩ := var_new U W vp' vw' hp' hq'
  clear hp' hq' hf'
  clear kf0 kf1 kf2 kf3 kf4 flf
  replace hB := Kept.mk (hB.out.trans ((hb1).mono hB.out.size))
  replace Vf := Kept.mk (Vf.out.keep (hb1))
  clear hb1
  go_wp2_with (refine wpList_store5 rfl (.tmp 13) (.tmp 45) rfl U.heap.size vp' vw' (.int .i64 W.fuse) (strC W.torn) (.bool W.dead) rfl rfl K1.out K2.out o1 o2 rfl rfl rfl ?_; replace hB := Kept.mk (hB.out.trans ((K3.out).mono hB.out.size)); replace Vf := Kept.mk (Vf.out.keep (K3.out)); have Vw := K4; clear K1 K2 K3 K4 o1 o2; generalize set5 (U.alloc (.cells #[.slice none 0 0, .slice none 0 0, .int .i64 0, .string ⟨#[]⟩, .bool false] 25)) U.heap.size vp' vw' (.int .i64 W.fuse) (strC W.torn) (.bool W.dead) = W3 at *; generalize U.heap.size = gw at *; obtain ⟨vpf, vwf, flf, kf0, kf1, kf2, kf3, kf4⟩ := Vf.out.open_)
  ((with_reducible refine (HV.out _ _ flf).mono ?_); rintro e U ⟨v', rfl, hf', hb1⟩)
  obtain ⟨vp', vw', rfl, hp', hq'⟩ := hf'.fl
  have o1 := hp'.one
  have o2 := hq'.one
  obtain ⟨K1, K2, K3, K4⟩ := var_new U V vp' vw' hp' hq'
  clear hp' hq' hf'
  clear kf0 kf1 kf2 kf3 kf4 flf
  replace hB := Kept.mk (hB.out.trans ((hb1).mono hB.out.size))
  replace Vf := Kept.mk (Vf.out.keep (hb1))
  replace Vw := Kept.mk (Vw.out.keep (hb1))
  clear hb1
  go_wp2_with (refine wpList_store5 rfl (.tmp 15) (.tmp 51) rfl U.heap.size vp' vw' (.int .i64 V.fuse) (strC V.torn) (.bool V.dead) rfl rfl K1.out K2.out o1 o2 rfl rfl rfl ?_; replace hB := Kept.mk (hB.out.trans ((K3.out).mono hB.out.size)); replace Vf := Kept.mk (Vf.out.keep (K3.out)); replace Vw := Kept.mk (Vw.out.keep (K3.out)); have Vv := K4; clear K1 K2 K3 K4 o1 o2; generalize set5 (U.alloc (.cells #[.slice none 0 0, .slice none 0 0, .int .i64 0, .string ⟨#[]⟩, .bool false] 25)) U.heap.size vp' vw' (.int .i64 V.fuse) (strC V.torn) (.bool V.dead) = W4 at *; generalize U.heap.size = gv at *; obtain ⟨vpf, vwf, flf, kf0, kf1, kf2, kf3, kf4⟩ := Vf.out.open_; obtain ⟨af, cf, hvf⟩ := (isFlp flf).len; rw [List.length_map] at hvf; subst hvf; clear flf kf1 kf2 kf3 kf4; obtain ⟨vpw, vww, flw, kw0, kw1, kw2, kw3, kw4⟩ := Vw.out.open_)
  clear kf0
  ((with_reducible refine (HA.out _ _ flw).mono ?_); rintro e U ⟨v', rfl, hf', hb1⟩)
  obtain ⟨vp', vw', rfl, hp', hq'⟩ := hf'.fl
  have o1 := hp'.one
  have o2 := hq'.one
  obtain ⟨K1, K2, K3, K4⟩ := var_new U A vp' vw' hp' hq'
  clear hp' hq' hf'
  clear kw0 kw1 kw2 kw3 kw4 flw
  replace hB := Kept.mk (hB.out.trans ((hb1).mono hB.out.size))
  replace Vf := Kept.mk (Vf.out.keep (hb1))
  replace Vw := Kept.mk (Vw.out.keep (hb1))
  replace Vv := Kept.mk (Vv.out.keep (hb1))
  clear hb1
  go_wp2_with (refine wpList_store5 rfl (.tmp 17) (.tmp 82) rfl U.heap.size vp' vw' (.int .i64 A.fuse) (strC A.torn) (.bool A.dead) rfl rfl K1.out K2.out o1 o2 rfl rfl rfl ?_; replace hB := Kept.mk (hB.out.trans ((K3.out).mono hB.out.size)); replace Vf := Kept.mk (Vf.out.keep (K3.out)); replace Vw := Kept.mk (Vw.out.keep (K3.out)); replace Vv := Kept.mk (Vv.out.keep (K3.out)); have Va := K4; clear K1 K2 K3 K4 o1 o2; generalize set5 (U.alloc (.cells #[.slice none 0 0, .slice none 0 0, .int .i64 0, .string ⟨#[]⟩, .bool false] 25)) U.heap.size vp' vw' (.int .i64 A.fuse) (strC A.torn) (.bool A.dead) = W5 at *; generalize U.heap.size = ga at *; obtain ⟨vpv, vwv, flv, kv0, kv1, kv2, kv3, kv4⟩ := Vv.out.open_)
  ((with_reducible refine (HB.out _ _ flv).mono ?_); rintro e U ⟨v', rfl, hf', hb1⟩)
  obtain ⟨vp', vw', rfl, hp', hq'⟩ := hf'.fl
  have o1 := hp'.one
  have o2 := hq'.one
  obtain ⟨K1, K2, K3, K4⟩ := var_new U B vp' vw' hp' hq'
  clear hp' hq' hf'
  clear kv0 kv1 kv2 kv3 kv4 flv
  replace hB := Kept.mk (hB.out.trans ((hb1).mono hB.out.size))
  replace Vf := Kept.mk (Vf.out.keep (hb1))
  replace Vw := Kept.mk (Vw.out.keep (hb1))
  replace Vv := Kept.mk (Vv.out.keep (hb1))
  replace Va := Kept.mk (Va.out.keep (hb1))
  clear hb1
  go_wp2_with (refine wpList_store5 rfl (.tmp 19) (.tmp 90) rfl U.heap.size vp' vw' (.int .i64 B.fuse) (strC B.torn) (.bool B.dead) rfl rfl K1.out K2.out o1 o2 rfl rfl rfl ?_; replace hB := Kept.mk (hB.out.trans ((K3.out).mono hB.out.size)); replace Vf := Kept.mk (Vf.out.keep (K3.out)); replace Vw := Kept.mk (Vw.out.keep (K3.out)); replace Vv := Kept.mk (Vv.out.keep (K3.out)); replace Va := Kept.mk (Va.out.keep (K3.out)); have Vb := K4; clear K1 K2 K3 K4 o1 o2; generalize set5 (U.alloc (.cells #[.slice none 0 0, .slice none 0 0, .int .i64 0, .string ⟨#[]⟩, .bool false] 25)) U.heap.size vp' vw' (.int .i64 B.fuse) (strC B.torn) (.bool B.dead) = W6 at *; generalize U.heap.size = gb at *; obtain ⟨vpw, vww, flw, kw0, kw1, kw2, kw3, kw4⟩ := Vw.out.open_)
  ((with_reducible refine (HC.out _ _ flw).mono ?_); rintro e U ⟨v', rfl, hf', hb1⟩)
  obtain ⟨vp', vw', rfl, hp', hq'⟩ := hf'.fl
  have o1 := hp'.one
  have o2 := hq'.one
  obtain ⟨K1, K2, K3, K4⟩ := var_new U C vp' vw' hp' hq'
  clear hp' hq' hf'
  clear kw0 kw1 kw2 kw3 kw4 flw
  replace hB := Kept.mk (hB.out.trans ((hb1).mono hB.out.size))
  replace Vf := Kept.mk (Vf.out.keep (hb1))
  replace Vw := Kept.mk (Vw.out.keep (hb1))
  replace Vv := Kept.mk (Vv.out.keep (hb1))
  replace Va := Kept.mk (Va.out.keep (hb1))
  replace Vb := Kept.mk (Vb.out.keep (hb1))
  clear hb1
  go_wp2_with (refine wpList_store5 rfl (.tmp 21) (.tmp 96) rfl U.heap.size vp' vw' (.int .i64 C.fuse) (strC C.torn) (.bool C.dead) rfl rfl K1.out K2.out o1 o2 rfl rfl rfl ?_; replace hB := Kept.mk (hB.out.trans ((K3.out).mono hB.out.size)); replace Vf := Kept.mk (Vf.out.keep (K3.out)); replace Vw := Kept.mk (Vw.out.keep (K3.out)); replace Vv := Kept.mk (Vv.out.keep (K3.out)); replace Va := Kept.mk (Va.out.keep (K3.out)); replace Vb := Kept.mk (Vb.out.keep (K3.out)); have Vc := K4; clear K1 K2 K3 K4 o1 o2; generalize set5 (U.alloc (.cells #[.slice none 0 0, .slice none 0 0, .int .i64 0, .string ⟨#[]⟩, .bool false] 25)) U.heap.size vp' vw' (.int .i64 C.fuse) (strC C.torn) (.bool C.dead) = W7 at *; generalize U.heap.size = gc at *; obtain ⟨vpv, vwv, flv, kv0, kv1, kv2, kv3, kv4⟩ := Vv.out.open_)
  ((with_reducible refine (HD.out _ _ flv).mono ?_); rintro e U ⟨v', rfl, hf', hb1⟩)
  obtain ⟨vp', vw', rfl, hp', hq'⟩ := hf'.fl
  have o1 := hp'.one
  have o2 := hq'.one
  obtain ⟨K1, K2, K3, K4⟩ := var_new U D vp' vw' hp' hq'
  clear hp' hq' hf'
  clear kv0 kv1 kv2 kv3 kv4 flv
  replace hB := Kept.mk (hB.out.trans ((hb1).mono hB.out.size))
  replace Vf := Kept.mk (Vf.out.keep (hb1))
  replace Vw := Kept.mk (Vw.out.keep (hb1))
  replace Vv := Kept.mk (Vv.out.keep (hb1))
  replace Va := Kept.mk (Va.out.keep (hb1))
  replace Vb := Kept.mk (Vb.out.keep (hb1))
  replace Vc := Kept.mk (Vc.out.keep (hb1))
  clear hb1
  go_wp2_with (refine wpList_store5 rfl (.tmp 23) (.tmp 102) rfl U.heap.size vp' vw' (.int .i64 D.fuse) (strC D.torn) (.bool D.dead) rfl rfl K1.out K2.out o1 o2 rfl rfl rfl ?_; replace hB := Kept.mk (hB.out.trans ((K3.out).mono hB.out.size)); replace Vf := Kept.mk (Vf.out.keep (K3.out)); replace Vw := Kept.mk (Vw.out.keep (K3.out)); replace Vv := Kept.mk (Vv.out.keep (K3.out)); replace Va := Kept.mk (Va.out.keep (K3.out)); replace Vb := Kept.mk (Vb.out.keep (K3.out)); replace Vc := Kept.mk (Vc.out.keep (K3.out)); have Vd := K4; clear K1 K2 K3 K4 o1 o2; generalize set5 (U.alloc (.cells #[.slice none 0 0, .slice none 0 0, .int .i64 0, .string ⟨#[]⟩, .bool false] 25)) U.heap.size vp' vw' (.int .i64 D.fuse) (strC D.torn) (.bool D.dead) = W8 at *; generalize U.heap.size = gd at *)
  obtain ⟨bf, of, cf, df, qf, sf, Cf, Lf, lbf, ldf, Pf, Rf⟩ := Vf.out.rows (n := F.pages.length) (m := F.wear.length) rfl rfl (by omega) (by omega)
  obtain ⟨bc, oc, cc, dc, qc, sc, Cc, Lc, lbc, ldc, Pc, Rc⟩ := Vc.out.rows (n := F.pages.length) (m := F.wear.length) HCD.out.2.2.1 HCD.out.2.2.2.2.1 (by omega) (by omega)
  obtain ⟨bd, od, cd, dd, qd, sd, Cd, Ld, lbd, ldd, Pd, Rd⟩ := Vd.out.rows (n := F.pages.length) (m := F.wear.length) HCD.out.2.2.2.1 HCD.out.2.2.2.2.2.1 (by omega) (by omega)
  rw [HCD.out.1] at Cc
  rw [HCD.out.2.1] at Cd Ld
  refine bet15_wp _ _ _ rfl F.pages.length F.wear.length k _ _ _ _ _ _ _ _ _ _ _ _ _ _ _ _ _ _ _ _ _ _ _ _ _ _ _ _ x1 x2 (by omega) hx0 hx1 HX.out Cc Cd Cf (Rd k _ HCD.out.2.2.2.2.2.2.2.2.1) ldd (Rf k _ HCD.out.2.2.2.2.2.2.2.2.2.1) ldf rfl rfl rfl rfl rfl rfl ?_
  clear Cc Cd Cf Lc Ld Lf Pc Pd Pf Rc Rd Rf
  intro f9 W11 hg hb9
  replace hB := Kept.mk (hB.out.trans (hb9.mono hB.out.size))
  replace Vf := Kept.mk (Vf.out.keep hb9)
  replace Vw := Kept.mk (Vw.out.keep hb9)
  replace Vv := Kept.mk (Vv.out.keep hb9)
  replace Va := Kept.mk (Va.out.keep hb9)
  replace Vb := Kept.mk (Vb.out.keep hb9)
  replace Vc := Kept.mk (Vc.out.keep hb9)
  replace Vd := Kept.mk (Vd.out.keep hb9)
  clear hb9
  simp only [List.foldl_cons, List.foldl_nil, hg]
  generalize f9 104 = y104
  generalize f9 105 = y105
  generalize f9 106 = y106
  generalize f9 107 = y107
  generalize f9 108 = y108
  generalize f9 109 = y109
  generalize f9 110 = y110
  generalize f9 111 = y111
  generalize f9 112 = y112
  generalize f9 113 = y113
  generalize f9 114 = y114
  generalize f9 115 = y115
  generalize f9 116 = y116
  generalize f9 117 = y117
  generalize f9 118 = y118
  generalize f9 119 = y119
  generalize f9 120 = y120
  generalize f9 121 = y121
  generalize f9 122 = y122
  generalize f9 123 = y123
  generalize f9 124 = y124
  generalize f9 125 = y125
  generalize f9 126 = y126
  generalize f9 127 = y127
  generalize f9 128 = y128
  generalize f9 129 = y129
  generalize f9 130 = y130
  generalize f9 131 = y131
  generalize f9 132 = y132
  generalize f9 133 = y133
  generalize f9 134 = y134
  generalize f9 135 = y135
  generalize f9 136 = y136
  generalize f9 137 = y137
  generalize f9 138 = y138
  generalize f9 139 = y139
  generalize f9 140 = y140
  generalize f9 141 = y141
  generalize f9 142 = y142
  generalize f9 143 = y143
  generalize f9 144 = y144
  generalize f9 145 = y145
  generalize f9 146 = y146
  generalize f9 147 = y147
  generalize f9 148 = y148
  generalize f9 149 = y149
  generalize f9 150 = y150
  clear hg
  simp only [List.setIfInBounds_toArray, List.set_cons_succ, List.set_cons_zero]
  obtain ⟨bf, of, cf, df, qf, sf, Cf, Lf, lbf, ldf, Pf, Rf⟩ := Vf.out.rows (n := F.pages.length) (m := F.wear.length) rfl rfl (by omega) (by omega)
  obtain ⟨bc, oc, cc, dc, qc, sc, Cc, Lc, lbc, ldc, Pc, Rc⟩ := Vc.out.rows (n := F.pages.length) (m := F.wear.length) HCD.out.2.2.1 HCD.out.2.2.2.2.1 (by omega) (by omega)
  obtain ⟨bd, od, cd, dd, qd, sd, Cd, Ld, lbd, ldd, Pd, Rd⟩ := Vd.out.rows (n := F.pages.length) (m := F.wear.length) HCD.out.2.2.2.1 HCD.out.2.2.2.2.2.1 (by omega) (by omega)
  rw [HCD.out.1] at Cc
  rw [HCD.out.2.1] at Cd Ld
  have kf0 := Cf.2.1
  have kfp := Pf k _ HCD.out.2.2.2.2.2.2.2.1
  have Ccq := Kept.mk Cc
  have Lcq := Kept.mk Lc
  have Pcq := Kept.mk Pc
  have Cdq := Kept.mk Cd
  have Ldq := Kept.mk Ld
  have Pdq := Kept.mk Pd
  have Cfq := Kept.mk Cf
  have Lfq := Kept.mk Lf
  have Pfq := Kept.mk Pf
  have HI := Kept.mk (cells_of_fl Lc Lf)
  clear Cc Cd Cf Lc Ld Lf Pc Pd Pf Rc Rd Rf
  go_wp2_with fail
  refine bet18_wp _ _ _ rfl F.pages.length F.wear.length k _ _ _ _ _ _ _ _ _ _ _ _ _ _ _ _ _ _ _ _ _ _ _ _ _ _ _ _ p cP hk Ccq.out Cdq.out Cfq.out (Pcq.out k _ HCD.out.2.2.2.2.2.2.1) lbc (fun w2 hb2 => (or_l p cP w2 (by omega) (by omega)).mono (by rintro e w' ⟨rfl, hb⟩; exact ⟨_, rfl, by rw [HOR.out]; rfl, hb⟩)) (fun w2 hb2 => (refInts_any C.wear F.wear _ _ w2 (stable_cells _ _ _ _ HI.out.1 hb2) (stable_cells _ _ _ _ HI.out.2 hb2) (by rw [HCD.out.2.2.2.2.2.2.2.2.2.2]; omega) (by omega)).mono (by rintro e w' ⟨rfl, hb⟩; exact ⟨_, rfl, by rw [HCD.out.2.2.2.2.2.2.2.2.2.2]; simp [isVal], hb⟩)) (fun w2 hb2 => (HFR.out _ w2 (fl_grow Ldq.out hb2)).mono (by rintro e w' ⟨rfl, hb⟩; exact ⟨_, rfl, rfl, hb⟩)) rfl rfl rfl rfl rfl ?_
  clear Ccq Cdq Cfq Lcq Ldq Lfq Pcq Pdq Pfq HI kf0 kfp
  intro f9 W12 hg hb9
  replace hB := Kept.mk (hB.out.trans (hb9.mono hB.out.size))
  replace Vf := Kept.mk (Vf.out.keep hb9)
  replace Vw := Kept.mk (Vw.out.keep hb9)
  replace Vv := Kept.mk (Vv.out.keep hb9)
  replace Va := Kept.mk (Va.out.keep hb9)
  replace Vb := Kept.mk (Vb.out.keep hb9)
  replace Vc := Kept.mk (Vc.out.keep hb9)
  replace Vd := Kept.mk (Vd.out.keep hb9)
  clear hb9
  simp only [List.foldl_cons, List.foldl_nil, hg]
  generalize f9 157 = y157
  generalize f9 158 = y158
  generalize f9 159 = y159
  generalize f9 160 = y160
  generalize f9 161 = y161
  generalize f9 162 = y162
  generalize f9 163 = y163
  generalize f9 164 = y164
  generalize f9 165 = y165
  generalize f9 166 = y166
  generalize f9 167 = y167
  generalize f9 168 = y168
  generalize f9 169 = y169
  generalize f9 170 = y170
  generalize f9 171 = y171
  generalize f9 172 = y172
  generalize f9 173 = y173
  generalize f9 174 = y174
  generalize f9 175 = y175
  generalize f9 176 = y176
  generalize f9 177 = y177
  generalize f9 178 = y178
  generalize f9 179 = y179
  generalize f9 180 = y180
  generalize f9 181 = y181
  generalize f9 182 = y182
  clear hg
  simp only [List.setIfInBounds_toArray, List.set_cons_succ, List.set_cons_zero]
  go_wp2
  go_ret
  exact ⟨rfl, hB.out⟩
end Go.Proofs.Ytipiioggdalkoaa
