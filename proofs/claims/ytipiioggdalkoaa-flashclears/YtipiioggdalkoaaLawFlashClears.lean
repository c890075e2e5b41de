/- A program only clears bits; twice it is as once; two that go together are as one, in any order (flash.Program, Wake, Same). -/
import Derived.Test.YtipiioggdalkoaaFlWorks
import Derived.Test.YtipiioggdalkoaaFlClearMath
import Derived.Test.YtipiioggdalkoaaFlOpen
import Derived.Test.YtipiioggdalkoaaFlowOut
import Derived.Test.YtipiioggdalkoaaFlLay
import Derived.SizedLaws
import Derived.ProofKit
import Derived.OpenShut
import Derived.ShutString
import Derived.ChangeOld
import Derived.Below
namespace Go.Proofs.Ytipiioggdalkoaa
open Go.ChangeShapes Go.WideShapes Go.ChangeAt Go.RowKit
open Go.ChangeMaps (open_string shut_string)
set_option linter.unusedVariables false
set_option linter.unusedSimpArgs false
attribute [local irreducible] set5

noncomputable def clears12 : Array Oper := regionOf Try.f6 12
set_option maxRecDepth 100000 in
set_option maxHeartbeats 4000000 in
theorem clears_region (Q : Exit → Act → World → Prop) (a0 : Act) (w0 : World) (hsz : a0.tmps.size = 172) (gw : Nat) (D X : Fl) (vp vw : Value) (page at_ ex : Int) (s t : List UInt8) (hs : s.length ≤ 400) (ht : t.length ≤ 400)
    (e13 : a0.tmps.getD 13 undef = .pointer (some ⟨gw, 0, none⟩)) (e1 : a0.tmps.getD 1 undef = .int .i64 page) (e2 : a0.tmps.getD 2 undef = .int .i64 at_) (e3 : a0.tmps.getD 3 undef = .string ⟨s.toArray⟩) (e4 : a0.tmps.getD 4 undef = .string ⟨t.toArray⟩)
    (hC : Cells5 w0 gw vp vw (.int .i64 D.fuse) (strC D.torn) (.bool D.dead))
    (hcall : ∀ w2 : World, Below w0.heap.size w0 w2 → Calls Try.prog 12 #[.agg #[vp, vw, .int .i64 D.fuse, strC D.torn, .bool D.dead], .int .i64 page, .int .i64 at_, .string ⟨(pairL (· &&& ·) s t).toArray⟩] w2 fun e w' => ∃ v, e = .returned v ∧ isTupB w0.heap.size X ex v w' ∧ Below w2.heap.size w2 w')
    (hQ : ∀ (f : Nat → Value) (w : World) (g : Nat), f 23 = .pointer (some ⟨g, 0, none⟩) → f 24 = .int .i64 ex → Kept (Var w g X) → Kept (Below w0.heap.size w0 w) → Q .normal { tmps := [85, 86, 87, 88, 89, 90, 91, 84, 92, 93, 23, 24].foldl (fun t s => t.setIfInBounds s (f s)) a0.tmps, defers := a0.defers } w) :
    (Code.region 12 clears12 true).wp Try.prog Q a0 w0 := by
  have hBB : w0.heap.size ≤ w0.heap.size := Nat.le_refl _
  have hok : flowOk clears12 a0.tmps.size = true := by rw [hsz]; kernel_rfl
  have hR := laid_pre (stab_holdsF w0.heap.size X)
  have hcb : ∀ w, Laid 25 w0.heap.size (holdsF w0.heap.size X) w0 w → ∀ w2, Below w.heap.size w w2 → Below w0.heap.size w0 w2 := fun w hw w2 hb => (hw.below hBB).trans (hb.mono (hw.below hBB).size)
  refine wp_region_lay hR mixed hok (by kernel_rfl) ?_
  rw [show clears12.size = 13 by kernel_rfl]
  refine ⟨isVal (.agg #[vp, vw, .int .i64 D.fuse, strC D.torn, .bool D.dead]), LStep.of hR hok (stabR_val _ _) (by kernel_rfl) (fun w hw => step_load5 (.tmp 13) gw (by kernel_rfl) (wanted_none (by kernel_rfl)) (knows_old 13 (.pointer (some ⟨gw, 0, none⟩)) (by kernel_rfl) e13) (hC.keep (hw.below hBB) hC.1)), ?_⟩
  refine ⟨isVal (.int .i64 page), LStep.of hR hok (stabR_val _ _) (by kernel_rfl) (fun w hw => step_move (.tmp 1) (by kernel_rfl) (wanted_none (by kernel_rfl)) (stable_val _) (knows_old 1 (.int .i64 page) (by kernel_rfl) e1)), ?_⟩
  refine ⟨isVal (.int .i64 at_), LStep.of hR hok (stabR_val _ _) (by kernel_rfl) (fun w hw => step_move (.tmp 2) (by kernel_rfl) (wanted_none (by kernel_rfl)) (stable_val _) (knows_old 2 (.int .i64 at_) (by kernel_rfl) e2)), ?_⟩
  refine ⟨isVal (.string ⟨s.toArray⟩), LStep.of hR hok (stabR_val _ _) (by kernel_rfl) (fun w hw => step_move (.tmp 3) (by kernel_rfl) (wanted_none (by kernel_rfl)) (stable_val _) (knows_old 3 (.string ⟨s.toArray⟩) (by kernel_rfl) e3)), ?_⟩
  refine ⟨isVal (.string ⟨t.toArray⟩), LStep.of hR hok (stabR_val _ _) (by kernel_rfl) (fun w hw => step_move (.tmp 4) (by kernel_rfl) (wanted_none (by kernel_rfl)) (stable_val _) (knows_old 4 (.string ⟨t.toArray⟩) (by kernel_rfl) e4)), ?_⟩
  refine ⟨isVal (.string ⟨(pairL (· &&& ·) s t).toArray⟩), LStep.of hR hok (stabR_val _ _) (by kernel_rfl) (fun w hw => step_call 28 #[.tmp 88, .tmp 89] #[9, 9] #[.string ⟨s.toArray⟩, .string ⟨t.toArray⟩] (by kernel_rfl) (wanted_none (by kernel_rfl)) (stable_val _) (args2 (.tmp 88) (.tmp 89) (.string ⟨s.toArray⟩) (.string ⟨t.toArray⟩) (knows_new (V := isVal (.string ⟨s.toArray⟩)) 88 3 (by kernel_rfl) (by kernel_rfl) (by kernel_rfl)) (knows_new (V := isVal (.string ⟨t.toArray⟩)) 89 4 (by kernel_rfl) (by kernel_rfl) (by kernel_rfl))) (enters_of Try.func28 (by kernel_rfl) rfl) (by intro w hb; exact call_and s t (by omega) (by omega) w)), ?_⟩
  refine ⟨isTupB w0.heap.size X (ex), LStep.of hR hok (stab_tupB _ _ _ _) (by kernel_rfl) (fun w hw => step_call 12 #[.tmp 85, .tmp 86, .tmp 87, .tmp 90] #[25, 3, 3, 9] #[.agg #[vp, vw, .int .i64 D.fuse, strC D.torn, .bool D.dead], .int .i64 page, .int .i64 at_, .string ⟨(pairL (· &&& ·) s t).toArray⟩] (by kernel_rfl) (wanted_none (by kernel_rfl)) (stable_tupB _ _ _) (args4 (.tmp 85) (.tmp 86) (.tmp 87) (.tmp 90) (.agg #[vp, vw, .int .i64 D.fuse, strC D.torn, .bool D.dead]) (.int .i64 page) (.int .i64 at_) (.string ⟨(pairL (· &&& ·) s t).toArray⟩) (knows_new (V := isVal (.agg #[vp, vw, .int .i64 D.fuse, strC D.torn, .bool D.dead])) 85 0 (by kernel_rfl) (by kernel_rfl) (by kernel_rfl)) (knows_new (V := isVal (.int .i64 page)) 86 1 (by kernel_rfl) (by kernel_rfl) (by kernel_rfl)) (knows_new (V := isVal (.int .i64 at_)) 87 2 (by kernel_rfl) (by kernel_rfl) (by kernel_rfl)) (knows_new (V := isVal (.string ⟨(pairL (· &&& ·) s t).toArray⟩)) 90 5 (by kernel_rfl) (by kernel_rfl) (by kernel_rfl))) (enters_of Try.func12 (by kernel_rfl) rfl) (by intro w2 hb; exact hcall w2 (hcb w hw w2 hb))), ?_⟩
  refine ⟨isTupB w0.heap.size X (ex), LStep.of hR hok (stab_tupB _ _ _ _) (by kernel_rfl) (fun w hw => step_move (.tmp 91) (by kernel_rfl) (wanted_none (by kernel_rfl)) (stable_tupB _ _ _) (knows_new (V := isTupB w0.heap.size X (ex)) 91 6 (by kernel_rfl) (by kernel_rfl) (by kernel_rfl))), ?_⟩
  refine ⟨isFlB w0.heap.size X, LStep.of hR hok (stab_flB _ _ _) (by kernel_rfl) (fun w hw => step_extract0 w0.heap.size X (ex) (.tmp 84) (by kernel_rfl) (wanted_none (by kernel_rfl)) (knows_new (V := isTupB w0.heap.size X (ex)) 84 7 (by kernel_rfl) (by kernel_rfl) (by kernel_rfl))), ?_⟩
  refine ⟨isVal (.int .i64 (ex)), LStep.of hR hok (stabR_val _ _) (by kernel_rfl) (fun w hw => step_extract1 w0.heap.size X (ex) (.tmp 84) (by kernel_rfl) (wanted_none (by kernel_rfl)) (knows_new (V := isTupB w0.heap.size X (ex)) 84 7 (by kernel_rfl) (by kernel_rfl) (by kernel_rfl))), ?_⟩
  refine ⟨isNewB 25 w0.heap.size 5, LStep.alloc 25 zeroFl hBB (by kernel_rfl) hok (by kernel_rfl) (stab_holdsF _ _) alloc_fl, ?_⟩
  refine ⟨isLaidB 25 w0.heap.size (holdsF w0.heap.size X), LStep.store5 23 (.tmp 92) hBB (by kernel_rfl) (knows_new (V := isNewB 25 w0.heap.size 5) 23 10 (by kernel_rfl) (by kernel_rfl) (by kernel_rfl)) (knows_new (V := isFlB w0.heap.size X) 92 8 (by kernel_rfl) (by kernel_rfl) (by kernel_rfl)), ?_⟩
  refine ⟨isVal (.int .i64 (ex)), LStep.of hR hok (stabR_val _ _) (by kernel_rfl) (fun w hw => step_assign (.tmp 93) (by kernel_rfl) (wanted_none (by kernel_rfl)) (stable_val _) (knows_new (V := isVal (.int .i64 (ex))) 93 9 (by kernel_rfl) (by kernel_rfl) (by kernel_rfl))), ?_⟩
  intro a w hkp hr hd
  rw [kept_of hkp [some 85, some 86, some 87, some 88, some 89, some 90, some 91, some 84, some 92, some 93, some 23, none, some 24] [85, 86, 87, 88, 89, 90, 91, 84, 92, 93, 23, 24] (by kernel_rfl) (by decide)]
  have hsz2 : clears12.size = 13 := by kernel_rfl
  obtain ⟨g, hg, hv⟩ := Laid.var (ldone_of (hd 11 (by rw [hsz2]; decide)) (t := 23) (V := isLaidB 25 w0.heap.size (holdsF w0.heap.size X)) (by kernel_rfl) (by kernel_rfl))
  exact hQ (fun s => a.tmps.getD s undef) w g hg (ldone_of (hd 12 (by rw [hsz2]; decide)) (t := 24) (V := isVal (.int .i64 (ex))) (by kernel_rfl) (by kernel_rfl)) ⟨hv⟩ ⟨hr.below hBB⟩

noncomputable def clears16 : Array Oper := regionOf Try.f6 16
set_option maxRecDepth 100000 in
set_option maxHeartbeats 4000000 in
theorem clears_end (Q : Exit → Act → World → Prop) (a0 : Act) (w0 : World) (hsz : a0.tmps.size = 172) (D : Fl) (A Z p : List UInt8) (nn mm k : Nat) (hk : k < nn) (hA : A.length ≤ 1000000) (hp : p.length ≤ 1000000) (hand : (pairL (· &&& ·) A p == A) = true)
    (hsame : ∀ (u v : Value) (w : World) (x : List UInt8), isFl (setP D k x) u w → isFl (setP D k x) v w → Calls Try.prog 25 #[u, v] w fun e w' => ∃ y, e = .returned y ∧ isVal (.bool true) y w' ∧ Below w.heap.size w w')
     (ga ba oa ca da qa sa : Nat) (gb bb ob cb db qb sb : Nat) (gd bd od cd dd qd sd : Nat) (gx bx ox cx dx qx sx : Nat) (gu bu ou cu du qu su : Nat) (gw bw ow cw dw qw sw : Nat) (e15 : a0.tmps.getD 15 undef = .pointer (some ⟨ga, 0, none⟩)) (e17 : a0.tmps.getD 17 undef = .pointer (some ⟨gb, 0, none⟩)) (e21 : a0.tmps.getD 21 undef = .pointer (some ⟨gd, 0, none⟩)) (e23 : a0.tmps.getD 23 undef = .pointer (some ⟨gx, 0, none⟩)) (e25 : a0.tmps.getD 25 undef = .pointer (some ⟨gu, 0, none⟩)) (e13 : a0.tmps.getD 13 undef = .pointer (some ⟨gw, 0, none⟩)) (e11 : a0.tmps.getD 11 undef = .bool true) (e1 : a0.tmps.getD 1 undef = .int .i64 (k : Int)) (e18 : a0.tmps.getD 18 undef = .int .i64 0) (e20 : a0.tmps.getD 20 undef = .int .i64 0) (e22 : a0.tmps.getD 22 undef = .int .i64 0) (e24 : a0.tmps.getD 24 undef = .int .i64 0) (e26 : a0.tmps.getD 26 undef = .int .i64 0) (Ca : Cells5 w0 ga (.slice (some ⟨ba, oa, none⟩) nn ca) (.slice (some ⟨da, qa, none⟩) mm sa) (.int .i64 D.fuse) (strC D.torn) (.bool D.dead)) (La : isFl (setP D k A) (.agg #[.slice (some ⟨ba, oa, none⟩) nn ca, .slice (some ⟨da, qa, none⟩) mm sa, .int .i64 D.fuse, strC D.torn, .bool D.dead]) w0) (Cb : Cells5 w0 gb (.slice (some ⟨bb, ob, none⟩) nn cb) (.slice (some ⟨db, qb, none⟩) mm sb) (.int .i64 D.fuse) (strC D.torn) (.bool D.dead)) (Lb : isFl (setP D k Z) (.agg #[.slice (some ⟨bb, ob, none⟩) nn cb, .slice (some ⟨db, qb, none⟩) mm sb, .int .i64 D.fuse, strC D.torn, .bool D.dead]) w0) (Cd : Cells5 w0 gd (.slice (some ⟨bd, od, none⟩) nn cd) (.slice (some ⟨dd, qd, none⟩) mm sd) (.int .i64 D.fuse) (strC D.torn) (.bool D.dead)) (Ld : isFl (setP D k Z) (.agg #[.slice (some ⟨bd, od, none⟩) nn cd, .slice (some ⟨dd, qd, none⟩) mm sd, .int .i64 D.fuse, strC D.torn, .bool D.dead]) w0) (Cx : Cells5 w0 gx (.slice (some ⟨bx, ox, none⟩) nn cx) (.slice (some ⟨dx, qx, none⟩) mm sx) (.int .i64 D.fuse) (strC D.torn) (.bool D.dead)) (Lx : isFl (setP D k Z) (.agg #[.slice (some ⟨bx, ox, none⟩) nn cx, .slice (some ⟨dx, qx, none⟩) mm sx, .int .i64 D.fuse, strC D.torn, .bool D.dead]) w0) (Cu : Cells5 w0 gu (.slice (some ⟨bu, ou, none⟩) nn cu) (.slice (some ⟨du, qu, none⟩) mm su) (.int .i64 D.fuse) (strC D.torn) (.bool D.dead)) (Lu : isFl (setP D k A) (.agg #[.slice (some ⟨bu, ou, none⟩) nn cu, .slice (some ⟨du, qu, none⟩) mm su, .int .i64 D.fuse, strC D.torn, .bool D.dead]) w0) (Cw : Cells5 w0 gw (.slice (some ⟨bw, ow, none⟩) nn cw) (.slice (some ⟨dw, qw, none⟩) mm sw) (.int .i64 D.fuse) (strC D.torn) (.bool D.dead)) (Lw : isFl (setP D k p) (.agg #[.slice (some ⟨bw, ow, none⟩) nn cw, .slice (some ⟨dw, qw, none⟩) mm sw, .int .i64 D.fuse, strC D.torn, .bool D.dead]) w0) (Pa : w0.cell? ⟨ba, oa + k, none⟩ = some (.string ⟨A.toArray⟩)) (lba : ba < w0.heap.size) (Pw : w0.cell? ⟨bw, ow + k, none⟩ = some (.string ⟨p.toArray⟩)) (lbw : bw < w0.heap.size)
    (hQ : ∀ (a : Act) (w : World), a.defers = a0.defers → a.tmps.getD 10 undef = .bool true → Below w0.heap.size w0 w → Q .normal a w) :
    (Code.region 16 clears16 true).wp Try.prog Q a0 w0 := by
  refine wp_region_flow mixed (by rw [hsz]; kernel_rfl) ?_
  rw [show clears16.size = 56 by kernel_rfl]
  refine ⟨isVal (.bool true), step_move (.tmp 11) (by kernel_rfl) (wanted_none (by kernel_rfl)) (stable_val _) (knows_old 11 (.bool true) (by kernel_rfl) e11), ?_⟩
  refine ⟨isVal (.bool true), step_move (.tmp 117) (by kernel_rfl) (wanted_none (by kernel_rfl)) (stable_val _) (knows_new (V := isVal (.bool true)) 117 0 (by kernel_rfl) (by kernel_rfl) (by kernel_rfl)), ?_⟩
  refine ⟨isVal (.int .i64 0), step_move (.tmp 18) (by kernel_rfl) (wanted_some 1 118 true (by kernel_rfl) (by kernel_rfl) (by kernel_rfl) (by kernel_rfl)) (stable_val _) (knows_old 18 (.int .i64 0) (by kernel_rfl) e18), ?_⟩
  refine ⟨isVal (.bool true), step_bin .eql 28 28 (.tmp 119) (.const (.int .i64 0)) (.int .i64 0) (.int .i64 0) (.bool true) (by kernel_rfl) (wanted_some 1 118 true (by kernel_rfl) (by kernel_rfl) (by kernel_rfl) (by kernel_rfl)) (knows_new (V := isVal (.int .i64 0)) 119 2 (by kernel_rfl) (by kernel_rfl) (by kernel_rfl)) (knows_const _) (fun _ => rfl) (eql_int _ _ _ _ _ (by decide)), ?_⟩
  refine ⟨isVal (.bool true), step_pick (.tmp 118) (.tmp 120) (.const (.bool false)) true (by kernel_rfl) (wanted_none (by kernel_rfl)) (stable_val _) (knows_new (V := isVal (.bool true)) 118 1 (by kernel_rfl) (by kernel_rfl) (by kernel_rfl)) (knows_new (V := isVal (.bool true)) 120 3 (by kernel_rfl) (by kernel_rfl) (by kernel_rfl)), ?_⟩
  refine ⟨isVal (.bool true), step_move (.tmp 121) (by kernel_rfl) (wanted_none (by kernel_rfl)) (stable_val _) (knows_new (V := isVal (.bool true)) 121 4 (by kernel_rfl) (by kernel_rfl) (by kernel_rfl)), ?_⟩
  refine ⟨isVal (.int .i64 0), step_move (.tmp 20) (by kernel_rfl) (wanted_some 5 122 true (by kernel_rfl) (by kernel_rfl) (by kernel_rfl) (by kernel_rfl)) (stable_val _) (knows_old 20 (.int .i64 0) (by kernel_rfl) e20), ?_⟩
  refine ⟨isVal (.bool true), step_bin .eql 28 28 (.tmp 123) (.const (.int .i64 0)) (.int .i64 0) (.int .i64 0) (.bool true) (by kernel_rfl) (wanted_some 5 122 true (by kernel_rfl) (by kernel_rfl) (by kernel_rfl) (by kernel_rfl)) (knows_new (V := isVal (.int .i64 0)) 123 6 (by kernel_rfl) (by kernel_rfl) (by kernel_rfl)) (knows_const _) (fun _ => rfl) (eql_int _ _ _ _ _ (by decide)), ?_⟩
  refine ⟨isVal (.bool true), step_pick (.tmp 122) (.tmp 124) (.const (.bool false)) true (by kernel_rfl) (wanted_none (by kernel_rfl)) (stable_val _) (knows_new (V := isVal (.bool true)) 122 5 (by kernel_rfl) (by kernel_rfl) (by kernel_rfl)) (knows_new (V := isVal (.bool true)) 124 7 (by kernel_rfl) (by kernel_rfl) (by kernel_rfl)), ?_⟩
  refine ⟨isVal (.bool true), step_move (.tmp 125) (by kernel_rfl) (wanted_none (by kernel_rfl)) (stable_val _) (knows_new (V := isVal (.bool true)) 125 8 (by kernel_rfl) (by kernel_rfl) (by kernel_rfl)), ?_⟩
  refine ⟨isVal (.int .i64 0), step_move (.tmp 22) (by kernel_rfl) (wanted_some 9 126 true (by kernel_rfl) (by kernel_rfl) (by kernel_rfl) (by kernel_rfl)) (stable_val _) (knows_old 22 (.int .i64 0) (by kernel_rfl) e22), ?_⟩
  refine ⟨isVal (.bool true), step_bin .eql 28 28 (.tmp 127) (.const (.int .i64 0)) (.int .i64 0) (.int .i64 0) (.bool true) (by kernel_rfl) (wanted_some 9 126 true (by kernel_rfl) (by kernel_rfl) (by kernel_rfl) (by kernel_rfl)) (knows_new (V := isVal (.int .i64 0)) 127 10 (by kernel_rfl) (by kernel_rfl) (by kernel_rfl)) (knows_const _) (fun _ => rfl) (eql_int _ _ _ _ _ (by decide)), ?_⟩
  refine ⟨isVal (.bool true), step_pick (.tmp 126) (.tmp 128) (.const (.bool false)) true (by kernel_rfl) (wanted_none (by kernel_rfl)) (stable_val _) (knows_new (V := isVal (.bool true)) 126 9 (by kernel_rfl) (by kernel_rfl) (by kernel_rfl)) (knows_new (V := isVal (.bool true)) 128 11 (by kernel_rfl) (by kernel_rfl) (by kernel_rfl)), ?_⟩
  refine ⟨isVal (.bool true), step_move (.tmp 129) (by kernel_rfl) (wanted_none (by kernel_rfl)) (stable_val _) (knows_new (V := isVal (.bool true)) 129 12 (by kernel_rfl) (by kernel_rfl) (by kernel_rfl)), ?_⟩
  refine ⟨isVal (.int .i64 0), step_move (.tmp 24) (by kernel_rfl) (wanted_some 13 130 true (by kernel_rfl) (by kernel_rfl) (by kernel_rfl) (by kernel_rfl)) (stable_val _) (knows_old 24 (.int .i64 0) (by kernel_rfl) e24), ?_⟩
  refine ⟨isVal (.bool true), step_bin .eql 28 28 (.tmp 131) (.const (.int .i64 0)) (.int .i64 0) (.int .i64 0) (.bool true) (by kernel_rfl) (wanted_some 13 130 true (by kernel_rfl) (by kernel_rfl) (by kernel_rfl) (by kernel_rfl)) (knows_new (V := isVal (.int .i64 0)) 131 14 (by kernel_rfl) (by kernel_rfl) (by kernel_rfl)) (knows_const _) (fun _ => rfl) (eql_int _ _ _ _ _ (by decide)), ?_⟩
  refine ⟨isVal (.bool true), step_pick (.tmp 130) (.tmp 132) (.const (.bool false)) true (by kernel_rfl) (wanted_none (by kernel_rfl)) (stable_val _) (knows_new (V := isVal (.bool true)) 130 13 (by kernel_rfl) (by kernel_rfl) (by kernel_rfl)) (knows_new (V := isVal (.bool true)) 132 15 (by kernel_rfl) (by kernel_rfl) (by kernel_rfl)), ?_⟩
  refine ⟨isVal (.bool true), step_move (.tmp 133) (by kernel_rfl) (wanted_none (by kernel_rfl)) (stable_val _) (knows_new (V := isVal (.bool true)) 133 16 (by kernel_rfl) (by kernel_rfl) (by kernel_rfl)), ?_⟩
  refine ⟨isVal (.int .i64 0), step_move (.tmp 26) (by kernel_rfl) (wanted_some 17 134 true (by kernel_rfl) (by kernel_rfl) (by kernel_rfl) (by kernel_rfl)) (stable_val _) (knows_old 26 (.int .i64 0) (by kernel_rfl) e26), ?_⟩
  refine ⟨isVal (.bool true), step_bin .eql 28 28 (.tmp 135) (.const (.int .i64 0)) (.int .i64 0) (.int .i64 0) (.bool true) (by kernel_rfl) (wanted_some 17 134 true (by kernel_rfl) (by kernel_rfl) (by kernel_rfl) (by kernel_rfl)) (knows_new (V := isVal (.int .i64 0)) 135 18 (by kernel_rfl) (by kernel_rfl) (by kernel_rfl)) (knows_const _) (fun _ => rfl) (eql_int _ _ _ _ _ (by decide)), ?_⟩
  refine ⟨isVal (.bool true), step_pick (.tmp 134) (.tmp 136) (.const (.bool false)) true (by kernel_rfl) (wanted_none (by kernel_rfl)) (stable_val _) (knows_new (V := isVal (.bool true)) 134 17 (by kernel_rfl) (by kernel_rfl) (by kernel_rfl)) (knows_new (V := isVal (.bool true)) 136 19 (by kernel_rfl) (by kernel_rfl) (by kernel_rfl)), ?_⟩
  refine ⟨isVal (.bool true), step_move (.tmp 137) (by kernel_rfl) (wanted_none (by kernel_rfl)) (stable_val _) (knows_new (V := isVal (.bool true)) 137 20 (by kernel_rfl) (by kernel_rfl) (by kernel_rfl)), ?_⟩
  refine ⟨isVal (.agg #[.slice (some ⟨bb, ob, none⟩) nn cb, .slice (some ⟨db, qb, none⟩) mm sb, .int .i64 D.fuse, strC D.torn, .bool D.dead]), step_load5 (.tmp 17) gb (by kernel_rfl) (wanted_some 21 138 true (by kernel_rfl) (by kernel_rfl) (by kernel_rfl) (by kernel_rfl)) (knows_old 17 (.pointer (some ⟨gb, 0, none⟩)) (by kernel_rfl) e17) Cb, ?_⟩
  refine ⟨isVal (.agg #[.slice (some ⟨bd, od, none⟩) nn cd, .slice (some ⟨dd, qd, none⟩) mm sd, .int .i64 D.fuse, strC D.torn, .bool D.dead]), step_load5 (.tmp 21) gd (by kernel_rfl) (wanted_some 21 138 true (by kernel_rfl) (by kernel_rfl) (by kernel_rfl) (by kernel_rfl)) (knows_old 21 (.pointer (some ⟨gd, 0, none⟩)) (by kernel_rfl) e21) Cd, ?_⟩
  refine ⟨isVal (.bool true), step_call 25 #[.tmp 139, .tmp 140] #[25, 25] #[.agg #[.slice (some ⟨bb, ob, none⟩) nn cb, .slice (some ⟨db, qb, none⟩) mm sb, .int .i64 D.fuse, strC D.torn, .bool D.dead], .agg #[.slice (some ⟨bd, od, none⟩) nn cd, .slice (some ⟨dd, qd, none⟩) mm sd, .int .i64 D.fuse, strC D.torn, .bool D.dead]] (by kernel_rfl) (wanted_some 21 138 true (by kernel_rfl) (by kernel_rfl) (by kernel_rfl) (by kernel_rfl)) (stable_val _) (args2 (.tmp 139) (.tmp 140) (.agg #[.slice (some ⟨bb, ob, none⟩) nn cb, .slice (some ⟨db, qb, none⟩) mm sb, .int .i64 D.fuse, strC D.torn, .bool D.dead]) (.agg #[.slice (some ⟨bd, od, none⟩) nn cd, .slice (some ⟨dd, qd, none⟩) mm sd, .int .i64 D.fuse, strC D.torn, .bool D.dead]) (knows_new (V := isVal (.agg #[.slice (some ⟨bb, ob, none⟩) nn cb, .slice (some ⟨db, qb, none⟩) mm sb, .int .i64 D.fuse, strC D.torn, .bool D.dead])) 139 22 (by kernel_rfl) (by kernel_rfl) (by kernel_rfl)) (knows_new (V := isVal (.agg #[.slice (some ⟨bd, od, none⟩) nn cd, .slice (some ⟨dd, qd, none⟩) mm sd, .int .i64 D.fuse, strC D.torn, .bool D.dead])) 140 23 (by kernel_rfl) (by kernel_rfl) (by kernel_rfl))) (enters_of Try.func25 (by kernel_rfl) rfl) (by intro w hb; exact hsame _ _ w _ (fl_grow Lb hb) (fl_grow Ld hb)), ?_⟩
  refine ⟨isVal (.bool true), step_pick (.tmp 138) (.tmp 141) (.const (.bool false)) true (by kernel_rfl) (wanted_none (by kernel_rfl)) (stable_val _) (knows_new (V := isVal (.bool true)) 138 21 (by kernel_rfl) (by kernel_rfl) (by kernel_rfl)) (knows_new (V := isVal (.bool true)) 141 24 (by kernel_rfl) (by kernel_rfl) (by kernel_rfl)), ?_⟩
  refine ⟨isVal (.bool true), step_move (.tmp 142) (by kernel_rfl) (wanted_none (by kernel_rfl)) (stable_val _) (knows_new (V := isVal (.bool true)) 142 25 (by kernel_rfl) (by kernel_rfl) (by kernel_rfl)), ?_⟩
  refine ⟨isVal (.agg #[.slice (some ⟨bb, ob, none⟩) nn cb, .slice (some ⟨db, qb, none⟩) mm sb, .int .i64 D.fuse, strC D.torn, .bool D.dead]), step_load5 (.tmp 17) gb (by kernel_rfl) (wanted_some 26 143 true (by kernel_rfl) (by kernel_rfl) (by kernel_rfl) (by kernel_rfl)) (knows_old 17 (.pointer (some ⟨gb, 0, none⟩)) (by kernel_rfl) e17) Cb, ?_⟩
  refine ⟨isVal (.agg #[.slice (some ⟨bx, ox, none⟩) nn cx, .slice (some ⟨dx, qx, none⟩) mm sx, .int .i64 D.fuse, strC D.torn, .bool D.dead]), step_load5 (.tmp 23) gx (by kernel_rfl) (wanted_some 26 143 true (by kernel_rfl) (by kernel_rfl) (by kernel_rfl) (by kernel_rfl)) (knows_old 23 (.pointer (some ⟨gx, 0, none⟩)) (by kernel_rfl) e23) Cx, ?_⟩
  refine ⟨isVal (.bool true), step_call 25 #[.tmp 144, .tmp 145] #[25, 25] #[.agg #[.slice (some ⟨bb, ob, none⟩) nn cb, .slice (some ⟨db, qb, none⟩) mm sb, .int .i64 D.fuse, strC D.torn, .bool D.dead], .agg #[.slice (some ⟨bx, ox, none⟩) nn cx, .slice (some ⟨dx, qx, none⟩) mm sx, .int .i64 D.fuse, strC D.torn, .bool D.dead]] (by kernel_rfl) (wanted_some 26 143 true (by kernel_rfl) (by kernel_rfl) (by kernel_rfl) (by kernel_rfl)) (stable_val _) (args2 (.tmp 144) (.tmp 145) (.agg #[.slice (some ⟨bb, ob, none⟩) nn cb, .slice (some ⟨db, qb, none⟩) mm sb, .int .i64 D.fuse, strC D.torn, .bool D.dead]) (.agg #[.slice (some ⟨bx, ox, none⟩) nn cx, .slice (some ⟨dx, qx, none⟩) mm sx, .int .i64 D.fuse, strC D.torn, .bool D.dead]) (knows_new (V := isVal (.agg #[.slice (some ⟨bb, ob, none⟩) nn cb, .slice (some ⟨db, qb, none⟩) mm sb, .int .i64 D.fuse, strC D.torn, .bool D.dead])) 144 27 (by kernel_rfl) (by kernel_rfl) (by kernel_rfl)) (knows_new (V := isVal (.agg #[.slice (some ⟨bx, ox, none⟩) nn cx, .slice (some ⟨dx, qx, none⟩) mm sx, .int .i64 D.fuse, strC D.torn, .bool D.dead])) 145 28 (by kernel_rfl) (by kernel_rfl) (by kernel_rfl))) (enters_of Try.func25 (by kernel_rfl) rfl) (by intro w hb; exact hsame _ _ w _ (fl_grow Lb hb) (fl_grow Lx hb)), ?_⟩
  refine ⟨isVal (.bool true), step_pick (.tmp 143) (.tmp 146) (.const (.bool false)) true (by kernel_rfl) (wanted_none (by kernel_rfl)) (stable_val _) (knows_new (V := isVal (.bool true)) 143 26 (by kernel_rfl) (by kernel_rfl) (by kernel_rfl)) (knows_new (V := isVal (.bool true)) 146 29 (by kernel_rfl) (by kernel_rfl) (by kernel_rfl)), ?_⟩
  refine ⟨isVal (.bool true), step_move (.tmp 147) (by kernel_rfl) (wanted_none (by kernel_rfl)) (stable_val _) (knows_new (V := isVal (.bool true)) 147 30 (by kernel_rfl) (by kernel_rfl) (by kernel_rfl)), ?_⟩
  refine ⟨isVal (.agg #[.slice (some ⟨ba, oa, none⟩) nn ca, .slice (some ⟨da, qa, none⟩) mm sa, .int .i64 D.fuse, strC D.torn, .bool D.dead]), step_load5 (.tmp 15) ga (by kernel_rfl) (wanted_some 31 148 true (by kernel_rfl) (by kernel_rfl) (by kernel_rfl) (by kernel_rfl)) (knows_old 15 (.pointer (some ⟨ga, 0, none⟩)) (by kernel_rfl) e15) Ca, ?_⟩
  refine ⟨isVal (.agg #[.slice (some ⟨bu, ou, none⟩) nn cu, .slice (some ⟨du, qu, none⟩) mm su, .int .i64 D.fuse, strC D.torn, .bool D.dead]), step_load5 (.tmp 25) gu (by kernel_rfl) (wanted_some 31 148 true (by kernel_rfl) (by kernel_rfl) (by kernel_rfl) (by kernel_rfl)) (knows_old 25 (.pointer (some ⟨gu, 0, none⟩)) (by kernel_rfl) e25) Cu, ?_⟩
  refine ⟨isVal (.bool true), step_call 25 #[.tmp 149, .tmp 150] #[25, 25] #[.agg #[.slice (some ⟨ba, oa, none⟩) nn ca, .slice (some ⟨da, qa, none⟩) mm sa, .int .i64 D.fuse, strC D.torn, .bool D.dead], .agg #[.slice (some ⟨bu, ou, none⟩) nn cu, .slice (some ⟨du, qu, none⟩) mm su, .int .i64 D.fuse, strC D.torn, .bool D.dead]] (by kernel_rfl) (wanted_some 31 148 true (by kernel_rfl) (by kernel_rfl) (by kernel_rfl) (by kernel_rfl)) (stable_val _) (args2 (.tmp 149) (.tmp 150) (.agg #[.slice (some ⟨ba, oa, none⟩) nn ca, .slice (some ⟨da, qa, none⟩) mm sa, .int .i64 D.fuse, strC D.torn, .bool D.dead]) (.agg #[.slice (some ⟨bu, ou, none⟩) nn cu, .slice (some ⟨du, qu, none⟩) mm su, .int .i64 D.fuse, strC D.torn, .bool D.dead]) (knows_new (V := isVal (.agg #[.slice (some ⟨ba, oa, none⟩) nn ca, .slice (some ⟨da, qa, none⟩) mm sa, .int .i64 D.fuse, strC D.torn, .bool D.dead])) 149 32 (by kernel_rfl) (by kernel_rfl) (by kernel_rfl)) (knows_new (V := isVal (.agg #[.slice (some ⟨bu, ou, none⟩) nn cu, .slice (some ⟨du, qu, none⟩) mm su, .int .i64 D.fuse, strC D.torn, .bool D.dead])) 150 33 (by kernel_rfl) (by kernel_rfl) (by kernel_rfl))) (enters_of Try.func25 (by kernel_rfl) rfl) (by intro w hb; exact hsame _ _ w _ (fl_grow La hb) (fl_grow Lu hb)), ?_⟩
  refine ⟨isVal (.bool true), step_pick (.tmp 148) (.tmp 151) (.const (.bool false)) true (by kernel_rfl) (wanted_none (by kernel_rfl)) (stable_val _) (knows_new (V := isVal (.bool true)) 148 31 (by kernel_rfl) (by kernel_rfl) (by kernel_rfl)) (knows_new (V := isVal (.bool true)) 151 34 (by kernel_rfl) (by kernel_rfl) (by kernel_rfl)), ?_⟩
  refine ⟨isVal (.bool true), step_move (.tmp 152) (by kernel_rfl) (wanted_none (by kernel_rfl)) (stable_val _) (knows_new (V := isVal (.bool true)) 152 35 (by kernel_rfl) (by kernel_rfl) (by kernel_rfl)), ?_⟩
  refine ⟨isVal (.pointer (some ⟨ga, 0, none⟩)), step_field 25 (.tmp 15) 0 ⟨ga, 0, none⟩ ⟨ga, 0, none⟩ (by kernel_rfl) (wanted_some 36 153 true (by kernel_rfl) (by kernel_rfl) (by kernel_rfl) (by kernel_rfl)) (knows_old 15 (.pointer (some ⟨ga, 0, none⟩)) (by kernel_rfl) e15) (field_fl ga 0 (by omega)), ?_⟩
  refine ⟨isVal (.slice (some ⟨ba, oa, none⟩) nn ca), step_read 22 (.tmp 154) ⟨ga, 0, none⟩ (.slice (some ⟨ba, oa, none⟩) nn ca) (by kernel_rfl) (wanted_some 36 153 true (by kernel_rfl) (by kernel_rfl) (by kernel_rfl) (by kernel_rfl)) (knows_new (V := isVal (.pointer (some ⟨ga, 0, none⟩))) 154 37 (by kernel_rfl) (by kernel_rfl) (by kernel_rfl)) Ca.2.1 Ca.1 agg_strs, ?_⟩
  refine ⟨isVal (.int .i64 (k : Int)), step_move (.tmp 1) (by kernel_rfl) (wanted_some 36 153 true (by kernel_rfl) (by kernel_rfl) (by kernel_rfl) (by kernel_rfl)) (stable_val _) (knows_old 1 (.int .i64 (k : Int)) (by kernel_rfl) e1), ?_⟩
  refine ⟨isVal (.pointer (some ⟨ba, oa + k, none⟩)), step_place 22 9 (.tmp 155) (.tmp 156) ba oa nn ca k (by kernel_rfl) (wanted_some 36 153 true (by kernel_rfl) (by kernel_rfl) (by kernel_rfl) (by kernel_rfl)) (knows_new (V := isVal (.slice (some ⟨ba, oa, none⟩) nn ca)) 155 38 (by kernel_rfl) (by kernel_rfl) (by kernel_rfl)) (knows_new (V := isVal (.int .i64 (k : Int))) 156 39 (by kernel_rfl) (by kernel_rfl) (by kernel_rfl)) Try.underlying22 (by kernel_rfl) hk, ?_⟩
  refine ⟨isVal (.string ⟨A.toArray⟩), step_read 9 (.tmp 157) ⟨ba, oa + k, none⟩ (.string ⟨A.toArray⟩) (by kernel_rfl) (wanted_some 36 153 true (by kernel_rfl) (by kernel_rfl) (by kernel_rfl) (by kernel_rfl)) (knows_new (V := isVal (.pointer (some ⟨ba, oa + k, none⟩))) 157 40 (by kernel_rfl) (by kernel_rfl) (by kernel_rfl)) Pa lba agg_str, ?_⟩
  refine ⟨isVal (.pointer (some ⟨gw, 0, none⟩)), step_field 25 (.tmp 13) 0 ⟨gw, 0, none⟩ ⟨gw, 0, none⟩ (by kernel_rfl) (wanted_some 36 153 true (by kernel_rfl) (by kernel_rfl) (by kernel_rfl) (by kernel_rfl)) (knows_old 13 (.pointer (some ⟨gw, 0, none⟩)) (by kernel_rfl) e13) (field_fl gw 0 (by omega)), ?_⟩
  refine ⟨isVal (.slice (some ⟨bw, ow, none⟩) nn cw), step_read 22 (.tmp 159) ⟨gw, 0, none⟩ (.slice (some ⟨bw, ow, none⟩) nn cw) (by kernel_rfl) (wanted_some 36 153 true (by kernel_rfl) (by kernel_rfl) (by kernel_rfl) (by kernel_rfl)) (knows_new (V := isVal (.pointer (some ⟨gw, 0, none⟩))) 159 42 (by kernel_rfl) (by kernel_rfl) (by kernel_rfl)) Cw.2.1 Cw.1 agg_strs, ?_⟩
  refine ⟨isVal (.int .i64 (k : Int)), step_move (.tmp 1) (by kernel_rfl) (wanted_some 36 153 true (by kernel_rfl) (by kernel_rfl) (by kernel_rfl) (by kernel_rfl)) (stable_val _) (knows_old 1 (.int .i64 (k : Int)) (by kernel_rfl) e1), ?_⟩
  refine ⟨isVal (.pointer (some ⟨bw, ow + k, none⟩)), step_place 22 9 (.tmp 160) (.tmp 161) bw ow nn cw k (by kernel_rfl) (wanted_some 36 153 true (by kernel_rfl) (by kernel_rfl) (by kernel_rfl) (by kernel_rfl)) (knows_new (V := isVal (.slice (some ⟨bw, ow, none⟩) nn cw)) 160 43 (by kernel_rfl) (by kernel_rfl) (by kernel_rfl)) (knows_new (V := isVal (.int .i64 (k : Int))) 161 44 (by kernel_rfl) (by kernel_rfl) (by kernel_rfl)) Try.underlying22 (by kernel_rfl) hk, ?_⟩
  refine ⟨isVal (.string ⟨p.toArray⟩), step_read 9 (.tmp 162) ⟨bw, ow + k, none⟩ (.string ⟨p.toArray⟩) (by kernel_rfl) (wanted_some 36 153 true (by kernel_rfl) (by kernel_rfl) (by kernel_rfl) (by kernel_rfl)) (knows_new (V := isVal (.pointer (some ⟨bw, ow + k, none⟩))) 162 45 (by kernel_rfl) (by kernel_rfl) (by kernel_rfl)) Pw lbw agg_str, ?_⟩
  refine ⟨isVal (.string ⟨(pairL (· &&& ·) A p).toArray⟩), step_call 28 #[.tmp 158, .tmp 163] #[9, 9] #[.string ⟨A.toArray⟩, .string ⟨p.toArray⟩] (by kernel_rfl) (wanted_some 36 153 true (by kernel_rfl) (by kernel_rfl) (by kernel_rfl) (by kernel_rfl)) (stable_val _) (args2 (.tmp 158) (.tmp 163) (.string ⟨A.toArray⟩) (.string ⟨p.toArray⟩) (knows_new (V := isVal (.string ⟨A.toArray⟩)) 158 41 (by kernel_rfl) (by kernel_rfl) (by kernel_rfl)) (knows_new (V := isVal (.string ⟨p.toArray⟩)) 163 46 (by kernel_rfl) (by kernel_rfl) (by kernel_rfl))) (enters_of Try.func28 (by kernel_rfl) rfl) (by intro w hb; exact call_and A p (by omega) (by omega) w), ?_⟩
  refine ⟨isVal (.pointer (some ⟨ga, 0, none⟩)), step_field 25 (.tmp 15) 0 ⟨ga, 0, none⟩ ⟨ga, 0, none⟩ (by kernel_rfl) (wanted_some 36 153 true (by kernel_rfl) (by kernel_rfl) (by kernel_rfl) (by kernel_rfl)) (knows_old 15 (.pointer (some ⟨ga, 0, none⟩)) (by kernel_rfl) e15) (field_fl ga 0 (by omega)), ?_⟩
  refine ⟨isVal (.slice (some ⟨ba, oa, none⟩) nn ca), step_read 22 (.tmp 165) ⟨ga, 0, none⟩ (.slice (some ⟨ba, oa, none⟩) nn ca) (by kernel_rfl) (wanted_some 36 153 true (by kernel_rfl) (by kernel_rfl) (by kernel_rfl) (by kernel_rfl)) (knows_new (V := isVal (.pointer (some ⟨ga, 0, none⟩))) 165 48 (by kernel_rfl) (by kernel_rfl) (by kernel_rfl)) Ca.2.1 Ca.1 agg_strs, ?_⟩
  refine ⟨isVal (.int .i64 (k : Int)), step_move (.tmp 1) (by kernel_rfl) (wanted_some 36 153 true (by kernel_rfl) (by kernel_rfl) (by kernel_rfl) (by kernel_rfl)) (stable_val _) (knows_old 1 (.int .i64 (k : Int)) (by kernel_rfl) e1), ?_⟩
  refine ⟨isVal (.pointer (some ⟨ba, oa + k, none⟩)), step_place 22 9 (.tmp 166) (.tmp 167) ba oa nn ca k (by kernel_rfl) (wanted_some 36 153 true (by kernel_rfl) (by kernel_rfl) (by kernel_rfl) (by kernel_rfl)) (knows_new (V := isVal (.slice (some ⟨ba, oa, none⟩) nn ca)) 166 49 (by kernel_rfl) (by kernel_rfl) (by kernel_rfl)) (knows_new (V := isVal (.int .i64 (k : Int))) 167 50 (by kernel_rfl) (by kernel_rfl) (by kernel_rfl)) Try.underlying22 (by kernel_rfl) hk, ?_⟩
  refine ⟨isVal (.string ⟨A.toArray⟩), step_read 9 (.tmp 168) ⟨ba, oa + k, none⟩ (.string ⟨A.toArray⟩) (by kernel_rfl) (wanted_some 36 153 true (by kernel_rfl) (by kernel_rfl) (by kernel_rfl) (by kernel_rfl)) (knows_new (V := isVal (.pointer (some ⟨ba, oa + k, none⟩))) 168 51 (by kernel_rfl) (by kernel_rfl) (by kernel_rfl)) Pa lba agg_str, ?_⟩
  refine ⟨isVal (.bool true), step_bin .eql 9 9 (.tmp 164) (.tmp 169) (.string ⟨(pairL (· &&& ·) A p).toArray⟩) (.string ⟨A.toArray⟩) (.bool true) (by kernel_rfl) (wanted_some 36 153 true (by kernel_rfl) (by kernel_rfl) (by kernel_rfl) (by kernel_rfl)) (knows_new (V := isVal (.string ⟨(pairL (· &&& ·) A p).toArray⟩)) 164 47 (by kernel_rfl) (by kernel_rfl) (by kernel_rfl)) (knows_new (V := isVal (.string ⟨A.toArray⟩)) 169 52 (by kernel_rfl) (by kernel_rfl) (by kernel_rfl)) (fun _ => rfl) (eql_str _ _ _ _ hand), ?_⟩
  refine ⟨isVal (.bool true), step_pick (.tmp 153) (.tmp 170) (.const (.bool false)) true (by kernel_rfl) (wanted_none (by kernel_rfl)) (stable_val _) (knows_new (V := isVal (.bool true)) 153 36 (by kernel_rfl) (by kernel_rfl) (by kernel_rfl)) (knows_new (V := isVal (.bool true)) 170 53 (by kernel_rfl) (by kernel_rfl) (by kernel_rfl)), ?_⟩
  refine ⟨isVal (.bool true), step_assign (.tmp 171) (by kernel_rfl) (wanted_none (by kernel_rfl)) (stable_val _) (knows_new (V := isVal (.bool true)) 171 54 (by kernel_rfl) (by kernel_rfl) (by kernel_rfl)), ?_⟩
  intro a w hkp hb hd
  exact hQ a w hkp.1 (fdone_of (hd 55 (by rw [show clears16.size = 56 by kernel_rfl]; decide)) (t := 10) (V := isVal (.bool true)) (by kernel_rfl) (by kernel_rfl)) hb
set_option maxRecDepth 100000 in
set_option maxHeartbeats 4000000 in
theorem flashClears_1 (F : Fl) (v : Value) (page at_ : Int) (s t : List UInt8) (w : World) (hv : isFl F v w) (hfew : fewB F = false) :
    Calls Try.prog 6 #[v, .int .i64 page, .int .i64 at_, .string ⟨s.toArray⟩, .string ⟨t.toArray⟩] w fun e w' => e = .returned (.bool true) ∧ Below w.heap.size w w' := by
  obtain ⟨vp, vw, rfl, hp, hq⟩ := hv
  have HF := Kept.mk hfew
  clear hfew
  obtain ⟨hB, Vf⟩ := var_box w F vp vw hp hq
  clear hp hq
  go_enter Try.func6, Try.ntmps6
  go_wp2_with fail
  ((with_reducible refine (works_any _).mono ?_); rintro e W1 ⟨rfl, hb1⟩)
  replace hB := Kept.mk (hB.out.trans ((hb1).mono hB.out.size))
  replace Vf := Kept.mk (Vf.out.keep (hb1))
  clear hb1
  obtain ⟨vpf, vwf, flf, kf0, kf1, kf2, kf3, kf4⟩ := Vf.out.open_
  go_wp2_with fail
  ((with_reducible refine (few_any F _ _ flf).mono ?_); rintro e W2 ⟨rfl, hb1⟩)
  clear kf0 kf1 kf2 kf3 kf4 flf
  replace hB := Kept.mk (hB.out.trans ((hb1).mono hB.out.size))
  replace Vf := Kept.mk (Vf.out.keep (hb1))
  clear hb1
  rw [HF.out]
  go_wp2
  go_ret
  exact ⟨rfl, hB.out⟩
set_option maxRecDepth 100000 in
set_option maxHeartbeats 4000000 in
theorem flashClears_2 (F : Fl) (v : Value) (page at_ : Int) (s t : List UInt8) (w : World) (hv : isFl F v w) (hfew : fewB F = true) (hs : 400 < s.length) :
    Calls Try.prog 6 #[v, .int .i64 page, .int .i64 at_, .string ⟨s.toArray⟩, .string ⟨t.toArray⟩] w fun e w' => e = .returned (.bool true) ∧ Below w.heap.size w w' := by
  obtain ⟨vp, vw, rfl, hp, hq⟩ := hv
  have HF := Kept.mk hfew
  clear hfew
  have hsz : (⟨s.toArray⟩ : ByteArray).size = s.length := size_mk s
  have hszt : (⟨t.toArray⟩ : ByteArray).size = t.length := size_mk t
  have c1 : decide (400 < (s.length : Int)) = true := by simp; omega
  obtain ⟨hB, Vf⟩ := var_box w F vp vw hp hq
  clear hp hq
  go_enter Try.func6, Try.ntmps6
  go_wp2_with fail
  ((with_reducible refine (works_any _).mono ?_); rintro e W1 ⟨rfl, hb1⟩)
  replace hB := Kept.mk (hB.out.trans ((hb1).mono hB.out.size))
  replace Vf := Kept.mk (Vf.out.keep (hb1))
  clear hb1
  obtain ⟨vpf, vwf, flf, kf0, kf1, kf2, kf3, kf4⟩ := Vf.out.open_
  go_wp2_with fail
  ((with_reducible refine (few_any F _ _ flf).mono ?_); rintro e W2 ⟨rfl, hb1⟩)
  clear kf0 kf1 kf2 kf3 kf4 flf
  replace hB := Kept.mk (hB.out.trans ((hb1).mono hB.out.size))
  replace Vf := Kept.mk (Vf.out.keep (hb1))
  clear hb1
  rw [HF.out]
  go_wp2
  go_ret
  exact ⟨rfl, hB.out⟩
set_option maxRecDepth 100000 in
set_option maxHeartbeats 4000000 in
theorem flashClears_3 (F : Fl) (v : Value) (page at_ : Int) (s t : List UInt8) (w : World) (hv : isFl F v w) (hfew : fewB F = true) (hs : s.length ≤ 400) (ht : t.length ≠ s.length) :
    Calls Try.prog 6 #[v, .int .i64 page, .int .i64 at_, .string ⟨s.toArray⟩, .string ⟨t.toArray⟩] w fun e w' => e = .returned (.bool true) ∧ Below w.heap.size w w' := by
  obtain ⟨vp, vw, rfl, hp, hq⟩ := hv
  have HF := Kept.mk hfew
  clear hfew
  have hsz : (⟨s.toArray⟩ : ByteArray).size = s.length := size_mk s
  have hszt : (⟨t.toArray⟩ : ByteArray).size = t.length := size_mk t
  have c1 : decide (400 < (s.length : Int)) = false := by simp; omega
  have c2 : ((t.length : Int) != (s.length : Int)) = true := by simp [bne]; omega
  obtain ⟨hB, Vf⟩ := var_box w F vp vw hp hq
  clear hp hq
  go_enter Try.func6, Try.ntmps6
  go_wp2_with fail
  ((with_reducible refine (works_any _).mono ?_); rintro e W1 ⟨rfl, hb1⟩)
  replace hB := Kept.mk (hB.out.trans ((hb1).mono hB.out.size))
  replace Vf := Kept.mk (Vf.out.keep (hb1))
  clear hb1
  obtain ⟨vpf, vwf, flf, kf0, kf1, kf2, kf3, kf4⟩ := Vf.out.open_
  go_wp2_with fail
  ((with_reducible refine (few_any F _ _ flf).mono ?_); rintro e W2 ⟨rfl, hb1⟩)
  clear kf0 kf1 kf2 kf3 kf4 flf
  replace hB := Kept.mk (hB.out.trans ((hb1).mono hB.out.size))
  replace Vf := Kept.mk (Vf.out.keep (hb1))
  clear hb1
  rw [HF.out]
  go_wp2
  go_ret
  exact ⟨rfl, hB.out⟩
set_option maxRecDepth 100000 in
set_option maxHeartbeats 4000000 in
theorem flashClears_4 (F : Fl) (v : Value) (page at_ : Int) (s t : List UInt8) (w : World) (hv : isFl F v w) (W : Fl) (hfew : fewB F = true) (hs : s.length ≤ 400) (ht : t.length = s.length) (H1 : Kept (∀ (v : Value) (w : World), isFl F v w → Calls Try.prog 17 #[v, .int .i64 (-1), .string ⟨#[]⟩] w fun e w' => ∃ v', e = .returned (.tuple #[v', .int .i64 1]) ∧ isFlN w.heap.size W v' w' ∧ Below w.heap.size w w')) (H2 : Kept (∀ (v : Value) (w : World), isFl W v w → Calls Try.prog 12 #[v, .int .i64 page, .int .i64 at_, .string ⟨s.toArray⟩] w fun e w' => ∃ v', e = .returned (.tuple #[v', .int .i64 1]) ∧ isFlN w.heap.size W v' w' ∧ Below w.heap.size w w')) (H3 : Kept (∀ (v : Value) (w : World), isFl W v w → Calls Try.prog 12 #[v, .int .i64 page, .int .i64 at_, .string ⟨t.toArray⟩] w fun e w' => ∃ v', e = .returned (.tuple #[v', .int .i64 1]) ∧ isFlN w.heap.size W v' w' ∧ Below w.heap.size w w')) (H4 : Kept (∀ (v : Value) (w : World), isFl W v w → Calls Try.prog 12 #[v, .int .i64 page, .int .i64 at_, .string ⟨t.toArray⟩] w fun e w' => ∃ v', e = .returned (.tuple #[v', .int .i64 1]) ∧ isFlN w.heap.size W v' w' ∧ Below w.heap.size w w')) (H5 : Kept (∀ (v : Value) (w : World), isFl W v w → Calls Try.prog 12 #[v, .int .i64 page, .int .i64 at_, .string ⟨s.toArray⟩] w fun e w' => ∃ v', e = .returned (.tuple #[v', .int .i64 1]) ∧ isFlN w.heap.size W v' w' ∧ Below w.heap.size w w')) (H6 : Kept (∀ (v : Value) (w : World), isFl W v w → Calls Try.prog 12 #[v, .int .i64 page, .int .i64 at_, .string ⟨(pairL (· &&& ·) s t).toArray⟩] w fun e w' => ∃ v', e = .returned (.tuple #[v', .int .i64 1]) ∧ isFlN w.heap.size W v' w' ∧ Below w.heap.size w w')) (H7 : Kept (∀ (v : Value) (w : World), isFl W v w → Calls Try.prog 12 #[v, .int .i64 page, .int .i64 at_, .string ⟨s.toArray⟩] w fun e w' => ∃ v', e = .returned (.tuple #[v', .int .i64 1]) ∧ isFlN w.heap.size W v' w' ∧ Below w.heap.size w w')) :
    Calls Try.prog 6 #[v, .int .i64 page, .int .i64 at_, .string ⟨s.toArray⟩, .string ⟨t.toArray⟩] w fun e w' => e = .returned (.bool true) ∧ Below w.heap.size w w' := by
  obtain ⟨vp, vw, rfl, hp, hq⟩ := hv
  have HF := Kept.mk hfew
  obtain ⟨hn1, hn2⟩ := few_facts hfew
  clear hfew
  have hsz : (⟨s.toArray⟩ : ByteArray).size = s.length := size_mk s
  have hszt : (⟨t.toArray⟩ : ByteArray).size = t.length := size_mk t
  have c1 : decide (400 < (s.length : Int)) = false := by simp; omega
  have ht4 : t.length ≤ 400 := by omega
  have HL := Kept.mk ht
  have c2 : ((t.length : Int) != (s.length : Int)) = false := by simp [bne, ht]
  clear ht
  obtain ⟨hB, Vf⟩ := var_box w F vp vw hp hq
  clear hp hq
  go_enter Try.func6, Try.ntmps6
  go_wp2_with fail
  ((with_reducible refine (works_any _).mono ?_); rintro e W1 ⟨rfl, hb1⟩)
  replace hB := Kept.mk (hB.out.trans ((hb1).mono hB.out.size))
  replace Vf := Kept.mk (Vf.out.keep (hb1))
  clear hb1
  obtain ⟨vpf, vwf, flf, kf0, kf1, kf2, kf3, kf4⟩ := Vf.out.open_
  go_wp2_with fail
  ((with_reducible refine (few_any F _ _ flf).mono ?_); rintro e W2 ⟨rfl, hb1⟩)
  clear kf0 kf1 kf2 kf3 kf4 flf
  replace hB := Kept.mk (hB.out.trans ((hb1).mono hB.out.size))
  replace Vf := Kept.mk (Vf.out.keep (hb1))
  clear hb1
  obtain ⟨vpf, vwf, flf, kf0, kf1, kf2, kf3, kf4⟩ := Vf.out.open_
  rw [HF.out]
  go_wp2_with fail
  ((with_reducible refine (H1.out _ _ flf).mono ?_); rintro e U ⟨v', rfl, hf', hb1⟩)
  obtain ⟨vp', vw', rfl, hp', hq'⟩ := hf'.fl
  have o1 := hp'.one
  have o2 := hq'.one
  obtain ⟨K1, K2, K3, K4⟩ := var_new U W vp' vw' hp' hq'
  clear hp' hq' hf'
  clear kf0 kf1 kf2 kf3 kf4 flf
  replace hB := Kept.mk (hB.out.trans ((hb1).mono hB.out.size))
  replace Vf := Kept.mk (Vf.out.keep (hb1))
  clear hb1
  go_wp2_with (refine wpList_store5 rfl (.tmp 13) (.tmp 50) rfl U.heap.size vp' vw' (.int .i64 W.fuse) (strC W.torn) (.bool W.dead) rfl rfl K1.out K2.out o1 o2 rfl rfl rfl ?_; replace hB := Kept.mk (hB.out.trans ((K3.out).mono hB.out.size)); replace Vf := Kept.mk (Vf.out.keep (K3.out)); have Vw := K4; clear K1 K2 K3 K4 o1 o2; generalize set5 (U.alloc (.cells #[.slice none 0 0, .slice none 0 0, .int .i64 0, .string ⟨#[]⟩, .bool false] 25)) U.heap.size vp' vw' (.int .i64 W.fuse) (strC W.torn) (.bool W.dead) = W3 at *; generalize U.heap.size = gw at *; obtain ⟨vpw, vww, flw, kw0, kw1, kw2, kw3, kw4⟩ := Vw.out.open_)
  ((with_reducible refine (H2.out _ _ flw).mono ?_); rintro e U ⟨v', rfl, hf', hb1⟩)
  obtain ⟨vp', vw', rfl, hp', hq'⟩ := hf'.fl
  have o1 := hp'.one
  have o2 := hq'.one
  obtain ⟨K1, K2, K3, K4⟩ := var_new U W vp' vw' hp' hq'
  clear hp' hq' hf'
  clear kw0 kw1 kw2 kw3 kw4 flw
  replace hB := Kept.mk (hB.out.trans ((hb1).mono hB.out.size))
  replace Vf := Kept.mk (Vf.out.keep (hb1))
  replace Vw := Kept.mk (Vw.out.keep (hb1))
  clear hb1
  go_wp2_with (refine wpList_store5 rfl (.tmp 15) (.tmp 58) rfl U.heap.size vp' vw' (.int .i64 W.fuse) (strC W.torn) (.bool W.dead) rfl rfl K1.out K2.out o1 o2 rfl rfl rfl ?_; replace hB := Kept.mk (hB.out.trans ((K3.out).mono hB.out.size)); replace Vf := Kept.mk (Vf.out.keep (K3.out)); replace Vw := Kept.mk (Vw.out.keep (K3.out)); have Va := K4; clear K1 K2 K3 K4 o1 o2; generalize set5 (U.alloc (.cells #[.slice none 0 0, .slice none 0 0, .int .i64 0, .string ⟨#[]⟩, .bool false] 25)) U.heap.size vp' vw' (.int .i64 W.fuse) (strC W.torn) (.bool W.dead) = W4 at *; generalize U.heap.size = ga at *; obtain ⟨vpa, vwa, fla, ka0, ka1, ka2, ka3, ka4⟩ := Va.out.open_)
  ((with_reducible refine (H3.out _ _ fla).mono ?_); rintro e U ⟨v', rfl, hf', hb1⟩)
  obtain ⟨vp', vw', rfl, hp', hq'⟩ := hf'.fl
  have o1 := hp'.one
  have o2 := hq'.one
  obtain ⟨K1, K2, K3, K4⟩ := var_new U W vp' vw' hp' hq'
  clear hp' hq' hf'
  clear ka0 ka1 ka2 ka3 ka4 fla
  replace hB := Kept.mk (hB.out.trans ((hb1).mono hB.out.size))
  replace Vf := Kept.mk (Vf.out.keep (hb1))
  replace Vw := Kept.mk (Vw.out.keep (hb1))
  replace Va := Kept.mk (Va.out.keep (hb1))
  clear hb1
  go_wp2_with (refine wpList_store5 rfl (.tmp 17) (.tmp 66) rfl U.heap.size vp' vw' (.int .i64 W.fuse) (strC W.torn) (.bool W.dead) rfl rfl K1.out K2.out o1 o2 rfl rfl rfl ?_; replace hB := Kept.mk (hB.out.trans ((K3.out).mono hB.out.size)); replace Vf := Kept.mk (Vf.out.keep (K3.out)); replace Vw := Kept.mk (Vw.out.keep (K3.out)); replace Va := Kept.mk (Va.out.keep (K3.out)); have Vb := K4; clear K1 K2 K3 K4 o1 o2; generalize set5 (U.alloc (.cells #[.slice none 0 0, .slice none 0 0, .int .i64 0, .string ⟨#[]⟩, .bool false] 25)) U.heap.size vp' vw' (.int .i64 W.fuse) (strC W.torn) (.bool W.dead) = W5 at *; generalize U.heap.size = gb at *; obtain ⟨vpw, vww, flw, kw0, kw1, kw2, kw3, kw4⟩ := Vw.out.open_)
  ((with_reducible refine (H4.out _ _ flw).mono ?_); rintro e U ⟨v', rfl, hf', hb1⟩)
  obtain ⟨vp', vw', rfl, hp', hq'⟩ := hf'.fl
  have o1 := hp'.one
  have o2 := hq'.one
  obtain ⟨K1, K2, K3, K4⟩ := var_new U W vp' vw' hp' hq'
  clear hp' hq' hf'
  clear kw0 kw1 kw2 kw3 kw4 flw
  replace hB := Kept.mk (hB.out.trans ((hb1).mono hB.out.size))
  replace Vf := Kept.mk (Vf.out.keep (hb1))
  replace Vw := Kept.mk (Vw.out.keep (hb1))
  replace Va := Kept.mk (Va.out.keep (hb1))
  replace Vb := Kept.mk (Vb.out.keep (hb1))
  clear hb1
  go_wp2_with (refine wpList_store5 rfl (.tmp 19) (.tmp 74) rfl U.heap.size vp' vw' (.int .i64 W.fuse) (strC W.torn) (.bool W.dead) rfl rfl K1.out K2.out o1 o2 rfl rfl rfl ?_; replace hB := Kept.mk (hB.out.trans ((K3.out).mono hB.out.size)); replace Vf := Kept.mk (Vf.out.keep (K3.out)); replace Vw := Kept.mk (Vw.out.keep (K3.out)); replace Va := Kept.mk (Va.out.keep (K3.out)); replace Vb := Kept.mk (Vb.out.keep (K3.out)); have Vc := K4; clear K1 K2 K3 K4 o1 o2; generalize set5 (U.alloc (.cells #[.slice none 0 0, .slice none 0 0, .int .i64 0, .string ⟨#[]⟩, .bool false] 25)) U.heap.size vp' vw' (.int .i64 W.fuse) (strC W.torn) (.bool W.dead) = W6 at *; generalize U.heap.size = gc at *; obtain ⟨vpc, vwc, flc, kc0, kc1, kc2, kc3, kc4⟩ := Vc.out.open_)
  ((with_reducible refine (H5.out _ _ flc).mono ?_); rintro e U ⟨v', rfl, hf', hb1⟩)
  obtain ⟨vp', vw', rfl, hp', hq'⟩ := hf'.fl
  have o1 := hp'.one
  have o2 := hq'.one
  obtain ⟨K1, K2, K3, K4⟩ := var_new U W vp' vw' hp' hq'
  clear hp' hq' hf'
  clear kc0 kc1 kc2 kc3 kc4 flc
  replace hB := Kept.mk (hB.out.trans ((hb1).mono hB.out.size))
  replace Vf := Kept.mk (Vf.out.keep (hb1))
  replace Vw := Kept.mk (Vw.out.keep (hb1))
  replace Va := Kept.mk (Va.out.keep (hb1))
  replace Vb := Kept.mk (Vb.out.keep (hb1))
  replace Vc := Kept.mk (Vc.out.keep (hb1))
  clear hb1
  go_wp2_with (refine wpList_store5 rfl (.tmp 21) (.tmp 82) rfl U.heap.size vp' vw' (.int .i64 W.fuse) (strC W.torn) (.bool W.dead) rfl rfl K1.out K2.out o1 o2 rfl rfl rfl ?_; replace hB := Kept.mk (hB.out.trans ((K3.out).mono hB.out.size)); replace Vf := Kept.mk (Vf.out.keep (K3.out)); replace Vw := Kept.mk (Vw.out.keep (K3.out)); replace Va := Kept.mk (Va.out.keep (K3.out)); replace Vb := Kept.mk (Vb.out.keep (K3.out)); replace Vc := Kept.mk (Vc.out.keep (K3.out)); have Vd := K4; clear K1 K2 K3 K4 o1 o2; generalize set5 (U.alloc (.cells #[.slice none 0 0, .slice none 0 0, .int .i64 0, .string ⟨#[]⟩, .bool false] 25)) U.heap.size vp' vw' (.int .i64 W.fuse) (strC W.torn) (.bool W.dead) = W7 at *; generalize U.heap.size = gd at *; obtain ⟨vpw, vww, flw, kw0, kw1, kw2, kw3, kw4⟩ := Vw.out.open_)
  refine clears_region _ _ _ rfl gw W W vpw vww page at_ 1 s t (by omega) (by omega) rfl rfl rfl rfl rfl ⟨Vw.out.lt, kw0, kw1, kw2, kw3, kw4⟩ (fun w2 hb => (H6.out _ w2 (fl_grow flw hb)).mono (by rintro e w' ⟨v', rfl, hf, hb'⟩; exact ⟨_, rfl, ⟨v', rfl, hf.low hb.size⟩, hb'⟩)) ?_
  intro f9 W9 gx h23 h24 Vx hb9
  replace hB := Kept.mk (hB.out.trans (hb9.out.mono hB.out.size))
  replace Vf := Kept.mk (Vf.out.keep hb9.out)
  replace Vw := Kept.mk (Vw.out.keep hb9.out)
  replace Va := Kept.mk (Va.out.keep hb9.out)
  replace Vb := Kept.mk (Vb.out.keep hb9.out)
  replace Vc := Kept.mk (Vc.out.keep hb9.out)
  replace Vd := Kept.mk (Vd.out.keep hb9.out)
  clear hb9
  simp only [List.foldl_cons, List.foldl_nil, h23, h24]
  generalize f9 85 = y85
  generalize f9 86 = y86
  generalize f9 87 = y87
  generalize f9 88 = y88
  generalize f9 89 = y89
  generalize f9 90 = y90
  generalize f9 91 = y91
  generalize f9 84 = y84
  generalize f9 92 = y92
  generalize f9 93 = y93
  clear h23 h24
  simp only [List.setIfInBounds_toArray, List.set_cons_succ, List.set_cons_zero]
  clear kw0 kw1 kw2 kw3 kw4 flw
  obtain ⟨vpa, vwa, fla, ka0, ka1, ka2, ka3, ka4⟩ := Va.out.open_
  go_wp2_with fail
  ((with_reducible refine (H7.out _ _ fla).mono ?_); rintro e U ⟨v', rfl, hf', hb1⟩)
  obtain ⟨vp', vw', rfl, hp', hq'⟩ := hf'.fl
  have o1 := hp'.one
  have o2 := hq'.one
  obtain ⟨K1, K2, K3, K4⟩ := var_new U W vp' vw' hp' hq'
  clear hp' hq' hf'
  clear ka0 ka1 ka2 ka3 ka4 fla
  replace hB := Kept.mk (hB.out.trans ((hb1).mono hB.out.size))
  replace Vf := Kept.mk (Vf.out.keep (hb1))
  replace Vw := Kept.mk (Vw.out.keep (hb1))
  replace Va := Kept.mk (Va.out.keep (hb1))
  replace Vb := Kept.mk (Vb.out.keep (hb1))
  replace Vc := Kept.mk (Vc.out.keep (hb1))
  replace Vd := Kept.mk (Vd.out.keep (hb1))
  replace Vx := Kept.mk (Vx.out.keep (hb1))
  clear hb1
  go_wp2_with (refine wpList_store5 rfl (.tmp 25) (.tmp 100) rfl U.heap.size vp' vw' (.int .i64 W.fuse) (strC W.torn) (.bool W.dead) rfl rfl K1.out K2.out o1 o2 rfl rfl rfl ?_; replace hB := Kept.mk (hB.out.trans ((K3.out).mono hB.out.size)); replace Vf := Kept.mk (Vf.out.keep (K3.out)); replace Vw := Kept.mk (Vw.out.keep (K3.out)); replace Va := Kept.mk (Va.out.keep (K3.out)); replace Vb := Kept.mk (Vb.out.keep (K3.out)); replace Vc := Kept.mk (Vc.out.keep (K3.out)); replace Vd := Kept.mk (Vd.out.keep (K3.out)); replace Vx := Kept.mk (Vx.out.keep (K3.out)); have Vu := K4; clear K1 K2 K3 K4 o1 o2; generalize set5 (U.alloc (.cells #[.slice none 0 0, .slice none 0 0, .int .i64 0, .string ⟨#[]⟩, .bool false] 25)) U.heap.size vp' vw' (.int .i64 W.fuse) (strC W.torn) (.bool W.dead) = W10 at *; generalize U.heap.size = gu at *)
  go_wp2
  go_ret
  exact ⟨rfl, hB.out⟩
set_option maxRecDepth 100000 in
set_option maxHeartbeats 4000000 in
theorem flashClears_5 (F : Fl) (v : Value) (page at_ : Int) (s t : List UInt8) (w : World) (hv : isFl F v w) (W : Fl) (hfew : fewB F = true) (hs : s.length ≤ 400) (ht : t.length = s.length) (H1 : Kept (∀ (v : Value) (w : World), isFl F v w → Calls Try.prog 17 #[v, .int .i64 (-1), .string ⟨#[]⟩] w fun e w' => ∃ v', e = .returned (.tuple #[v', .int .i64 0]) ∧ isFlN w.heap.size W v' w' ∧ Below w.heap.size w w')) (H2 : Kept (∀ (v : Value) (w : World), isFl W v w → Calls Try.prog 12 #[v, .int .i64 page, .int .i64 at_, .string ⟨s.toArray⟩] w fun e w' => ∃ v', e = .returned (.tuple #[v', .int .i64 1]) ∧ isFlN w.heap.size W v' w' ∧ Below w.heap.size w w')) (H3 : Kept (∀ (v : Value) (w : World), isFl W v w → Calls Try.prog 12 #[v, .int .i64 page, .int .i64 at_, .string ⟨t.toArray⟩] w fun e w' => ∃ v', e = .returned (.tuple #[v', .int .i64 1]) ∧ isFlN w.heap.size W v' w' ∧ Below w.heap.size w w')) (H4 : Kept (∀ (v : Value) (w : World), isFl W v w → Calls Try.prog 12 #[v, .int .i64 page, .int .i64 at_, .string ⟨t.toArray⟩] w fun e w' => ∃ v', e = .returned (.tuple #[v', .int .i64 1]) ∧ isFlN w.heap.size W v' w' ∧ Below w.heap.size w w')) (H5 : Kept (∀ (v : Value) (w : World), isFl W v w → Calls Try.prog 12 #[v, .int .i64 page, .int .i64 at_, .string ⟨s.toArray⟩] w fun e w' => ∃ v', e = .returned (.tuple #[v', .int .i64 1]) ∧ isFlN w.heap.size W v' w' ∧ Below w.heap.size w w')) (H6 : Kept (∀ (v : Value) (w : World), isFl W v w → Calls Try.prog 12 #[v, .int .i64 page, .int .i64 at_, .string ⟨(pairL (· &&& ·) s t).toArray⟩] w fun e w' => ∃ v', e = .returned (.tuple #[v', .int .i64 1]) ∧ isFlN w.heap.size W v' w' ∧ Below w.heap.size w w')) (H7 : Kept (∀ (v : Value) (w : World), isFl W v w → Calls Try.prog 12 #[v, .int .i64 page, .int .i64 at_, .string ⟨s.toArray⟩] w fun e w' => ∃ v', e = .returned (.tuple #[v', .int .i64 1]) ∧ isFlN w.heap.size W v' w' ∧ Below w.heap.size w w')) :
    Calls Try.prog 6 #[v, .int .i64 page, .int .i64 at_, .string ⟨s.toArray⟩, .string ⟨t.toArray⟩] w fun e w' => e = .returned (.bool true) ∧ Below w.heap.size w w' := by
  obtain ⟨vp, vw, rfl, hp, hq⟩ := hv
  have HF := Kept.mk hfew
  obtain ⟨hn1, hn2⟩ := few_facts hfew
  clear hfew
  have hsz : (⟨s.toArray⟩ : ByteArray).size = s.length := size_mk s
  have hszt : (⟨t.toArray⟩ : ByteArray).size = t.length := size_mk t
  have c1 : decide (400 < (s.length : Int)) = false := by simp; omega
  have ht4 : t.length ≤ 400 := by omega
  have HL := Kept.mk ht
  have c2 : ((t.length : Int) != (s.length : Int)) = false := by simp [bne, ht]
  clear ht
  obtain ⟨hB, Vf⟩ := var_box w F vp vw hp hq
  clear hp hq
  go_enter Try.func6, Try.ntmps6
  go_wp2_with fail
  ((with_reducible refine (works_any _).mono ?_); rintro e W1 ⟨rfl, hb1⟩)
  replace hB := Kept.mk (hB.out.trans ((hb1).mono hB.out.size))
  replace Vf := Kept.mk (Vf.out.keep (hb1))
  clear hb1
  obtain ⟨vpf, vwf, flf, kf0, kf1, kf2, kf3, kf4⟩ := Vf.out.open_
  go_wp2_with fail
  ((with_reducible refine (few_any F _ _ flf).mono ?_); rintro e W2 ⟨rfl, hb1⟩)
  clear kf0 kf1 kf2 kf3 kf4 flf
  replace hB := Kept.mk (hB.out.trans ((hb1).mono hB.out.size))
  replace Vf := Kept.mk (Vf.out.keep (hb1))
  clear hb1
  obtain ⟨vpf, vwf, flf, kf0, kf1, kf2, kf3, kf4⟩ := Vf.out.open_
  rw [HF.out]
  go_wp2_with fail
  ((with_reducible refine (H1.out _ _ flf).mono ?_); rintro e U ⟨v', rfl, hf', hb1⟩)
  obtain ⟨vp', vw', rfl, hp', hq'⟩ := hf'.fl
  have o1 := hp'.one
  have o2 := hq'.one
  obtain ⟨K1, K2, K3, K4⟩ := var_new U W vp' vw' hp' hq'
  clear hp' hq' hf'
  clear kf0 kf1 kf2 kf3 kf4 flf
  replace hB := Kept.mk (hB.out.trans ((hb1).mono hB.out.size))
  replace Vf := Kept.mk (Vf.out.keep (hb1))
  clear hb1
  go_wp2_with (refine wpList_store5 rfl (.tmp 13) (.tmp 50) rfl U.heap.size vp' vw' (.int .i64 W.fuse) (strC W.torn) (.bool W.dead) rfl rfl K1.out K2.out o1 o2 rfl rfl rfl ?_; replace hB := Kept.mk (hB.out.trans ((K3.out).mono hB.out.size)); replace Vf := Kept.mk (Vf.out.keep (K3.out)); have Vw := K4; clear K1 K2 K3 K4 o1 o2; generalize set5 (U.alloc (.cells #[.slice none 0 0, .slice none 0 0, .int .i64 0, .string ⟨#[]⟩, .bool false] 25)) U.heap.size vp' vw' (.int .i64 W.fuse) (strC W.torn) (.bool W.dead) = W3 at *; generalize U.heap.size = gw at *; obtain ⟨vpw, vww, flw, kw0, kw1, kw2, kw3, kw4⟩ := Vw.out.open_)
  ((with_reducible refine (H2.out _ _ flw).mono ?_); rintro e U ⟨v', rfl, hf', hb1⟩)
  obtain ⟨vp', vw', rfl, hp', hq'⟩ := hf'.fl
  have o1 := hp'.one
  have o2 := hq'.one
  obtain ⟨K1, K2, K3, K4⟩ := var_new U W vp' vw' hp' hq'
  clear hp' hq' hf'
  clear kw0 kw1 kw2 kw3 kw4 flw
  replace hB := Kept.mk (hB.out.trans ((hb1).mono hB.out.size))
  replace Vf := Kept.mk (Vf.out.keep (hb1))
  replace Vw := Kept.mk (Vw.out.keep (hb1))
  clear hb1
  go_wp2_with (refine wpList_store5 rfl (.tmp 15) (.tmp 58) rfl U.heap.size vp' vw' (.int .i64 W.fuse) (strC W.torn) (.bool W.dead) rfl rfl K1.out K2.out o1 o2 rfl rfl rfl ?_; replace hB := Kept.mk (hB.out.trans ((K3.out).mono hB.out.size)); replace Vf := Kept.mk (Vf.out.keep (K3.out)); replace Vw := Kept.mk (Vw.out.keep (K3.out)); have Va := K4; clear K1 K2 K3 K4 o1 o2; generalize set5 (U.alloc (.cells #[.slice none 0 0, .slice none 0 0, .int .i64 0, .string ⟨#[]⟩, .bool false] 25)) U.heap.size vp' vw' (.int .i64 W.fuse) (strC W.torn) (.bool W.dead) = W4 at *; generalize U.heap.size = ga at *; obtain ⟨vpa, vwa, fla, ka0, ka1, ka2, ka3, ka4⟩ := Va.out.open_)
  ((with_reducible refine (H3.out _ _ fla).mono ?_); rintro e U ⟨v', rfl, hf', hb1⟩)
  obtain ⟨vp', vw', rfl, hp', hq'⟩ := hf'.fl
  have o1 := hp'.one
  have o2 := hq'.one
  obtain ⟨K1, K2, K3, K4⟩ := var_new U W vp' vw' hp' hq'
  clear hp' hq' hf'
  clear ka0 ka1 ka2 ka3 ka4 fla
  replace hB := Kept.mk (hB.out.trans ((hb1).mono hB.out.size))
  replace Vf := Kept.mk (Vf.out.keep (hb1))
  replace Vw := Kept.mk (Vw.out.keep (hb1))
  replace Va := Kept.mk (Va.out.keep (hb1))
  clear hb1
  go_wp2_with (refine wpList_store5 rfl (.tmp 17) (.tmp 66) rfl U.heap.size vp' vw' (.int .i64 W.fuse) (strC W.torn) (.bool W.dead) rfl rfl K1.out K2.out o1 o2 rfl rfl rfl ?_; replace hB := Kept.mk (hB.out.trans ((K3.out).mono hB.out.size)); replace Vf := Kept.mk (Vf.out.keep (K3.out)); replace Vw := Kept.mk (Vw.out.keep (K3.out)); replace Va := Kept.mk (Va.out.keep (K3.out)); have Vb := K4; clear K1 K2 K3 K4 o1 o2; generalize set5 (U.alloc (.cells #[.slice none 0 0, .slice none 0 0, .int .i64 0, .string ⟨#[]⟩, .bool false] 25)) U.heap.size vp' vw' (.int .i64 W.fuse) (strC W.torn) (.bool W.dead) = W5 at *; generalize U.heap.size = gb at *; obtain ⟨vpw, vww, flw, kw0, kw1, kw2, kw3, kw4⟩ := Vw.out.open_)
  ((with_reducible refine (H4.out _ _ flw).mono ?_); rintro e U ⟨v', rfl, hf', hb1⟩)
  obtain ⟨vp', vw', rfl, hp', hq'⟩ := hf'.fl
  have o1 := hp'.one
  have o2 := hq'.one
  obtain ⟨K1, K2, K3, K4⟩ := var_new U W vp' vw' hp' hq'
  clear hp' hq' hf'
  clear kw0 kw1 kw2 kw3 kw4 flw
  replace hB := Kept.mk (hB.out.trans ((hb1).mono hB.out.size))
  replace Vf := Kept.mk (Vf.out.keep (hb1))
  replace Vw := Kept.mk (Vw.out.keep (hb1))
  replace Va := Kept.mk (Va.out.keep (hb1))
  replace Vb := Kept.mk (Vb.out.keep (hb1))
  clear hb1
  go_wp2_with (refine wpList_store5 rfl (.tmp 19) (.tmp 74) rfl U.heap.size vp' vw' (.int .i64 W.fuse) (strC W.torn) (.bool W.dead) rfl rfl K1.out K2.out o1 o2 rfl rfl rfl ?_; replace hB := Kept.mk (hB.out.trans ((K3.out).mono hB.out.size)); replace Vf := Kept.mk (Vf.out.keep (K3.out)); replace Vw := Kept.mk (Vw.out.keep (K3.out)); replace Va := Kept.mk (Va.out.keep (K3.out)); replace Vb := Kept.mk (Vb.out.keep (K3.out)); have Vc := K4; clear K1 K2 K3 K4 o1 o2; generalize set5 (U.alloc (.cells #[.slice none 0 0, .slice none 0 0, .int .i64 0, .string ⟨#[]⟩, .bool false] 25)) U.heap.size vp' vw' (.int .i64 W.fuse) (strC W.torn) (.bool W.dead) = W6 at *; generalize U.heap.size = gc at *; obtain ⟨vpc, vwc, flc, kc0, kc1, kc2, kc3, kc4⟩ := Vc.out.open_)
  ((with_reducible refine (H5.out _ _ flc).mono ?_); rintro e U ⟨v', rfl, hf', hb1⟩)
  obtain ⟨vp', vw', rfl, hp', hq'⟩ := hf'.fl
  have o1 := hp'.one
  have o2 := hq'.one
  obtain ⟨K1, K2, K3, K4⟩ := var_new U W vp' vw' hp' hq'
  clear hp' hq' hf'
  clear kc0 kc1 kc2 kc3 kc4 flc
  replace hB := Kept.mk (hB.out.trans ((hb1).mono hB.out.size))
  replace Vf := Kept.mk (Vf.out.keep (hb1))
  replace Vw := Kept.mk (Vw.out.keep (hb1))
  replace Va := Kept.mk (Va.out.keep (hb1))
  replace Vb := Kept.mk (Vb.out.keep (hb1))
  replace Vc := Kept.mk (Vc.out.keep (hb1))
  clear hb1
  go_wp2_with (refine wpList_store5 rfl (.tmp 21) (.tmp 82) rfl U.heap.size vp' vw' (.int .i64 W.fuse) (strC W.torn) (.bool W.dead) rfl rfl K1.out K2.out o1 o2 rfl rfl rfl ?_; replace hB := Kept.mk (hB.out.trans ((K3.out).mono hB.out.size)); replace Vf := Kept.mk (Vf.out.keep (K3.out)); replace Vw := Kept.mk (Vw.out.keep (K3.out)); replace Va := Kept.mk (Va.out.keep (K3.out)); replace Vb := Kept.mk (Vb.out.keep (K3.out)); replace Vc := Kept.mk (Vc.out.keep (K3.out)); have Vd := K4; clear K1 K2 K3 K4 o1 o2; generalize set5 (U.alloc (.cells #[.slice none 0 0, .slice none 0 0, .int .i64 0, .string ⟨#[]⟩, .bool false] 25)) U.heap.size vp' vw' (.int .i64 W.fuse) (strC W.torn) (.bool W.dead) = W7 at *; generalize U.heap.size = gd at *; obtain ⟨vpw, vww, flw, kw0, kw1, kw2, kw3, kw4⟩ := Vw.out.open_)
  refine clears_region _ _ _ rfl gw W W vpw vww page at_ 1 s t (by omega) (by omega) rfl rfl rfl rfl rfl ⟨Vw.out.lt, kw0, kw1, kw2, kw3, kw4⟩ (fun w2 hb => (H6.out _ w2 (fl_grow flw hb)).mono (by rintro e w' ⟨v', rfl, hf, hb'⟩; exact ⟨_, rfl, ⟨v', rfl, hf.low hb.size⟩, hb'⟩)) ?_
  intro f9 W9 gx h23 h24 Vx hb9
  replace hB := Kept.mk (hB.out.trans (hb9.out.mono hB.out.size))
  replace Vf := Kept.mk (Vf.out.keep hb9.out)
  replace Vw := Kept.mk (Vw.out.keep hb9.out)
  replace Va := Kept.mk (Va.out.keep hb9.out)
  replace Vb := Kept.mk (Vb.out.keep hb9.out)
  replace Vc := Kept.mk (Vc.out.keep hb9.out)
  replace Vd := Kept.mk (Vd.out.keep hb9.out)
  clear hb9
  simp only [List.foldl_cons, List.foldl_nil, h23, h24]
  generalize f9 85 = y85
  generalize f9 86 = y86
  generalize f9 87 = y87
  generalize f9 88 = y88
  generalize f9 89 = y89
  generalize f9 90 = y90
  generalize f9 91 = y91
  generalize f9 84 = y84
  generalize f9 92 = y92
  generalize f9 93 = y93
  clear h23 h24
  simp only [List.setIfInBounds_toArray, List.set_cons_succ, List.set_cons_zero]
  clear kw0 kw1 kw2 kw3 kw4 flw
  obtain ⟨vpa, vwa, fla, ka0, ka1, ka2, ka3, ka4⟩ := Va.out.open_
  go_wp2_with fail
  ((with_reducible refine (H7.out _ _ fla).mono ?_); rintro e U ⟨v', rfl, hf', hb1⟩)
  obtain ⟨vp', vw', rfl, hp', hq'⟩ := hf'.fl
  have o1 := hp'.one
  have o2 := hq'.one
  obtain ⟨K1, K2, K3, K4⟩ := var_new U W vp' vw' hp' hq'
  clear hp' hq' hf'
  clear ka0 ka1 ka2 ka3 ka4 fla
  replace hB := Kept.mk (hB.out.trans ((hb1).mono hB.out.size))
  replace Vf := Kept.mk (Vf.out.keep (hb1))
  replace Vw := Kept.mk (Vw.out.keep (hb1))
  replace Va := Kept.mk (Va.out.keep (hb1))
  replace Vb := Kept.mk (Vb.out.keep (hb1))
  replace Vc := Kept.mk (Vc.out.keep (hb1))
  replace Vd := Kept.mk (Vd.out.keep (hb1))
  replace Vx := Kept.mk (Vx.out.keep (hb1))
  clear hb1
  go_wp2_with (refine wpList_store5 rfl (.tmp 25) (.tmp 100) rfl U.heap.size vp' vw' (.int .i64 W.fuse) (strC W.torn) (.bool W.dead) rfl rfl K1.out K2.out o1 o2 rfl rfl rfl ?_; replace hB := Kept.mk (hB.out.trans ((K3.out).mono hB.out.size)); replace Vf := Kept.mk (Vf.out.keep (K3.out)); replace Vw := Kept.mk (Vw.out.keep (K3.out)); replace Va := Kept.mk (Va.out.keep (K3.out)); replace Vb := Kept.mk (Vb.out.keep (K3.out)); replace Vc := Kept.mk (Vc.out.keep (K3.out)); replace Vd := Kept.mk (Vd.out.keep (K3.out)); replace Vx := Kept.mk (Vx.out.keep (K3.out)); have Vu := K4; clear K1 K2 K3 K4 o1 o2; generalize set5 (U.alloc (.cells #[.slice none 0 0, .slice none 0 0, .int .i64 0, .string ⟨#[]⟩, .bool false] 25)) U.heap.size vp' vw' (.int .i64 W.fuse) (strC W.torn) (.bool W.dead) = W10 at *; generalize U.heap.size = gu at *)
  go_wp2
  go_ret
  exact ⟨rfl, hB.out⟩
set_option maxRecDepth 100000 in
set_option maxHeartbeats 4000000 in
theorem flashClears_6 (F : Fl) (v : Value) (at_ : Int) (s t : List UInt8) (w : World) (hv : isFl F v w) (D : Fl) (k nn mm : Nat) (p A Z C : List UInt8) (hfew : fewB F = true) (hs : s.length ≤ 400) (ht : t.length = s.length) (hnn : D.pages.length = nn) (hmm : D.wear.length = mm) (hkn : k < nn) (hnn0 : 0 < nn) (hmm0 : 0 < mm) (hA : A.length ≤ 100000) (hp_ : p.length ≤ 100000) (hand : (pairL (· &&& ·) A p == A) = true) (HSAME : Kept (∀ (u v : Value) (w : World) (x : List UInt8), isFl (setP D k x) u w → isFl (setP D k x) v w → Calls Try.prog 25 #[u, v] w fun e w' => ∃ y, e = .returned y ∧ isVal (.bool true) y w' ∧ Below w.heap.size w w'))
    (H1 : Kept (∀ (v : Value) (w : World), isFl F v w → Calls Try.prog 17 #[v, .int .i64 (-1), .string ⟨#[]⟩] w fun e w' => ∃ v', e = .returned (.tuple #[v', .int .i64 0]) ∧ isFlN w.heap.size (setP D k p) v' w' ∧ Below w.heap.size w w')) (H2 : Kept (∀ (v : Value) (w : World), isFl (setP D k p) v w → Calls Try.prog 12 #[v, .int .i64 (k : Int), .int .i64 at_, .string ⟨s.toArray⟩] w fun e w' => ∃ v', e = .returned (.tuple #[v', .int .i64 0]) ∧ isFlN w.heap.size (setP D k A) v' w' ∧ Below w.heap.size w w')) (H3 : Kept (∀ (v : Value) (w : World), isFl (setP D k A) v w → Calls Try.prog 12 #[v, .int .i64 (k : Int), .int .i64 at_, .string ⟨t.toArray⟩] w fun e w' => ∃ v', e = .returned (.tuple #[v', .int .i64 0]) ∧ isFlN w.heap.size (setP D k Z) v' w' ∧ Below w.heap.size w w')) (H4 : Kept (∀ (v : Value) (w : World), isFl (setP D k p) v w → Calls Try.prog 12 #[v, .int .i64 (k : Int), .int .i64 at_, .string ⟨t.toArray⟩] w fun e w' => ∃ v', e = .returned (.tuple #[v', .int .i64 0]) ∧ isFlN w.heap.size (setP D k C) v' w' ∧ Below w.heap.size w w')) (H5 : Kept (∀ (v : Value) (w : World), isFl (setP D k C) v w → Calls Try.prog 12 #[v, .int .i64 (k : Int), .int .i64 at_, .string ⟨s.toArray⟩] w fun e w' => ∃ v', e = .returned (.tuple #[v', .int .i64 0]) ∧ isFlN w.heap.size (setP D k Z) v' w' ∧ Below w.heap.size w w')) (H6 : Kept (∀ (v : Value) (w : World), isFl (setP D k p) v w → Calls Try.prog 12 #[v, .int .i64 (k : Int), .int .i64 at_, .string ⟨(pairL (· &&& ·) s t).toArray⟩] w fun e w' => ∃ v', e = .returned (.tuple #[v', .int .i64 0]) ∧ isFlN w.heap.size (setP D k Z) v' w' ∧ Below w.heap.size w w')) (H7 : Kept (∀ (v : Value) (w : World), isFl (setP D k A) v w → Calls Try.prog 12 #[v, .int .i64 (k : Int), .int .i64 at_, .string ⟨s.toArray⟩] w fun e w' => ∃ v', e = .returned (.tuple #[v', .int .i64 0]) ∧ isFlN w.heap.size (setP D k A) v' w' ∧ Below w.heap.size w w')) :
    Calls Try.prog 6 #[v, .int .i64 (k : Int), .int .i64 at_, .string ⟨s.toArray⟩, .string ⟨t.toArray⟩] w fun e w' => e = .returned (.bool true) ∧ Below w.heap.size w w' := by
  have HN := Kept.mk hnn
  have HM := Kept.mk hmm
  have HKD := Kept.mk (show k < D.pages.length by omega)
  have HAND := Kept.mk hand
  clear hnn hmm hand
  obtain ⟨vp, vw, rfl, hp, hq⟩ := hv
  have HF := Kept.mk hfew
  obtain ⟨hn1, hn2⟩ := few_facts hfew
  clear hfew
  have hsz : (⟨s.toArray⟩ : ByteArray).size = s.length := size_mk s
  have hszt : (⟨t.toArray⟩ : ByteArray).size = t.length := size_mk t
  have c1 : decide (400 < (s.length : Int)) = false := by simp; omega
  have ht4 : t.length ≤ 400 := by omega
  have HL := Kept.mk ht
  have c2 : ((t.length : Int) != (s.length : Int)) = false := by simp [bne, ht]
  clear ht
  obtain ⟨hB, Vf⟩ := var_box w F vp vw hp hq
  clear hp hq
  go_enter Try.func6, Try.ntmps6
  go_wp2_with fail
  ((with_reducible refine (works_any _).mono ?_); rintro e W1 ⟨rfl, hb1⟩)
  replace hB := Kept.mk (hB.out.trans ((hb1).mono hB.out.size))
  replace Vf := Kept.mk (Vf.out.keep (hb1))
  clear hb1
  obtain ⟨vpf, vwf, flf, kf0, kf1, kf2, kf3, kf4⟩ := Vf.out.open_
  go_wp2_with fail
  ((with_reducible refine (few_any F _ _ flf).mono ?_); rintro e W2 ⟨rfl, hb1⟩)
  clear kf0 kf1 kf2 kf3 kf4 flf
  replace hB := Kept.mk (hB.out.trans ((hb1).mono hB.out.size))
  replace Vf := Kept.mk (Vf.out.keep (hb1))
  clear hb1
  obtain ⟨vpf, vwf, flf, kf0, kf1, kf2, kf3, kf4⟩ := Vf.out.open_
  rw [HF.out]
  go_wp2_with fail
  ((with_reducible refine (H1.out _ _ flf).mono ?_); rintro e U ⟨v', rfl, hf', hb1⟩)
  obtain ⟨vp', vw', rfl, hp', hq'⟩ := hf'.fl
  have o1 := hp'.one
  have o2 := hq'.one
  obtain ⟨K1, K2, K3, K4⟩ := var_new U (setP D k p) vp' vw' hp' hq'
  clear hp' hq' hf'
  clear kf0 kf1 kf2 kf3 kf4 flf
  replace hB := Kept.mk (hB.out.trans ((hb1).mono hB.out.size))
  replace Vf := Kept.mk (Vf.out.keep (hb1))
  clear hb1
  go_wp2_with (refine wpList_store5 rfl (.tmp 13) (.tmp 50) rfl U.heap.size vp' vw' (.int .i64 (setP D k p).fuse) (strC (setP D k p).torn) (.bool (setP D k p).dead) rfl rfl K1.out K2.out o1 o2 rfl rfl rfl ?_; replace hB := Kept.mk (hB.out.trans ((K3.out).mono hB.out.size)); replace Vf := Kept.mk (Vf.out.keep (K3.out)); have Vw := K4; clear K1 K2 K3 K4 o1 o2; generalize set5 (U.alloc (.cells #[.slice none 0 0, .slice none 0 0, .int .i64 0, .string ⟨#[]⟩, .bool false] 25)) U.heap.size vp' vw' (.int .i64 (setP D k p).fuse) (strC (setP D k p).torn) (.bool (setP D k p).dead) = W3 at *; generalize U.heap.size = gw at *; obtain ⟨vpw, vww, flw, kw0, kw1, kw2, kw3, kw4⟩ := Vw.out.open_)
  ((with_reducible refine (H2.out _ _ flw).mono ?_); rintro e U ⟨v', rfl, hf', hb1⟩)
  obtain ⟨vp', vw', rfl, hp', hq'⟩ := hf'.fl
  have o1 := hp'.one
  have o2 := hq'.one
  obtain ⟨K1, K2, K3, K4⟩ := var_new U (setP D k A) vp' vw' hp' hq'
  clear hp' hq' hf'
  clear kw0 kw1 kw2 kw3 kw4 flw
  replace hB := Kept.mk (hB.out.trans ((hb1).mono hB.out.size))
  replace Vf := Kept.mk (Vf.out.keep (hb1))
  replace Vw := Kept.mk (Vw.out.keep (hb1))
  clear hb1
  go_wp2_with (refine wpList_store5 rfl (.tmp 15) (.tmp 58) rfl U.heap.size vp' vw' (.int .i64 (setP D k A).fuse) (strC (setP D k A).torn) (.bool (setP D k A).dead) rfl rfl K1.out K2.out o1 o2 rfl rfl rfl ?_; replace hB := Kept.mk (hB.out.trans ((K3.out).mono hB.out.size)); replace Vf := Kept.mk (Vf.out.keep (K3.out)); replace Vw := Kept.mk (Vw.out.keep (K3.out)); have Va := K4; clear K1 K2 K3 K4 o1 o2; generalize set5 (U.alloc (.cells #[.slice none 0 0, .slice none 0 0, .int .i64 0, .string ⟨#[]⟩, .bool false] 25)) U.heap.size vp' vw' (.int .i64 (setP D k A).fuse) (strC (setP D k A).torn) (.bool (setP D k A).dead) = W4 at *; generalize U.heap.size = ga at *; obtain ⟨vpa, vwa, fla, ka0, ka1, ka2, ka3, ka4⟩ := Va.out.open_)
  ((with_reducible refine (H3.out _ _ fla).mono ?_); rintro e U ⟨v', rfl, hf', hb1⟩)
  obtain ⟨vp', vw', rfl, hp', hq'⟩ := hf'.fl
  have o1 := hp'.one
  have o2 := hq'.one
  obtain ⟨K1, K2, K3, K4⟩ := var_new U (setP D k Z) vp' vw' hp' hq'
  clear hp' hq' hf'
  clear ka0 ka1 ka2 ka3 ka4 fla
  replace hB := Kept.mk (hB.out.trans ((hb1).mono hB.out.size))
  replace Vf := Kept.mk (Vf.out.keep (hb1))
  replace Vw := Kept.mk (Vw.out.keep (hb1))
  replace Va := Kept.mk (Va.out.keep (hb1))
  clear hb1
  go_wp2_with (refine wpList_store5 rfl (.tmp 17) (.tmp 66) rfl U.heap.size vp' vw' (.int .i64 (setP D k Z).fuse) (strC (setP D k Z).torn) (.bool (setP D k Z).dead) rfl rfl K1.out K2.out o1 o2 rfl rfl rfl ?_; replace hB := Kept.mk (hB.out.trans ((K3.out).mono hB.out.size)); replace Vf := Kept.mk (Vf.out.keep (K3.out)); replace Vw := Kept.mk (Vw.out.keep (K3.out)); replace Va := Kept.mk (Va.out.keep (K3.out)); have Vb := K4; clear K1 K2 K3 K4 o1 o2; generalize set5 (U.alloc (.cells #[.slice none 0 0, .slice none 0 0, .int .i64 0, .string ⟨#[]⟩, .bool false] 25)) U.heap.size vp' vw' (.int .i64 (setP D k Z).fuse) (strC (setP D k Z).torn) (.bool (setP D k Z).dead) = W5 at *; generalize U.heap.size = gb at *; obtain ⟨vpw, vww, flw, kw0, kw1, kw2, kw3, kw4⟩ := Vw.out.open_)
  ((with_reducible refine (H4.out _ _ flw).mono ?_); rintro e U ⟨v', rfl, hf', hb1⟩)
  obtain ⟨vp', vw', rfl, hp', hq'⟩ := hf'.fl
  have o1 := hp'.one
  have o2 := hq'.one
  obtain ⟨K1, K2, K3, K4⟩ := var_new U (setP D k C) vp' vw' hp' hq'
  clear hp' hq' hf'
  clear kw0 kw1 kw2 kw3 kw4 flw
  replace hB := Kept.mk (hB.out.trans ((hb1).mono hB.out.size))
  replace Vf := Kept.mk (Vf.out.keep (hb1))
  replace Vw := Kept.mk (Vw.out.keep (hb1))
  replace Va := Kept.mk (Va.out.keep (hb1))
  replace Vb := Kept.mk (Vb.out.keep (hb1))
  clear hb1
  go_wp2_with (refine wpList_store5 rfl (.tmp 19) (.tmp 74) rfl U.heap.size vp' vw' (.int .i64 (setP D k C).fuse) (strC (setP D k C).torn) (.bool (setP D k C).dead) rfl rfl K1.out K2.out o1 o2 rfl rfl rfl ?_; replace hB := Kept.mk (hB.out.trans ((K3.out).mono hB.out.size)); replace Vf := Kept.mk (Vf.out.keep (K3.out)); replace Vw := Kept.mk (Vw.out.keep (K3.out)); replace Va := Kept.mk (Va.out.keep (K3.out)); replace Vb := Kept.mk (Vb.out.keep (K3.out)); have Vc := K4; clear K1 K2 K3 K4 o1 o2; generalize set5 (U.alloc (.cells #[.slice none 0 0, .slice none 0 0, .int .i64 0, .string ⟨#[]⟩, .bool false] 25)) U.heap.size vp' vw' (.int .i64 (setP D k C).fuse) (strC (setP D k C).torn) (.bool (setP D k C).dead) = W6 at *; generalize U.heap.size = gc at *; obtain ⟨vpc, vwc, flc, kc0, kc1, kc2, kc3, kc4⟩ := Vc.out.open_)
  ((with_reducible refine (H5.out _ _ flc).mono ?_); rintro e U ⟨v', rfl, hf', hb1⟩)
  obtain ⟨vp', vw', rfl, hp', hq'⟩ := hf'.fl
  have o1 := hp'.one
  have o2 := hq'.one
  obtain ⟨K1, K2, K3, K4⟩ := var_new U (setP D k Z) vp' vw' hp' hq'
  clear hp' hq' hf'
  clear kc0 kc1 kc2 kc3 kc4 flc
  replace hB := Kept.mk (hB.out.trans ((hb1).mono hB.out.size))
  replace Vf := Kept.mk (Vf.out.keep (hb1))
  replace Vw := Kept.mk (Vw.out.keep (hb1))
  replace Va := Kept.mk (Va.out.keep (hb1))
  replace Vb := Kept.mk (Vb.out.keep (hb1))
  replace Vc := Kept.mk (Vc.out.keep (hb1))
  clear hb1
  go_wp2_with (refine wpList_store5 rfl (.tmp 21) (.tmp 82) rfl U.heap.size vp' vw' (.int .i64 (setP D k Z).fuse) (strC (setP D k Z).torn) (.bool (setP D k Z).dead) rfl rfl K1.out K2.out o1 o2 rfl rfl rfl ?_; replace hB := Kept.mk (hB.out.trans ((K3.out).mono hB.out.size)); replace Vf := Kept.mk (Vf.out.keep (K3.out)); replace Vw := Kept.mk (Vw.out.keep (K3.out)); replace Va := Kept.mk (Va.out.keep (K3.out)); replace Vb := Kept.mk (Vb.out.keep (K3.out)); replace Vc := Kept.mk (Vc.out.keep (K3.out)); have Vd := K4; clear K1 K2 K3 K4 o1 o2; generalize set5 (U.alloc (.cells #[.slice none 0 0, .slice none 0 0, .int .i64 0, .string ⟨#[]⟩, .bool false] 25)) U.heap.size vp' vw' (.int .i64 (setP D k Z).fuse) (strC (setP D k Z).torn) (.bool (setP D k Z).dead) = W7 at *; generalize U.heap.size = gd at *; obtain ⟨vpw, vww, flw, kw0, kw1, kw2, kw3, kw4⟩ := Vw.out.open_)
  refine clears_region _ _ _ rfl gw (setP D k p) (setP D k Z) vpw vww (k : Int) at_ 0 s t (by omega) (by omega) rfl rfl rfl rfl rfl ⟨Vw.out.lt, kw0, kw1, kw2, kw3, kw4⟩ (fun w2 hb => (H6.out _ w2 (fl_grow flw hb)).mono (by rintro e w' ⟨v', rfl, hf, hb'⟩; exact ⟨_, rfl, ⟨v', rfl, hf.low hb.size⟩, hb'⟩)) ?_
  intro f9 W9 gx h23 h24 Vx hb9
  replace hB := Kept.mk (hB.out.trans (hb9.out.mono hB.out.size))
  replace Vf := Kept.mk (Vf.out.keep hb9.out)
  replace Vw := Kept.mk (Vw.out.keep hb9.out)
  replace Va := Kept.mk (Va.out.keep hb9.out)
  replace Vb := Kept.mk (Vb.out.keep hb9.out)
  replace Vc := Kept.mk (Vc.out.keep hb9.out)
  replace Vd := Kept.mk (Vd.out.keep hb9.out)
  clear hb9
  simp only [List.foldl_cons, List.foldl_nil, h23, h24]
  generalize f9 85 = y85
  generalize f9 86 = y86
  generalize f9 87 = y87
  generalize f9 88 = y88
  generalize f9 89 = y89
  generalize f9 90 = y90
  generalize f9 91 = y91
  generalize f9 84 = y84
  generalize f9 92 = y92
  generalize f9 93 = y93
  clear h23 h24
  simp only [List.setIfInBounds_toArray, List.set_cons_succ, List.set_cons_zero]
  clear kw0 kw1 kw2 kw3 kw4 flw
  obtain ⟨vpa, vwa, fla, ka0, ka1, ka2, ka3, ka4⟩ := Va.out.open_
  go_wp2_with fail
  ((with_reducible refine (H7.out _ _ fla).mono ?_); rintro e U ⟨v', rfl, hf', hb1⟩)
  obtain ⟨vp', vw', rfl, hp', hq'⟩ := hf'.fl
  have o1 := hp'.one
  have o2 := hq'.one
  obtain ⟨K1, K2, K3, K4⟩ := var_new U (setP D k A) vp' vw' hp' hq'
  clear hp' hq' hf'
  clear ka0 ka1 ka2 ka3 ka4 fla
  replace hB := Kept.mk (hB.out.trans ((hb1).mono hB.out.size))
  replace Vf := Kept.mk (Vf.out.keep (hb1))
  replace Vw := Kept.mk (Vw.out.keep (hb1))
  replace Va := Kept.mk (Va.out.keep (hb1))
  replace Vb := Kept.mk (Vb.out.keep (hb1))
  replace Vc := Kept.mk (Vc.out.keep (hb1))
  replace Vd := Kept.mk (Vd.out.keep (hb1))
  replace Vx := Kept.mk (Vx.out.keep (hb1))
  clear hb1
  go_wp2_with (refine wpList_store5 rfl (.tmp 25) (.tmp 100) rfl U.heap.size vp' vw' (.int .i64 (setP D k A).fuse) (strC (setP D k A).torn) (.bool (setP D k A).dead) rfl rfl K1.out K2.out o1 o2 rfl rfl rfl ?_; replace hB := Kept.mk (hB.out.trans ((K3.out).mono hB.out.size)); replace Vf := Kept.mk (Vf.out.keep (K3.out)); replace Vw := Kept.mk (Vw.out.keep (K3.out)); replace Va := Kept.mk (Va.out.keep (K3.out)); replace Vb := Kept.mk (Vb.out.keep (K3.out)); replace Vc := Kept.mk (Vc.out.keep (K3.out)); replace Vd := Kept.mk (Vd.out.keep (K3.out)); replace Vx := Kept.mk (Vx.out.keep (K3.out)); have Vu := K4; clear K1 K2 K3 K4 o1 o2; generalize set5 (U.alloc (.cells #[.slice none 0 0, .slice none 0 0, .int .i64 0, .string ⟨#[]⟩, .bool false] 25)) U.heap.size vp' vw' (.int .i64 (setP D k A).fuse) (strC (setP D k A).torn) (.bool (setP D k A).dead) = W10 at *; generalize U.heap.size = gu at *)
  obtain ⟨ba, oa, ca, da, qa, sa, Ca, La, lba, lda, Pa, Ra⟩ := Va.out.rows (n := nn) (m := mm) (by simp [setP, HN.out]) (by simp [setP, HM.out]) hnn0 hmm0
  obtain ⟨bb, ob, cb, db, qb, sb, Cb, Lb, lbb, ldb, Pb, Rb⟩ := Vb.out.rows (n := nn) (m := mm) (by simp [setP, HN.out]) (by simp [setP, HM.out]) hnn0 hmm0
  obtain ⟨bd, od, cd, dd, qd, sd, Cd, Ld, lbd, ldd, Pd, Rd⟩ := Vd.out.rows (n := nn) (m := mm) (by simp [setP, HN.out]) (by simp [setP, HM.out]) hnn0 hmm0
  obtain ⟨bx, ox, cx, dx, qx, sx, Cx, Lx, lbx, ldx, Px, Rx⟩ := Vx.out.rows (n := nn) (m := mm) (by simp [setP, HN.out]) (by simp [setP, HM.out]) hnn0 hmm0
  obtain ⟨bu, ou, cu, du, qu, su, Cu, Lu, lbu, ldu, Pu, Ru⟩ := Vu.out.rows (n := nn) (m := mm) (by simp [setP, HN.out]) (by simp [setP, HM.out]) hnn0 hmm0
  obtain ⟨bw, ow, cw, dw, qw, sw, Cw, Lw, lbw, ldw, Pw, Rw⟩ := Vw.out.rows (n := nn) (m := mm) (by simp [setP, HN.out]) (by simp [setP, HM.out]) hnn0 hmm0
  have Pa1 := Pa k A (by simp [setP, HKD.out])
  have Pw1 := Pw k p (by simp [setP, HKD.out])
  refine clears_end _ _ _ rfl D A Z p nn mm k hkn (by omega) (by omega) HAND.out HSAME.out _ _ _ _ _ _ _ _ _ _ _ _ _ _ _ _ _ _ _ _ _ _ _ _ _ _ _ _ _ _ _ _ _ _ _ _ _ _ _ _ _ _ rfl rfl rfl rfl rfl rfl rfl rfl rfl rfl rfl rfl rfl Ca La Cb Lb Cd Ld Cx Lx Cu Lu Cw Lw Pa1 lba Pw1 lbw ?_
  intro a5 w5 hd h0 hb5
  have hB2 := hB.out.trans (hb5.mono hB.out.size)
  go_wp2
  refine bodyPost_ret (results_tmp rfl a5.tmps Try.prog w5) hd ⟨?_, hB2⟩
  rw [h0]

theorem flashClears_walk (F0 : Fl) (v0 : Value) (a1 a2 : Int) (a3 a4 : ByteArray) (c0 : Came F0) (w1 : (Lit.int .i64 a1).wf = true) (w2 : (Lit.int .i64 a2).wf = true) (w3 : a3.size ≤ maxLen) (w4 : a4.size ≤ maxLen) (w : World) (hv : isFl F0 v0 w) :
    Calls Try.prog 6 #[v0, .int .i64 a1, .int .i64 a2, .string a3, .string a4] w fun e w' => e = .returned (.bool true) ∧ Below w.heap.size w w' := by
  rw [str_eta a3, str_eta a4]
  generalize a3.data.toList = s
  generalize a4.data.toList = t
  cases hfew : fewB F0 with
  | false => exact flashClears_1 F0 v0 a1 a2 s t w hv hfew
  | true =>
  by_cases hs : 400 < s.length
  · exact flashClears_2 F0 v0 a1 a2 s t w hv hfew hs
  by_cases ht : t.length = s.length
  case neg => exact flashClears_3 F0 v0 a1 a2 s t w hv hfew (by omega) ht
  obtain ⟨hn1, hn2⟩ := few_facts hfew
  have hl : (pairL (· &&& ·) s t).length = s.length := pairL_len _ _ _
  cases hmay : mayB F0 with
  | false =>
    have hE : wakeE F0 [] = 1 := by unfold wakeE wakeB; rw [hmay]; rfl
    have hG : wakeF F0 (-1) [] = F0 := by unfold wakeF wakeB; rw [hmay]; rfl
    have hpr : ∀ x : List UInt8, x.length ≤ 400 → ∀ (v : Value) (w : World), isFl F0 v w → Calls Try.prog 12 #[v, .int .i64 a1, .int .i64 a2, .string ⟨x.toArray⟩] w fun e w' => ∃ v', e = .returned (.tuple #[v', .int .i64 1]) ∧ isFlN w.heap.size F0 v' w' ∧ Below w.heap.size w w' := by
      intro x hx v w hv
      have h := program_any F0 a1 a2 x v w hv (by omega) (by omega) (by omega) (wf_i64 c0.fuse).2
      obtain ⟨h1, h2⟩ := prog_no (s := x) (at_ := a2) (.inl (has_not (F := F0) a1 hmay))
      rwa [h1, h2] at h
    refine flashClears_4 F0 v0 a1 a2 s t w hv F0 hfew (by omega) ht ⟨?_⟩ ⟨hpr s (by omega)⟩ ⟨hpr t (by omega)⟩ ⟨hpr t (by omega)⟩ ⟨hpr s (by omega)⟩ ⟨hpr _ (by omega)⟩ ⟨hpr s (by omega)⟩
    intro v w hv
    have h := wake_any F0 (-1) [] v w hv (by omega) (by omega)
    rwa [hE, hG] at h
  | true =>
  have hE : wakeE F0 [] = 0 := by unfold wakeE wakeB; rw [hmay]; rfl
  have hG : wakeF F0 (-1) [] = { F0 with fuse := -1, torn := [], dead := false } := by unfold wakeF wakeB; rw [hmay]; rfl
  obtain ⟨D, hD⟩ : ∃ D : Fl, D = { F0 with fuse := -1, torn := [], dead := false } := ⟨_, rfl⟩
  rw [← hD] at hG
  have hmD : mayB D = true := by rw [hD]; exact wake_may (by decide) hmay
  have dp : D.pages = F0.pages := by rw [hD]
  have dw : D.wear = F0.wear := by rw [hD]
  have df : D.fuse = -1 := by rw [hD]
  have dd : D.dead = false := by rw [hD]
  have hwk : ∀ (v : Value) (w : World), isFl F0 v w → Calls Try.prog 17 #[v, .int .i64 (-1), .string ⟨#[]⟩] w fun e w' => ∃ v', e = .returned (.tuple #[v', .int .i64 0]) ∧ isFlN w.heap.size D v' w' ∧ Below w.heap.size w w' := by
    intro v w hv
    have h := wake_any F0 (-1) [] v w hv (by omega) (by omega)
    rwa [hE, hG] at h
  clear hD hG hE
  cases hhf : (hasB D a1 && fitsB D a1 a2 s) with
  | false =>
    have hno : ∀ x : List UInt8, x.length = s.length → hasB D a1 = false ∨ fitsB D a1 a2 x = false := by
      intro x hx
      rw [fits_len hx]
      cases hh : hasB D a1 with
      | false => exact .inl rfl
      | true => rw [hh] at hhf; exact .inr hhf
    have hpr : ∀ x : List UInt8, x.length = s.length → ∀ (v : Value) (w : World), isFl D v w → Calls Try.prog 12 #[v, .int .i64 a1, .int .i64 a2, .string ⟨x.toArray⟩] w fun e w' => ∃ v', e = .returned (.tuple #[v', .int .i64 1]) ∧ isFlN w.heap.size D v' w' ∧ Below w.heap.size w w' := by
      intro x hx v w hv
      have h := program_any D a1 a2 x v w hv (by omega) (by rw [dp]; omega) (by rw [dw]; omega) (by rw [df]; decide)
      obtain ⟨h1, h2⟩ := prog_no (hno x hx)
      rwa [h1, h2] at h
    exact flashClears_5 F0 v0 a1 a2 s t w hv D hfew (by omega) ht ⟨hwk⟩ ⟨hpr s rfl⟩ ⟨hpr t ht⟩ ⟨hpr t ht⟩ ⟨hpr s rfl⟩ ⟨hpr _ hl⟩ ⟨hpr s rfl⟩
  | true =>
    rw [Bool.and_eq_true] at hhf
    obtain ⟨hh, hfi⟩ := hhf
    obtain ⟨k, rfl⟩ := has_nat hh
    unfold fitsB at hfi
    simp only [Bool.and_eq_true, decide_eq_true_eq, Int.toNat_natCast] at hfi
    obtain ⟨n, rfl⟩ := Int.eq_ofNat_of_zero_le hfi.1
    have hfa := has_facts D k hh
    obtain ⟨p, hp⟩ : ∃ p, p = D.pages.getD k [] := ⟨_, rfl⟩
    rw [← hp] at hfi
    have hns : n + s.length ≤ p.length := by omega
    have hpm : D.pages.getD k [] = D.pages[k]'hfa.1 := by simp [List.getD_eq_getElem?_getD, hfa.1]
    have hp8 : p.length ≤ 8192 := by rw [hp, hpm]; exact (hfa.2.2.2.2.1 _ (List.getElem_mem hfa.1)).2.1
    have hpr : ∀ x y : List UInt8, x.length = p.length → y.length = s.length → ∀ z : List UInt8, progL x n y = z → ∀ (v : Value) (w : World), isFl (setP D k x) v w → Calls Try.prog 12 #[v, .int .i64 (k : Int), .int .i64 (n : Int), .string ⟨y.toArray⟩] w fun e w' => ∃ v', e = .returned (.tuple #[v', .int .i64 0]) ∧ isFlN w.heap.size (setP D k z) v' w' ∧ Below w.heap.size w w' := by
      intro x y hx hy z hz v w hv
      have h := program_any (setP D k x) k n y v w hv (by omega) (by simp only [setP, List.length_set, dp]; omega) (by simp only [setP, dw]; omega) (by simp only [setP, df]; decide)
      obtain ⟨h1, h2⟩ := prog_setP (D := D) (k := k) (n := n) (x := x) (s := y) hh (by rw [hx, hp]) (by rw [← hp]; omega) dd df
      rwa [h1, h2, hz] at h
    have hself : setP D k p = D := by rw [hp]; exact setP_self D k hfa.1
    have eZ : progL (progL p n s) n t = progL p n (pairL (· &&& ·) s t) := prog_both p s t n (by omega) ht.symm
    have eZ2 : progL (progL p n t) n s = progL p n (pairL (· &&& ·) s t) := by rw [prog_both p t s n (by omega) ht, pairL_comm _ (fun x y => UInt8.and_comm x y) t s ht]
    have eA : progL (progL p n s) n s = progL p n s := by rw [prog_both p s s n (by omega) rfl, pairL_self _ (fun x => UInt8.and_self)]
    refine flashClears_6 F0 v0 n s t w hv D k D.pages.length D.wear.length p (progL p n s) (progL p n (pairL (· &&& ·) s t)) (progL p n t) hfew (by omega) ht rfl rfl hfa.1 (by omega) (by omega) (by rw [length_progL]; omega) (by omega)
      (by rw [prog_under p s n (by omega)]; simp) ⟨?_⟩ ⟨by rw [hself]; exact hwk⟩ ⟨hpr p s rfl rfl _ rfl⟩ ⟨hpr _ t (length_progL _ _ _) ht _ eZ⟩ ⟨hpr p t rfl ht _ rfl⟩ ⟨hpr _ s (length_progL _ _ _) rfl _ eZ2⟩ ⟨hpr p _ rfl hl _ rfl⟩ ⟨hpr _ s (length_progL _ _ _) rfl _ eA⟩
    intro u v w x hu hv
    refine (same_any (setP D k x) (setP D k x) u v w hu hv (by simp only [setP, List.length_set, dp]; omega) (by simp only [setP, dw]; omega) (by simp only [setP, List.length_set, dp]; omega) (by simp only [setP, dw]; omega)).mono ?_
    rintro e w' ⟨rfl, hb⟩
    exact ⟨_, rfl, by rw [sameB_self]; rfl, hb⟩

set_option maxRecDepth 100000 in
theorem flashClears_lifted (os : Os) (started : os.Started) (H : Type) (enc : TypeId × Value → H) :
    ReturnsInHanded {} Try.checked os 6 .any (Rows.flashClearsSpec.pre6 enc Try.prog Try.f6 Rows.flashClearsRow.domain false) (Rows.flashClearsSpec.post enc Try.prog Try.f6 false true false false) := by
  refine returnsInHanded_of_change (C := Try.checked) (by kernel_rfl : ownKnob Try.prog.godebug = none) started (by kernel_rfl) Try.func6
    (ChangeSpec.witness6 (enc := enc) (C := Try.checked) false ⟨#[], #[.agg #[.slice none 0 0, .slice none 0 0, .int .i64 0, .string ByteArray.empty, .bool false], .int .i64 0, .int .i64 0, .string ByteArray.empty, .string ByteArray.empty], []⟩ 8 (by kernel_rfl) (by kernel_rfl) (by kernel_rfl) (by kernel_rfl)) ?_
  intro W base args ds gs before hval0 hW hcnd _
  have hval : ∀ (j : Nat) t v, Try.f6.params[j]? = some t → args[j]? = some v → Value.okWide Try.prog W .any base t v := hval0
  have hW' := hW
  obtain ⟨p, q, hA0, hV, rfl, hfz, hnd⟩ := hW
  have hA : DataW.TrodAll enc Try.prog W 0 (fun _ => true) true Try.f6.params.toList args.toList ds p := hA0
  rw [Try.params6] at hA hval
  obtain ⟨v0, vs0, d0, ds0, p0, q0, hargs, rfl, rfl, h0, r0⟩ := trodAll_cons hA
  obtain ⟨v1, vs1, d1, ds1, p1, q1, rfl, rfl, rfl, h1, r1⟩ := trodAll_cons r0
  obtain ⟨v2, vs2, d2, ds2, p2, q2, rfl, rfl, rfl, h2, r2⟩ := trodAll_cons r1
  obtain ⟨v3, vs3, d3, ds3, p3, q3, rfl, rfl, rfl, h3, r3⟩ := trodAll_cons r2
  obtain ⟨v4, vs4, d4, ds4, p4, q4, rfl, rfl, rfl, h4, r4⟩ := trodAll_cons r3
  obtain ⟨rfl, rfl, rfl⟩ := trodAll_nil r4
  obtain rfl : args = #[v0, v1, v2, v3, v4] := by cases args; simp_all
  obtain ⟨rfl, rfl⟩ := trodVars_none hV
  obtain ⟨F0, fl0, w0, z0⟩ := open_flash (hval 0 25 v0 rfl rfl) h0
  have lt0 : ∀ x ∈ p0, x.block < W.heap.size := fun x hx => by obtain ⟨fuel, hf⟩ := h0; exact DataW.trod_lt fuel _ _ _ hf x hx
  obtain ⟨a1, rfl, rfl, rfl, w1⟩ := open_int Try.underlying3 (hval 1 3 v1 rfl rfl) h1
  obtain ⟨a2, rfl, rfl, rfl, w2⟩ := open_int Try.underlying3 (hval 2 3 v2 rfl rfl) h2
  obtain ⟨a3, rfl, rfl, rfl, w3⟩ := open_string Try.underlying9 (hval 3 9 v3 rfl rfl) h3
  obtain ⟨a4, rfl, rfl, rfl, w4⟩ := open_string Try.underlying9 (hval 4 9 v4 rfl rfl) h4
  clear hA0 hval0
  simp only [List.append_nil] at hW'
  refine (flashClears_walk F0 v0 a1 a2 a3 a4 w0 w1 w2 w3 w4 W fl0).mono fun e W' ⟨he, bel⟩ => ?_
  subst he
  exact ⟨_, rfl, _, _, _, [], _, [], hW', trodAll_mk1 (shut_bool Try.underlying4 _), (trodAll_cons_mk (Below.trod (by kernel_rfl) (by kernel_rfl) (of_decide_eq_true (by kernel_rfl)) h0 bel lt0) (trodAll_cons_mk (shut_int Try.underlying3 w1) (trodAll_cons_mk (shut_int Try.underlying3 w2) (trodAll_cons_mk (shut_string Try.underlying9 w3) (trodAll_cons_mk (shut_string Try.underlying9 w4) trodAll_mk0))))), rfl, bel.frame _, fun h => by cases h⟩
/-- THE STATEMENT. -/
theorem flashClears_proved : Rows.FlashClearsSaid :=
  OpenClaim.holds_of_wide 6 Try.f6 rfl rfl rfl rfl rfl rfl rfl ⟨rfl, rfl, rfl, rfl, rfl⟩ rfl rfl rfl rfl rfl (by kernel_rfl) Try.func6 (by kernel_rfl)
    (of_decide_eq_true (by kernel_rfl)) (by unfold Func.isWrapper; first | (rw [if_pos (by decide +kernel)]; kernel_rfl) | (rw [if_neg (by decide +kernel)]; exact ⟨rfl, rfl⟩))
    (fun os started H enc _ => flashClears_lifted os started H enc)
#print axioms flashClears_proved
end Go.Proofs.Ytipiioggdalkoaa
