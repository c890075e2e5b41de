/- Joined texts: contracts of the program's functions, and the mathematics that they lean on. -/
import Derived.Test.YtpjafjnokgeifaaGreatDoorPartE
import Derived.SizedLaws
import Derived.SliceStrings
import Derived.Carry
section
namespace Go.Proofs.YtpjafjnokgeifaaGreatDoor
open Go.RowKit
set_option linter.unusedVariables false
set_option linter.unusedSimpArgs false
attribute [local irreducible] setN
section
variable {P : Program} {ops : Array Oper} {base : World} {a0 : Act} {Q : Exit → Act → World → Prop} {kn : Nat → VP} {i : Nat}
theorem step_extP (x : Operand) (n : Nat) {VT V : VP} (hop : (ops[i]?).map (·.op) = some (.extract x n)) (hw : Wanted ops a0 kn i) (hst : Stable V) (hx : Knows ops a0 kn i x VT) (h : ∀ v w, VT v w → ∃ es u, v = .tuple es ∧ es[n]? = some u ∧ V u w) : FStep P ops base a0 Q kn i V :=
  step_mk hst hw fun o ho a w hk hb hd => by
    obtain ⟨es, u, e1, e2, e3⟩ := h _ _ (hx a w hk hd)
    have e1' : a.eval x = .tuple es := e1
    unfold Oper.wp execOp
    rw [op_of hop ho]
    simp only [e1', Instr.extract, e2, Sem.run_bind, Result.andThen_ok, Sem.run_pure, Oper.upon]
    exact ⟨_, rfl, e3, Below.refl _ _⟩
end
def tupO (S : Nat → Prop) (X : Fl) (E : Int) : VP := fun v w => ∃ u, v = .tuple #[u, .int .i64 E] ∧ isFlO S X u w
theorem stable_O (S : Nat → Prop) (X : Fl) : Stable (isFlO S X) := by
  rintro v w w' ⟨p, q, e, h1, h2, h3, h4⟩ hb
  exact ⟨p, q, e, stable_cells _ _ _ _ h1 hb, stable_cells _ _ _ _ h2 hb, h3, h4⟩
theorem stable_tupO (S : Nat → Prop) (X : Fl) (E : Int) : Stable (tupO S X E) := fun v w w' ⟨u, e, h⟩ hb => ⟨u, e, stable_O S X u w w' h hb⟩
theorem mul_natR (z p q : Nat) (h : p * z = q) (hq : q ≤ 1000000) (w : World) : (binOp .mul 3 (.int .i64 (p : Int)) (.int .i64 (z : Int))).run Tryz.prog w = .ok (.int .i64 (q : Int)) w := by
  have e : (p : Int) * (z : Int) = (q : Int) := by rw [← h]; simp
  simp [go_sem, e]
  rw [IntKind.wrap_i64]
  omega
theorem has_may {F : Fl} {n : Int} (h : hasB F n = true) : mayB F = true := by unfold hasB at h; simp only [Bool.and_eq_true] at h; exact h.1.1
theorem csizeP (n : Int) (w : World) : Calls Tryz.prog 52 #[.int .i64 n] w fun e w' => ∃ v, e = .returned v ∧ isVal (.int .i64 (szN n : Int)) v w' ∧ Below w.heap.size w w' := by
  refine (refSize_any n w).mono ?_
  rintro e w' ⟨rfl, rfl⟩
  exact ⟨_, rfl, by rw [szN_eq]; rfl, Below.refl _ _⟩
theorem cmakeP (l : List UInt8) (w : World) (hl : l.length ≤ 1024) : Calls Tryz.prog 56 #[.string ⟨l.toArray⟩] w fun e w' => ∃ v, e = .returned v ∧ isVal (.string ⟨(recL l).toArray⟩) v w' ∧ Below w.heap.size w w' := by
  refine (refMake_any l w hl).mono ?_
  rintro e w' ⟨rfl, hb⟩
  exact ⟨_, rfl, rfl, hb⟩
noncomputable def ap8Ops : Array Oper := regionOf Tryz.f13 8
set_option maxRecDepth 100000 in
set_option maxHeartbeats 4000000 in
theorem ap8_region (Qq : Exit → Act → World → Prop) (a0 : Act) (w0 : World) (hsz : a0.tmps.size = 58) (F : Fl) (k nx z q b2 r : Nat) (pl rc : List UInt8) (E : Int) (vp vw : Value) (HX : Blk w0 b2 [vp, vw, .int .i64 F.fuse, .string ⟨F.torn.toArray⟩, .bool F.dead]) (HR : Blk w0 r [.slice none 0 0, .slice none 0 0, .int .i64 0, .string ⟨#[]⟩, .bool false]) (hp : isCells (F.pages.map strC) vp w0) (hq' : isCells (F.wear.map intC) vw w0) (hop : OffS (fun b => b = r) (F.pages.map strC) vp) (hoq : OffS (fun b => b = r) (F.wear.map intC) vw) (hf : FewF F) (hfz : F.fuse ≤ 9223372036854775807)
    (hz : szN (pl.length : Int) = z) (hrc : recL pl = rc) (hrl : rc.length ≤ 1000000) (hpl : pl.length ≤ 1000) (hq : nx * z = q) (hq6 : q ≤ 1000000) (hE : progE F (k : Int) (q : Int) rc = E) (e1 : a0.tmps.getD 1 undef = .int .i64 (k : Int)) (e2 : a0.tmps.getD 2 undef = .string ⟨pl.toArray⟩) (e3 : a0.tmps.getD 3 undef = .pointer (some ⟨b2, 0, none⟩)) (e6 : a0.tmps.getD 6 undef = .pointer (some ⟨r, 0, none⟩)) (e8 : a0.tmps.getD 8 undef = .int .i64 (pl.length : Int)) (e10 : a0.tmps.getD 10 undef = .int .i64 (nx : Int))
    (hQ : ∀ (y : Nat → Value) (p q' : Value) (w : World), isCells ((progF F (k : Int) (q : Int) rc).pages.map strC) p w → isCells ((progF F (k : Int) (q : Int) rc).wear.map intC) q' w → OffS (fun b => b = r) ((progF F (k : Int) (q : Int) rc).pages.map strC) p → OffS (fun b => b = r) ((progF F (k : Int) (q : Int) rc).wear.map intC) q' → Below w0.heap.size w0 w → Qq .normal { tmps := ([47, 48, 49, 50, 51, 52, 53, 54, 55, 56, 57, 7].foldl (fun t s => t.setIfInBounds s (y s)) a0.tmps).setIfInBounds 7 (.int .i64 E), defers := a0.defers } (setN w r 0 [p, q', .int .i64 (progF F (k : Int) (q : Int) rc).fuse, .string ⟨(progF F (k : Int) (q : Int) rc).torn.toArray⟩, .bool (progF F (k : Int) (q : Int) rc).dead])) :
    (Code.region 8 ap8Ops true).wp Tryz.prog Qq a0 w0 := by
  refine wp_region_cov 11 mixed (by rw [hsz]; kernel_rfl) (by kernel_rfl) ?_
  rw [show ap8Ops.size - 11 = 2 by kernel_rfl]
  refine ⟨isVal (.agg #[vp, vw, .int .i64 F.fuse, .string ⟨F.torn.toArray⟩, .bool F.dead]), step_loadN 25 (.tmp 3) (b2) [vp, vw, .int .i64 F.fuse, .string ⟨F.torn.toArray⟩, .bool F.dead] (by kernel_rfl) (wanted_none (by kernel_rfl)) (knows_old 3 (.pointer (some ⟨b2, 0, none⟩)) (by kernel_rfl) e3) size_fl agg_fl HX.cells, ?_⟩
  refine ⟨isVal (.int .i64 (k : Int)), step_move (.tmp 1) (by kernel_rfl) (wanted_none (by kernel_rfl)) (stable_val _) (knows_old 1 (.int .i64 (k : Int)) (by kernel_rfl) e1), ?_⟩
  refine ⟨isVal (.int .i64 (nx : Int)), step_move (.tmp 10) (by kernel_rfl) (wanted_none (by kernel_rfl)) (stable_val _) (knows_old 10 (.int .i64 (nx : Int)) (by kernel_rfl) e10), ?_⟩
  refine ⟨isVal (.int .i64 (pl.length : Int)), step_move (.tmp 8) (by kernel_rfl) (wanted_none (by kernel_rfl)) (stable_val _) (knows_old 8 (.int .i64 (pl.length : Int)) (by kernel_rfl) e8), ?_⟩
  refine ⟨isVal (.int .i64 (z : Int)), step_call 52 #[.tmp 50] #[3] #[.int .i64 (pl.length : Int)] (by kernel_rfl) (wanted_none (by kernel_rfl)) (stable_val _) (args1 (.tmp 50) (.int .i64 (pl.length : Int)) (knows_new (V := isVal (.int .i64 (pl.length : Int))) 50 3 (by kernel_rfl) (by kernel_rfl) (by kernel_rfl))) (enters_of Tryz.func52 (by kernel_rfl) rfl) (by intro w hb; rw [← hz]; exact csizeP (pl.length : Int) w), ?_⟩
  refine ⟨isVal (.int .i64 (q : Int)), step_bin .mul 3 3 (.tmp 49) (.tmp 51) (.int .i64 (nx : Int)) (.int .i64 (z : Int)) (.int .i64 (q : Int)) (by kernel_rfl) (wanted_none (by kernel_rfl)) (knows_new (V := isVal (.int .i64 (nx : Int))) 49 2 (by kernel_rfl) (by kernel_rfl) (by kernel_rfl)) (knows_new (V := isVal (.int .i64 (z : Int))) 51 4 (by kernel_rfl) (by kernel_rfl) (by kernel_rfl)) (fun _ => rfl) (mul_natR z nx q hq hq6), ?_⟩
  refine ⟨isVal (.string ⟨pl.toArray⟩), step_move (.tmp 2) (by kernel_rfl) (wanted_none (by kernel_rfl)) (stable_val _) (knows_old 2 (.string ⟨pl.toArray⟩) (by kernel_rfl) e2), ?_⟩
  refine ⟨isVal (.string ⟨rc.toArray⟩), step_call 56 #[.tmp 53] #[9] #[.string ⟨pl.toArray⟩] (by kernel_rfl) (wanted_none (by kernel_rfl)) (stable_val _) (args1 (.tmp 53) (.string ⟨pl.toArray⟩) (knows_new (V := isVal (.string ⟨pl.toArray⟩)) 53 6 (by kernel_rfl) (by kernel_rfl) (by kernel_rfl))) (enters_of Tryz.func56 (by kernel_rfl) rfl) (by intro w hb; rw [← hrc]; exact cmakeP pl w (by omega)), ?_⟩
  refine ⟨(tupO (fun b => b = r) (progF F (k : Int) (q : Int) rc) E), step_call 55 #[.tmp 47, .tmp 48, .tmp 52, .tmp 54] #[25, 3, 3, 9] #[.agg #[vp, vw, .int .i64 F.fuse, .string ⟨F.torn.toArray⟩, .bool F.dead], .int .i64 (k : Int), .int .i64 (q : Int), .string ⟨rc.toArray⟩] (by kernel_rfl) (wanted_none (by kernel_rfl)) (stable_tupO _ _ _) (args4 (.tmp 47) (.tmp 48) (.tmp 52) (.tmp 54) (.agg #[vp, vw, .int .i64 F.fuse, .string ⟨F.torn.toArray⟩, .bool F.dead]) (.int .i64 (k : Int)) (.int .i64 (q : Int)) (.string ⟨rc.toArray⟩) (knows_new (V := isVal (.agg #[vp, vw, .int .i64 F.fuse, .string ⟨F.torn.toArray⟩, .bool F.dead])) 47 0 (by kernel_rfl) (by kernel_rfl) (by kernel_rfl)) (knows_new (V := isVal (.int .i64 (k : Int))) 48 1 (by kernel_rfl) (by kernel_rfl) (by kernel_rfl)) (knows_new (V := isVal (.int .i64 (q : Int))) 52 5 (by kernel_rfl) (by kernel_rfl) (by kernel_rfl)) (knows_new (V := isVal (.string ⟨rc.toArray⟩)) 54 7 (by kernel_rfl) (by kernel_rfl) (by kernel_rfl))) (enters_of Tryz.func55 (by kernel_rfl) rfl) (by intro w hb; exact (rprogS_any F (k : Int) (q : Int) rc _ w (fun b => b = r) (fun b e => by have := HR.lt; have := hb.size; omega) ⟨vp, vw, rfl, stable_cells _ _ _ _ hp hb, stable_cells _ _ _ _ hq' hb, hop, hoq⟩ hf (by omega) hfz).mono (by rintro e w' ⟨u, rfl, h, hb2⟩; rw [hE]; exact ⟨_, rfl, ⟨u, rfl, h⟩, hb2⟩)), ?_⟩
  refine ⟨isFlO (fun b => b = r) (progF F (k : Int) (q : Int) rc), step_extP (.tmp 55) 0 (by kernel_rfl) (wanted_none (by kernel_rfl)) (stable_O _ _) (knows_new (V := (tupO (fun b => b = r) (progF F (k : Int) (q : Int) rc) E)) 55 8 (by kernel_rfl) (by kernel_rfl) (by kernel_rfl)) (fun v w ⟨u, e, h⟩ => ⟨_, u, e, rfl, h⟩), ?_⟩
  refine ⟨isVal (.int .i64 E), step_extP (.tmp 55) 1 (by kernel_rfl) (wanted_none (by kernel_rfl)) (stable_val _) (knows_new (V := (tupO (fun b => b = r) (progF F (k : Int) (q : Int) rc) E)) 55 8 (by kernel_rfl) (by kernel_rfl) (by kernel_rfl)) (fun v w ⟨u, e, h⟩ => ⟨_, _, e, rfl, rfl⟩), ?_⟩
  intro x w hkp hb hd
  obtain ⟨p, q', dv, hcp, hcq, ho1, ho2⟩ := fdone_of (hd 9 (by decide)) (t := 56) (V := isFlO (fun b => b = r) (progF F (k : Int) (q : Int) rc)) (by kernel_rfl) (by kernel_rfl)
  have d57 : x.eval (.tmp 57) = .int .i64 E := fdone_of (hd 10 (by decide)) (t := 57) (V := isVal (.int .i64 E)) (by kernel_rfl) (by kernel_rfl)
  replace dv : x.eval (.tmp 56) = _ := dv
  have dr : x.eval (.tmp 6) = .pointer (some ⟨r, 0, none⟩) := (hkp.2.2 6 (by kernel_rfl)).trans e6
  have hr2 := HR.keep hb
  refine tail_storeN 25 (.tmp 6) (.tmp 56) r [p, q', .int .i64 (progF F (k : Int) (q : Int) rc).fuse, .string ⟨(progF F (k : Int) (q : Int) rc).torn.toArray⟩, .bool (progF F (k : Int) (q : Int) rc).dead] _ (by kernel_rfl) (by kernel_rfl) size_fl dr dv hr2.cells rfl hr2.free ⟨hcp.one, hcq.one, rfl, rfl, rfl, trivial⟩ ?_
  refine tail_assign (.tmp 57) 7 _ (by kernel_rfl) (by kernel_rfl) d57 ?_
  obtain ⟨y, ey⟩ := kept_ex hkp [some 47, some 48, some 49, some 50, some 51, some 52, some 53, some 54, some 55, some 56, some 57, none, some 7] [47, 48, 49, 50, 51, 52, 53, 54, 55, 56, 57, 7] (by kernel_rfl) (by decide)
  exact put_kept ey (hQ y p q' w hcp hcq ho1 ho2 hb)
set_option maxRecDepth 100000 in
set_option maxHeartbeats 4000000 in
theorem rap_no1 (F : Fl) (n : Int) (pl : List UInt8) (v : Value) (w : World) (hv : isFl F v w) (hf : FewF F) (hs : pl.length ≤ 9223372036854775807) (hm : mayB F = false) :
    Calls Tryz.prog 13 #[v, .int .i64 n, .string ⟨pl.toArray⟩] w fun e w' => ∃ v', e = .returned (.tuple #[v', .int .i64 1]) ∧ isFl F v' w' ∧ Below w.heap.size w w' := by
  obtain ⟨vp, vw, rfl, hpp, hqq⟩ := hv
  have o1 := hpp.one
  have o2 := hqq.one
  have HP := Kept.mk hpp
  have HQ := Kept.mk hqq
  have hb0 := (lit_below w (.cells #[vp, vw, .int .i64 F.fuse, .string ⟨F.torn.toArray⟩, .bool F.dead] 25)).trans ((lit_below (w.alloc (.cells #[vp, vw, .int .i64 F.fuse, .string ⟨F.torn.toArray⟩, .bool F.dead] 25)) (.cells #[.slice none 0 0, .slice none 0 0, .int .i64 0, .string ⟨#[]⟩, .bool false] 25)).mono (lit_below w (.cells #[vp, vw, .int .i64 F.fuse, .string ⟨F.torn.toArray⟩, .bool F.dead] 25)).size)
  have HB := Kept.mk hb0
  have HX := Kept.mk ((Blk.new w 25 [vp, vw, .int .i64 F.fuse, .string ⟨F.torn.toArray⟩, .bool F.dead] w.heap.size rfl).alloc (.cells #[.slice none 0 0, .slice none 0 0, .int .i64 0, .string ⟨#[]⟩, .bool false] 25))
  have HR := Kept.mk (Blk.new (w.alloc (.cells #[vp, vw, .int .i64 F.fuse, .string ⟨F.torn.toArray⟩, .bool F.dead] 25)) 25 [.slice none 0 0, .slice none 0 0, .int .i64 0, .string ⟨#[]⟩, .bool false] (w.heap.size + 1) (by simp))
  have HV := Kept.mk (show isFl F (.agg #[vp, vw, .int .i64 F.fuse, .string ⟨F.torn.toArray⟩, .bool F.dead]) ((w.alloc (.cells #[vp, vw, .int .i64 F.fuse, .string ⟨F.torn.toArray⟩, .bool F.dead] 25)).alloc (.cells #[.slice none 0 0, .slice none 0 0, .int .i64 0, .string ⟨#[]⟩, .bool false] 25)) from ⟨vp, vw, rfl, stable_cells _ _ _ _ hpp hb0, stable_cells _ _ _ _ hqq hb0⟩)
  have hs0 : ((w.alloc (.cells #[vp, vw, .int .i64 F.fuse, .string ⟨F.torn.toArray⟩, .bool F.dead] 25)).alloc (.cells #[.slice none 0 0, .slice none 0 0, .int .i64 0, .string ⟨#[]⟩, .bool false] 25)).heap.size = w.heap.size + 2 := by simp
  clear hb0 hpp hqq
  show Calls Tryz.prog 13 #[.agg #[vp, vw, .int .i64 F.fuse, .string ⟨F.torn.toArray⟩, .bool F.dead], .int .i64 n, .string ⟨pl.toArray⟩] w _
  have HM := Kept.mk hm
  clear hm
  have hss : (⟨pl.toArray⟩ : ByteArray).size = pl.length := size_mk pl
  go_enter Tryz.func13, Tryz.ntmps13
  go_wp2_with fail
  generalize ((w.alloc (.cells #[vp, vw, .int .i64 F.fuse, .string ⟨F.torn.toArray⟩, .bool F.dead] 25)).alloc (.cells #[.slice none 0 0, .slice none 0 0, .int .i64 0, .string ⟨#[]⟩, .bool false] 25)) = W at *
  refine (rfcheck_any F _ W HV.out hf).mono ?_
  rintro e W1 ⟨rfl, hb⟩
  rewrite [HM.out]
  have hs1 := hb.size
  replace HX := Kept.mk (HX.out.keep hb)
  replace HR := Kept.mk (HR.out.keep hb)
  replace HB := Kept.mk (HB.out.trans (hb.mono HB.out.size))
  clear hb
  have kx0 := HX.out.cells.2 0 _ rfl
  have kx1 := HX.out.cells.2 1 _ rfl
  have kx2 := HX.out.cells.2 2 _ rfl
  have kx3 := HX.out.cells.2 3 _ rfl
  have kx4 := HX.out.cells.2 4 _ rfl
  have fx0 := HX.out.free 0
  have fx1 := HX.out.free 1
  have fx2 := HX.out.free 2
  have fx3 := HX.out.free 3
  have fx4 := HX.out.free 4
  have HR2 := HR
  have HB2 := HB
  have K5 : Kept (Ones [vp, vw, .int .i64 F.fuse, .string ⟨F.torn.toArray⟩, .bool F.dead]) := ⟨⟨o1, o2, rfl, rfl, rfl, trivial⟩⟩
  go_wp2_with (have hz1 := K5; refine wpList_storeN 25 rfl (.tmp 6) (.tmp 32) rfl (w.heap.size + 1) [vp, vw, .int .i64 F.fuse, .string ⟨F.torn.toArray⟩, .bool F.dead] size_fl rfl rfl HR2.out.cells rfl HR2.out.free K5.out ?_; clear hz1 K5)
  have B := below_setN (show w.heap.size ≤ w.heap.size + 1 by omega) [vp, vw, .int .i64 F.fuse, .string ⟨F.torn.toArray⟩, .bool F.dead] 0 _ HB2.out
  exact bodyPost_ret (resultsN2 rfl _ _ (w.heap.size + 1) _ (.int .i64 1) size_fl agg_fl rfl rfl (HR2.out.all_ (l := [vp, vw, .int .i64 F.fuse, .string ⟨F.torn.toArray⟩, .bool F.dead]) rfl).cells) rfl ⟨_, rfl, ⟨vp, vw, rfl, stable_cells _ _ _ _ HP.out B, stable_cells _ _ _ _ HQ.out B⟩, B⟩
set_option maxRecDepth 100000 in
set_option maxHeartbeats 4000000 in
theorem rap_no2 (F : Fl) (n : Int) (pl : List UInt8) (v : Value) (w : World) (hv : isFl F v w) (hf : FewF F) (hs : pl.length ≤ 9223372036854775807) (hm : mayB F = true) (h0 : n < 0) :
    Calls Tryz.prog 13 #[v, .int .i64 n, .string ⟨pl.toArray⟩] w fun e w' => ∃ v', e = .returned (.tuple #[v', .int .i64 1]) ∧ isFl F v' w' ∧ Below w.heap.size w w' := by
  obtain ⟨vp, vw, rfl, hpp, hqq⟩ := hv
  have o1 := hpp.one
  have o2 := hqq.one
  have HP := Kept.mk hpp
  have HQ := Kept.mk hqq
  have hb0 := (lit_below w (.cells #[vp, vw, .int .i64 F.fuse, .string ⟨F.torn.toArray⟩, .bool F.dead] 25)).trans ((lit_below (w.alloc (.cells #[vp, vw, .int .i64 F.fuse, .string ⟨F.torn.toArray⟩, .bool F.dead] 25)) (.cells #[.slice none 0 0, .slice none 0 0, .int .i64 0, .string ⟨#[]⟩, .bool false] 25)).mono (lit_below w (.cells #[vp, vw, .int .i64 F.fuse, .string ⟨F.torn.toArray⟩, .bool F.dead] 25)).size)
  have HB := Kept.mk hb0
  have HX := Kept.mk ((Blk.new w 25 [vp, vw, .int .i64 F.fuse, .string ⟨F.torn.toArray⟩, .bool F.dead] w.heap.size rfl).alloc (.cells #[.slice none 0 0, .slice none 0 0, .int .i64 0, .string ⟨#[]⟩, .bool false] 25))
  have HR := Kept.mk (Blk.new (w.alloc (.cells #[vp, vw, .int .i64 F.fuse, .string ⟨F.torn.toArray⟩, .bool F.dead] 25)) 25 [.slice none 0 0, .slice none 0 0, .int .i64 0, .string ⟨#[]⟩, .bool false] (w.heap.size + 1) (by simp))
  have HV := Kept.mk (show isFl F (.agg #[vp, vw, .int .i64 F.fuse, .string ⟨F.torn.toArray⟩, .bool F.dead]) ((w.alloc (.cells #[vp, vw, .int .i64 F.fuse, .string ⟨F.torn.toArray⟩, .bool F.dead] 25)).alloc (.cells #[.slice none 0 0, .slice none 0 0, .int .i64 0, .string ⟨#[]⟩, .bool false] 25)) from ⟨vp, vw, rfl, stable_cells _ _ _ _ hpp hb0, stable_cells _ _ _ _ hqq hb0⟩)
  have hs0 : ((w.alloc (.cells #[vp, vw, .int .i64 F.fuse, .string ⟨F.torn.toArray⟩, .bool F.dead] 25)).alloc (.cells #[.slice none 0 0, .slice none 0 0, .int .i64 0, .string ⟨#[]⟩, .bool false] 25)).heap.size = w.heap.size + 2 := by simp
  clear hb0 hpp hqq
  show Calls Tryz.prog 13 #[.agg #[vp, vw, .int .i64 F.fuse, .string ⟨F.torn.toArray⟩, .bool F.dead], .int .i64 n, .string ⟨pl.toArray⟩] w _
  have HM := Kept.mk hm
  clear hm
  have hss : (⟨pl.toArray⟩ : ByteArray).size = pl.length := size_mk pl
  have d1 : decide (n < 0) = true := decide_eq_true h0
  go_enter Tryz.func13, Tryz.ntmps13
  go_wp2_with fail
  generalize ((w.alloc (.cells #[vp, vw, .int .i64 F.fuse, .string ⟨F.torn.toArray⟩, .bool F.dead] 25)).alloc (.cells #[.slice none 0 0, .slice none 0 0, .int .i64 0, .string ⟨#[]⟩, .bool false] 25)) = W at *
  refine (rfcheck_any F _ W HV.out hf).mono ?_
  rintro e W1 ⟨rfl, hb⟩
  rewrite [HM.out]
  have hs1 := hb.size
  replace HX := Kept.mk (HX.out.keep hb)
  replace HR := Kept.mk (HR.out.keep hb)
  replace HB := Kept.mk (HB.out.trans (hb.mono HB.out.size))
  clear hb
  have kx0 := HX.out.cells.2 0 _ rfl
  have kx1 := HX.out.cells.2 1 _ rfl
  have kx2 := HX.out.cells.2 2 _ rfl
  have kx3 := HX.out.cells.2 3 _ rfl
  have kx4 := HX.out.cells.2 4 _ rfl
  have fx0 := HX.out.free 0
  have fx1 := HX.out.free 1
  have fx2 := HX.out.free 2
  have fx3 := HX.out.free 3
  have fx4 := HX.out.free 4
  have HR2 := HR
  have HB2 := HB
  have K5 : Kept (Ones [vp, vw, .int .i64 F.fuse, .string ⟨F.torn.toArray⟩, .bool F.dead]) := ⟨⟨o1, o2, rfl, rfl, rfl, trivial⟩⟩
  go_wp2_with (have hz1 := K5; refine wpList_storeN 25 rfl (.tmp 6) (.tmp 32) rfl (w.heap.size + 1) [vp, vw, .int .i64 F.fuse, .string ⟨F.torn.toArray⟩, .bool F.dead] size_fl rfl rfl HR2.out.cells rfl HR2.out.free K5.out ?_; clear hz1 K5)
  have B := below_setN (show w.heap.size ≤ w.heap.size + 1 by omega) [vp, vw, .int .i64 F.fuse, .string ⟨F.torn.toArray⟩, .bool F.dead] 0 _ HB2.out
  exact bodyPost_ret (resultsN2 rfl _ _ (w.heap.size + 1) _ (.int .i64 1) size_fl agg_fl rfl rfl (HR2.out.all_ (l := [vp, vw, .int .i64 F.fuse, .string ⟨F.torn.toArray⟩, .bool F.dead]) rfl).cells) rfl ⟨_, rfl, ⟨vp, vw, rfl, stable_cells _ _ _ _ HP.out B, stable_cells _ _ _ _ HQ.out B⟩, B⟩
set_option maxRecDepth 100000 in
set_option maxHeartbeats 4000000 in
theorem rap_no3 (F : Fl) (n : Int) (pl : List UInt8) (v : Value) (w : World) (hv : isFl F v w) (hf : FewF F) (hs : pl.length ≤ 9223372036854775807) (hm : mayB F = true) (h0 : ¬ n < 0) (h1 : (F.pages.length : Int) ≤ n) :
    Calls Tryz.prog 13 #[v, .int .i64 n, .string ⟨pl.toArray⟩] w fun e w' => ∃ v', e = .returned (.tuple #[v', .int .i64 1]) ∧ isFl F v' w' ∧ Below w.heap.size w w' := by
  have hm1 := ((may_iff F).1 hm).1.1
  obtain ⟨vp, vw, rfl, hpp, hqq⟩ := hv
  have o1 := hpp.one
  have o2 := hqq.one
  obtain ⟨b, off, cap, hvp, hb, hc⟩ := hpp.some_ (by rw [List.length_map]; omega)
  rw [List.length_map] at hvp
  subst hvp
  clear hc
  have HP := Kept.mk hpp
  have HQ := Kept.mk hqq
  have hb0 := (lit_below w (.cells #[.slice (some ⟨b, off, none⟩) F.pages.length cap, vw, .int .i64 F.fuse, .string ⟨F.torn.toArray⟩, .bool F.dead] 25)).trans ((lit_below (w.alloc (.cells #[.slice (some ⟨b, off, none⟩) F.pages.length cap, vw, .int .i64 F.fuse, .string ⟨F.torn.toArray⟩, .bool F.dead] 25)) (.cells #[.slice none 0 0, .slice none 0 0, .int .i64 0, .string ⟨#[]⟩, .bool false] 25)).mono (lit_below w (.cells #[.slice (some ⟨b, off, none⟩) F.pages.length cap, vw, .int .i64 F.fuse, .string ⟨F.torn.toArray⟩, .bool F.dead] 25)).size)
  have HB := Kept.mk hb0
  have HX := Kept.mk ((Blk.new w 25 [.slice (some ⟨b, off, none⟩) F.pages.length cap, vw, .int .i64 F.fuse, .string ⟨F.torn.toArray⟩, .bool F.dead] w.heap.size rfl).alloc (.cells #[.slice none 0 0, .slice none 0 0, .int .i64 0, .string ⟨#[]⟩, .bool false] 25))
  have HR := Kept.mk (Blk.new (w.alloc (.cells #[.slice (some ⟨b, off, none⟩) F.pages.length cap, vw, .int .i64 F.fuse, .string ⟨F.torn.toArray⟩, .bool F.dead] 25)) 25 [.slice none 0 0, .slice none 0 0, .int .i64 0, .string ⟨#[]⟩, .bool false] (w.heap.size + 1) (by simp))
  have HV := Kept.mk (show isFl F (.agg #[.slice (some ⟨b, off, none⟩) F.pages.length cap, vw, .int .i64 F.fuse, .string ⟨F.torn.toArray⟩, .bool F.dead]) ((w.alloc (.cells #[.slice (some ⟨b, off, none⟩) F.pages.length cap, vw, .int .i64 F.fuse, .string ⟨F.torn.toArray⟩, .bool F.dead] 25)).alloc (.cells #[.slice none 0 0, .slice none 0 0, .int .i64 0, .string ⟨#[]⟩, .bool false] 25)) from ⟨.slice (some ⟨b, off, none⟩) F.pages.length cap, vw, rfl, stable_cells _ _ _ _ hpp hb0, stable_cells _ _ _ _ hqq hb0⟩)
  have hs0 : ((w.alloc (.cells #[.slice (some ⟨b, off, none⟩) F.pages.length cap, vw, .int .i64 F.fuse, .string ⟨F.torn.toArray⟩, .bool F.dead] 25)).alloc (.cells #[.slice none 0 0, .slice none 0 0, .int .i64 0, .string ⟨#[]⟩, .bool false] 25)).heap.size = w.heap.size + 2 := by simp
  clear hb0 hpp hqq
  show Calls Tryz.prog 13 #[.agg #[.slice (some ⟨b, off, none⟩) F.pages.length cap, vw, .int .i64 F.fuse, .string ⟨F.torn.toArray⟩, .bool F.dead], .int .i64 n, .string ⟨pl.toArray⟩] w _
  have HM := Kept.mk hm
  clear hm
  have hss : (⟨pl.toArray⟩ : ByteArray).size = pl.length := size_mk pl
  have d1 : decide (n < 0) = false := decide_eq_false h0
  have d2 : decide ((F.pages.length : Int) ≤ n) = true := decide_eq_true h1
  go_enter Tryz.func13, Tryz.ntmps13
  go_wp2_with fail
  generalize ((w.alloc (.cells #[.slice (some ⟨b, off, none⟩) F.pages.length cap, vw, .int .i64 F.fuse, .string ⟨F.torn.toArray⟩, .bool F.dead] 25)).alloc (.cells #[.slice none 0 0, .slice none 0 0, .int .i64 0, .string ⟨#[]⟩, .bool false] 25)) = W at *
  refine (rfcheck_any F _ W HV.out hf).mono ?_
  rintro e W1 ⟨rfl, hb⟩
  rewrite [HM.out]
  have hs1 := hb.size
  replace HX := Kept.mk (HX.out.keep hb)
  replace HR := Kept.mk (HR.out.keep hb)
  replace HB := Kept.mk (HB.out.trans (hb.mono HB.out.size))
  clear hb
  have kx0 := HX.out.cells.2 0 _ rfl
  have kx1 := HX.out.cells.2 1 _ rfl
  have kx2 := HX.out.cells.2 2 _ rfl
  have kx3 := HX.out.cells.2 3 _ rfl
  have kx4 := HX.out.cells.2 4 _ rfl
  have fx0 := HX.out.free 0
  have fx1 := HX.out.free 1
  have fx2 := HX.out.free 2
  have fx3 := HX.out.free 3
  have fx4 := HX.out.free 4
  have HR2 := HR
  have HB2 := HB
  have K5 : Kept (Ones [.slice (some ⟨b, off, none⟩) F.pages.length cap, vw, .int .i64 F.fuse, .string ⟨F.torn.toArray⟩, .bool F.dead]) := ⟨⟨o1, o2, rfl, rfl, rfl, trivial⟩⟩
  go_wp2_with (have hz1 := K5; refine wpList_storeN 25 rfl (.tmp 6) (.tmp 32) rfl (w.heap.size + 1) [.slice (some ⟨b, off, none⟩) F.pages.length cap, vw, .int .i64 F.fuse, .string ⟨F.torn.toArray⟩, .bool F.dead] size_fl rfl rfl HR2.out.cells rfl HR2.out.free K5.out ?_; clear hz1 K5)
  have B := below_setN (show w.heap.size ≤ w.heap.size + 1 by omega) [.slice (some ⟨b, off, none⟩) F.pages.length cap, vw, .int .i64 F.fuse, .string ⟨F.torn.toArray⟩, .bool F.dead] 0 _ HB2.out
  exact bodyPost_ret (resultsN2 rfl _ _ (w.heap.size + 1) _ (.int .i64 1) size_fl agg_fl rfl rfl (HR2.out.all_ (l := [.slice (some ⟨b, off, none⟩) F.pages.length cap, vw, .int .i64 F.fuse, .string ⟨F.torn.toArray⟩, .bool F.dead]) rfl).cells) rfl ⟨_, rfl, ⟨.slice (some ⟨b, off, none⟩) F.pages.length cap, vw, rfl, stable_cells _ _ _ _ HP.out B, stable_cells _ _ _ _ HQ.out B⟩, B⟩
set_option maxRecDepth 100000 in
set_option maxHeartbeats 4000000 in
theorem rap_no4 (F : Fl) (k : Nat) (pl : List UInt8) (v : Value) (w : World) (hv : isFl F v w) (hf : FewF F) (hs : pl.length ≤ 9223372036854775807) (hm : hasB F (k : Int) = true) (hz : sizeN (pl.length : Int) = 0) :
    Calls Tryz.prog 13 #[v, .int .i64 (k : Int), .string ⟨pl.toArray⟩] w fun e w' => ∃ v', e = .returned (.tuple #[v', .int .i64 1]) ∧ isFl F v' w' ∧ Below w.heap.size w w' := by
  have HHF := Kept.mk (has_facts F k hm)
  obtain ⟨hk, h6, hwl, htl, hpg, hwr⟩ := HHF.out
  obtain ⟨was, hwas⟩ : ∃ was, F.pages[k]? = some was := ⟨_, List.getElem?_eq_getElem hk⟩
  have hwm : was.length ≤ 8192 := (hpg _ (List.mem_of_getElem? hwas)).2.1
  have hget1 : F.pages.getD k [] = was := by simp [List.getD_eq_getElem?_getD, hwas]
  have HW0 := Kept.mk (show was.length = (F.pages[0]'(by omega)).length by
    rw [(hpg _ (List.mem_of_getElem? hwas)).2.2, (hpg _ (List.getElem_mem (show 0 < F.pages.length by omega))).2.2])
  have HWAS := Kept.mk hwas
  have HWR := Kept.mk hwr
  have HM := Kept.mk (has_may hm)
  clear hpg hwr hwas hget1 hm
  obtain ⟨vp, vw, rfl, hpp, hqq⟩ := hv
  have o1 := hpp.one
  have o2 := hqq.one
  obtain ⟨b, off, cap, hvp, hb, hc⟩ := hpp.some_ (by rw [List.length_map]; omega)
  rw [List.length_map] at hvp
  subst hvp
  clear hc
  have HP := Kept.mk hpp
  have HQ := Kept.mk hqq
  have hb0 := (lit_below w (.cells #[.slice (some ⟨b, off, none⟩) F.pages.length cap, vw, .int .i64 F.fuse, .string ⟨F.torn.toArray⟩, .bool F.dead] 25)).trans ((lit_below (w.alloc (.cells #[.slice (some ⟨b, off, none⟩) F.pages.length cap, vw, .int .i64 F.fuse, .string ⟨F.torn.toArray⟩, .bool F.dead] 25)) (.cells #[.slice none 0 0, .slice none 0 0, .int .i64 0, .string ⟨#[]⟩, .bool false] 25)).mono (lit_below w (.cells #[.slice (some ⟨b, off, none⟩) F.pages.length cap, vw, .int .i64 F.fuse, .string ⟨F.torn.toArray⟩, .bool F.dead] 25)).size)
  have HB := Kept.mk hb0
  have HX := Kept.mk ((Blk.new w 25 [.slice (some ⟨b, off, none⟩) F.pages.length cap, vw, .int .i64 F.fuse, .string ⟨F.torn.toArray⟩, .bool F.dead] w.heap.size rfl).alloc (.cells #[.slice none 0 0, .slice none 0 0, .int .i64 0, .string ⟨#[]⟩, .bool false] 25))
  have HR := Kept.mk (Blk.new (w.alloc (.cells #[.slice (some ⟨b, off, none⟩) F.pages.length cap, vw, .int .i64 F.fuse, .string ⟨F.torn.toArray⟩, .bool F.dead] 25)) 25 [.slice none 0 0, .slice none 0 0, .int .i64 0, .string ⟨#[]⟩, .bool false] (w.heap.size + 1) (by simp))
  have HV := Kept.mk (show isFl F (.agg #[.slice (some ⟨b, off, none⟩) F.pages.length cap, vw, .int .i64 F.fuse, .string ⟨F.torn.toArray⟩, .bool F.dead]) ((w.alloc (.cells #[.slice (some ⟨b, off, none⟩) F.pages.length cap, vw, .int .i64 F.fuse, .string ⟨F.torn.toArray⟩, .bool F.dead] 25)).alloc (.cells #[.slice none 0 0, .slice none 0 0, .int .i64 0, .string ⟨#[]⟩, .bool false] 25)) from ⟨.slice (some ⟨b, off, none⟩) F.pages.length cap, vw, rfl, stable_cells _ _ _ _ hpp hb0, stable_cells _ _ _ _ hqq hb0⟩)
  have hs0 : ((w.alloc (.cells #[.slice (some ⟨b, off, none⟩) F.pages.length cap, vw, .int .i64 F.fuse, .string ⟨F.torn.toArray⟩, .bool F.dead] 25)).alloc (.cells #[.slice none 0 0, .slice none 0 0, .int .i64 0, .string ⟨#[]⟩, .bool false] 25)).heap.size = w.heap.size + 2 := by simp
  clear hb0 hpp hqq
  show Calls Tryz.prog 13 #[.agg #[.slice (some ⟨b, off, none⟩) F.pages.length cap, vw, .int .i64 F.fuse, .string ⟨F.torn.toArray⟩, .bool F.dead], .int .i64 (k : Int), .string ⟨pl.toArray⟩] w _
  have hss : (⟨pl.toArray⟩ : ByteArray).size = pl.length := size_mk pl
  have d1 : decide ((k : Int) < 0) = false := decide_eq_false (by omega)
  have d2 : decide ((F.pages.length : Int) ≤ (k : Int)) = false := decide_eq_false (by omega)
  have HZ0 := Kept.mk hz
  clear hz
  go_enter Tryz.func13, Tryz.ntmps13
  go_wp2_with fail
  generalize ((w.alloc (.cells #[.slice (some ⟨b, off, none⟩) F.pages.length cap, vw, .int .i64 F.fuse, .string ⟨F.torn.toArray⟩, .bool F.dead] 25)).alloc (.cells #[.slice none 0 0, .slice none 0 0, .int .i64 0, .string ⟨#[]⟩, .bool false] 25)) = W at *
  refine (rfcheck_any F _ W HV.out hf).mono ?_
  rintro e W1 ⟨rfl, hb⟩
  rewrite [HM.out]
  have hs1 := hb.size
  replace HX := Kept.mk (HX.out.keep hb)
  replace HR := Kept.mk (HR.out.keep hb)
  replace HB := Kept.mk (HB.out.trans (hb.mono HB.out.size))
  clear hb
  have kx0 := HX.out.cells.2 0 _ rfl
  have kx1 := HX.out.cells.2 1 _ rfl
  have kx2 := HX.out.cells.2 2 _ rfl
  have kx3 := HX.out.cells.2 3 _ rfl
  have kx4 := HX.out.cells.2 4 _ rfl
  have fx0 := HX.out.free 0
  have fx1 := HX.out.free 1
  have fx2 := HX.out.free 2
  have fx3 := HX.out.free 3
  have fx4 := HX.out.free 4
  go_wp2_with fail
  refine (refSize_any _ _).mono ?_
  rintro e W2 ⟨rfl, rfl⟩
  rewrite [HZ0.out]
  have HR2 := HR
  have HB2 := HB
  have K5 : Kept (Ones [.slice (some ⟨b, off, none⟩) F.pages.length cap, vw, .int .i64 F.fuse, .string ⟨F.torn.toArray⟩, .bool F.dead]) := ⟨⟨o1, o2, rfl, rfl, rfl, trivial⟩⟩
  go_wp2_with (have hz1 := K5; refine wpList_storeN 25 rfl (.tmp 6) (.tmp 32) rfl (w.heap.size + 1) [.slice (some ⟨b, off, none⟩) F.pages.length cap, vw, .int .i64 F.fuse, .string ⟨F.torn.toArray⟩, .bool F.dead] size_fl rfl rfl HR2.out.cells rfl HR2.out.free K5.out ?_; clear hz1 K5)
  have B := below_setN (show w.heap.size ≤ w.heap.size + 1 by omega) [.slice (some ⟨b, off, none⟩) F.pages.length cap, vw, .int .i64 F.fuse, .string ⟨F.torn.toArray⟩, .bool F.dead] 0 _ HB2.out
  exact bodyPost_ret (resultsN2 rfl _ _ (w.heap.size + 1) _ (.int .i64 1) size_fl agg_fl rfl rfl (HR2.out.all_ (l := [.slice (some ⟨b, off, none⟩) F.pages.length cap, vw, .int .i64 F.fuse, .string ⟨F.torn.toArray⟩, .bool F.dead]) rfl).cells) rfl ⟨_, rfl, ⟨.slice (some ⟨b, off, none⟩) F.pages.length cap, vw, rfl, stable_cells _ _ _ _ HP.out B, stable_cells _ _ _ _ HQ.out B⟩, B⟩
set_option maxRecDepth 100000 in
set_option maxHeartbeats 4000000 in
theorem rap_full (F : Fl) (k : Nat) (pl : List UInt8) (v : Value) (w : World) (hv : isFl F v w) (hf : FewF F) (hs : pl.length ≤ 9223372036854775807) (hm : hasB F (k : Int) = true) (z nx rm : Nat) (hz : szN (pl.length : Int) = z) (hz1 : 0 < z) (hw : (F.pages.getD k []).length ≤ 1000) (hnx : nextN (F.pages.getD k []) (pl.length : Int) = nx) (hrm : roomN (F.pages.getD k []) (pl.length : Int) = rm) (hfull : nx = rm) :
    Calls Tryz.prog 13 #[v, .int .i64 (k : Int), .string ⟨pl.toArray⟩] w fun e w' => ∃ v', e = .returned (.tuple #[v', .int .i64 4]) ∧ isFl F v' w' ∧ Below w.heap.size w w' := by
  have HHF := Kept.mk (has_facts F k hm)
  obtain ⟨hk, h6, hwl, htl, hpg, hwr⟩ := HHF.out
  obtain ⟨was, hwas⟩ : ∃ was, F.pages[k]? = some was := ⟨_, List.getElem?_eq_getElem hk⟩
  have hwm : was.length ≤ 8192 := (hpg _ (List.mem_of_getElem? hwas)).2.1
  have hget1 : F.pages.getD k [] = was := by simp [List.getD_eq_getElem?_getD, hwas]
  have HW0 := Kept.mk (show was.length = (F.pages[0]'(by omega)).length by
    rw [(hpg _ (List.mem_of_getElem? hwas)).2.2, (hpg _ (List.getElem_mem (show 0 < F.pages.length by omega))).2.2])
  have HWAS := Kept.mk hwas
  rw [hget1] at hw hnx hrm
  have HWR := Kept.mk hwr
  have HM := Kept.mk (has_may hm)
  clear hpg hwr hwas hget1 hm
  obtain ⟨vp, vw, rfl, hpp, hqq⟩ := hv
  have o1 := hpp.one
  have o2 := hqq.one
  obtain ⟨b, off, cap, hvp, hb, hc⟩ := hpp.some_ (by rw [List.length_map]; omega)
  rw [List.length_map] at hvp
  subst hvp
  have HC := Kept.mk (show w.cell? ⟨b, off + k, none⟩ = some (.string ⟨was.toArray⟩) from hc k _ (by simp [HWAS.out, strC]))
  clear hc
  have HP := Kept.mk hpp
  have HQ := Kept.mk hqq
  have hb0 := (lit_below w (.cells #[.slice (some ⟨b, off, none⟩) F.pages.length cap, vw, .int .i64 F.fuse, .string ⟨F.torn.toArray⟩, .bool F.dead] 25)).trans ((lit_below (w.alloc (.cells #[.slice (some ⟨b, off, none⟩) F.pages.length cap, vw, .int .i64 F.fuse, .string ⟨F.torn.toArray⟩, .bool F.dead] 25)) (.cells #[.slice none 0 0, .slice none 0 0, .int .i64 0, .string ⟨#[]⟩, .bool false] 25)).mono (lit_below w (.cells #[.slice (some ⟨b, off, none⟩) F.pages.length cap, vw, .int .i64 F.fuse, .string ⟨F.torn.toArray⟩, .bool F.dead] 25)).size)
  have HB := Kept.mk hb0
  have HX := Kept.mk ((Blk.new w 25 [.slice (some ⟨b, off, none⟩) F.pages.length cap, vw, .int .i64 F.fuse, .string ⟨F.torn.toArray⟩, .bool F.dead] w.heap.size rfl).alloc (.cells #[.slice none 0 0, .slice none 0 0, .int .i64 0, .string ⟨#[]⟩, .bool false] 25))
  have HR := Kept.mk (Blk.new (w.alloc (.cells #[.slice (some ⟨b, off, none⟩) F.pages.length cap, vw, .int .i64 F.fuse, .string ⟨F.torn.toArray⟩, .bool F.dead] 25)) 25 [.slice none 0 0, .slice none 0 0, .int .i64 0, .string ⟨#[]⟩, .bool false] (w.heap.size + 1) (by simp))
  have HV := Kept.mk (show isFl F (.agg #[.slice (some ⟨b, off, none⟩) F.pages.length cap, vw, .int .i64 F.fuse, .string ⟨F.torn.toArray⟩, .bool F.dead]) ((w.alloc (.cells #[.slice (some ⟨b, off, none⟩) F.pages.length cap, vw, .int .i64 F.fuse, .string ⟨F.torn.toArray⟩, .bool F.dead] 25)).alloc (.cells #[.slice none 0 0, .slice none 0 0, .int .i64 0, .string ⟨#[]⟩, .bool false] 25)) from ⟨.slice (some ⟨b, off, none⟩) F.pages.length cap, vw, rfl, stable_cells _ _ _ _ hpp hb0, stable_cells _ _ _ _ hqq hb0⟩)
  have hs0 : ((w.alloc (.cells #[.slice (some ⟨b, off, none⟩) F.pages.length cap, vw, .int .i64 F.fuse, .string ⟨F.torn.toArray⟩, .bool F.dead] 25)).alloc (.cells #[.slice none 0 0, .slice none 0 0, .int .i64 0, .string ⟨#[]⟩, .bool false] 25)).heap.size = w.heap.size + 2 := by simp
  clear hb0 hpp hqq
  show Calls Tryz.prog 13 #[.agg #[.slice (some ⟨b, off, none⟩) F.pages.length cap, vw, .int .i64 F.fuse, .string ⟨F.torn.toArray⟩, .bool F.dead], .int .i64 (k : Int), .string ⟨pl.toArray⟩] w _
  have hsz : (⟨was.toArray⟩ : ByteArray).size = was.length := size_mk was
  have hss : (⟨pl.toArray⟩ : ByteArray).size = pl.length := size_mk pl
  have d1 : decide ((k : Int) < 0) = false := decide_eq_false (by omega)
  have d2 : decide ((F.pages.length : Int) ≤ (k : Int)) = false := decide_eq_false (by omega)
  have hz0 : ((z : Int) == 0) = false := beq_eq_false_iff_ne.2 (by omega)
  have HZ0 := Kept.mk (show sizeN (pl.length : Int) = (z : Int) by rw [szN_eq, hz])
  have HN := Kept.mk (show ((nextN was (pl.length : Int) : Nat) : Int) = (nx : Int) by rw [hnx])
  have HRM := Kept.mk (show ((roomN was (pl.length : Int) : Nat) : Int) = (rm : Int) by rw [hrm])
  have hw1 : was.length ≤ 1000 := hw
  clear hnx hrm hw
  subst hfull
  go_enter Tryz.func13, Tryz.ntmps13
  go_wp2_with fail
  generalize ((w.alloc (.cells #[.slice (some ⟨b, off, none⟩) F.pages.length cap, vw, .int .i64 F.fuse, .string ⟨F.torn.toArray⟩, .bool F.dead] 25)).alloc (.cells #[.slice none 0 0, .slice none 0 0, .int .i64 0, .string ⟨#[]⟩, .bool false] 25)) = W at *
  refine (rfcheck_any F _ W HV.out hf).mono ?_
  rintro e W1 ⟨rfl, hb⟩
  rewrite [HM.out]
  have hs1 := hb.size
  replace HX := Kept.mk (HX.out.keep hb)
  replace HR := Kept.mk (HR.out.keep hb)
  replace HB := Kept.mk (HB.out.trans (hb.mono HB.out.size))
  clear hb
  have kx0 := HX.out.cells.2 0 _ rfl
  have kx1 := HX.out.cells.2 1 _ rfl
  have kx2 := HX.out.cells.2 2 _ rfl
  have kx3 := HX.out.cells.2 3 _ rfl
  have kx4 := HX.out.cells.2 4 _ rfl
  have fx0 := HX.out.free 0
  have fx1 := HX.out.free 1
  have fx2 := HX.out.free 2
  have fx3 := HX.out.free 3
  have fx4 := HX.out.free 4
  go_wp2_with fail
  refine (refSize_any _ _).mono ?_
  rintro e W2 ⟨rfl, rfl⟩
  rewrite [HZ0.out]
  have kc := (HB.out.cell (p := ⟨b, off + k, none⟩) hb).trans HC.out
  go_wp2_with fail
  clear kc
  refine (refNext_any was (pl.length : Int) _ hw1).mono ?_
  rintro e W3 ⟨rfl, hbb⟩
  have hs3 := hbb.size
  replace HX := Kept.mk (HX.out.keep hbb)
  replace HR := Kept.mk (HR.out.keep hbb)
  replace HB := Kept.mk (HB.out.trans (hbb.mono HB.out.size))
  clear hbb kx0 kx1 kx2 kx3 kx4 fx0 fx1 fx2 fx3 fx4
  rewrite [HN.out]
  have kx0 := HX.out.cells.2 0 _ rfl
  have kx1 := HX.out.cells.2 1 _ rfl
  have kx2 := HX.out.cells.2 2 _ rfl
  have kx3 := HX.out.cells.2 3 _ rfl
  have kx4 := HX.out.cells.2 4 _ rfl
  have fx0 := HX.out.free 0
  have fx1 := HX.out.free 1
  have fx2 := HX.out.free 2
  have fx3 := HX.out.free 3
  have fx4 := HX.out.free 4
  go_wp2_with fail
  refine (refRoom_any was (pl.length : Int) _ (by omega)).mono ?_
  rintro e W4 ⟨rfl, rfl⟩
  rewrite [HRM.out]
  have HR2 := HR
  have HB2 := HB
  have K5 : Kept (Ones [.slice (some ⟨b, off, none⟩) F.pages.length cap, vw, .int .i64 F.fuse, .string ⟨F.torn.toArray⟩, .bool F.dead]) := ⟨⟨o1, o2, rfl, rfl, rfl, trivial⟩⟩
  go_wp2_with (have hz1 := K5; refine wpList_storeN 25 rfl (.tmp 6) (.tmp 46) rfl (w.heap.size + 1) [.slice (some ⟨b, off, none⟩) F.pages.length cap, vw, .int .i64 F.fuse, .string ⟨F.torn.toArray⟩, .bool F.dead] size_fl rfl rfl HR2.out.cells rfl HR2.out.free K5.out ?_; clear hz1 K5)
  have B := below_setN (show w.heap.size ≤ w.heap.size + 1 by omega) [.slice (some ⟨b, off, none⟩) F.pages.length cap, vw, .int .i64 F.fuse, .string ⟨F.torn.toArray⟩, .bool F.dead] 0 _ HB2.out
  exact bodyPost_ret (resultsN2 rfl _ _ (w.heap.size + 1) _ (.int .i64 4) size_fl agg_fl rfl rfl (HR2.out.all_ (l := [.slice (some ⟨b, off, none⟩) F.pages.length cap, vw, .int .i64 F.fuse, .string ⟨F.torn.toArray⟩, .bool F.dead]) rfl).cells) rfl ⟨_, rfl, ⟨.slice (some ⟨b, off, none⟩) F.pages.length cap, vw, rfl, stable_cells _ _ _ _ HP.out B, stable_cells _ _ _ _ HQ.out B⟩, B⟩
set_option maxRecDepth 100000 in
set_option maxHeartbeats 4000000 in
theorem rap_yes (F : Fl) (k : Nat) (pl : List UInt8) (v : Value) (w : World) (hv : isFl F v w) (hf : FewF F) (hs : pl.length ≤ 9223372036854775807) (hm : hasB F (k : Int) = true) (z nx rm : Nat) (hz : szN (pl.length : Int) = z) (hz1 : 0 < z) (hw : (F.pages.getD k []).length ≤ 1000) (hnx : nextN (F.pages.getD k []) (pl.length : Int) = nx) (hrm : roomN (F.pages.getD k []) (pl.length : Int) = rm) (hfull : ¬ nx = rm) (hpl : pl.length ≤ 1000) (hrl : (recL pl).length ≤ 1000000) (hq6 : nx * z ≤ 1000000) (hfz : F.fuse ≤ 9223372036854775807) (E : Int) (hE : progE F (k : Int) ((nx * z : Nat) : Int) (recL pl) = E) :
    Calls Tryz.prog 13 #[v, .int .i64 (k : Int), .string ⟨pl.toArray⟩] w fun e w' => ∃ v', e = .returned (.tuple #[v', .int .i64 E]) ∧ isFl (progF F (k : Int) ((nx * z : Nat) : Int) (recL pl)) v' w' ∧ Below w.heap.size w w' := by
  have HHF := Kept.mk (has_facts F k hm)
  obtain ⟨hk, h6, hwl, htl, hpg, hwr⟩ := HHF.out
  obtain ⟨was, hwas⟩ : ∃ was, F.pages[k]? = some was := ⟨_, List.getElem?_eq_getElem hk⟩
  have hwm : was.length ≤ 8192 := (hpg _ (List.mem_of_getElem? hwas)).2.1
  have hget1 : F.pages.getD k [] = was := by simp [List.getD_eq_getElem?_getD, hwas]
  have HW0 := Kept.mk (show was.length = (F.pages[0]'(by omega)).length by
    rw [(hpg _ (List.mem_of_getElem? hwas)).2.2, (hpg _ (List.getElem_mem (show 0 < F.pages.length by omega))).2.2])
  have HWAS := Kept.mk hwas
  rw [hget1] at hw hnx hrm
  have HWR := Kept.mk hwr
  have HM := Kept.mk (has_may hm)
  clear hpg hwr hwas hget1 hm
  obtain ⟨vp, vw, rfl, hpp, hqq⟩ := hv
  have o1 := hpp.one
  have o2 := hqq.one
  obtain ⟨b, off, cap, hvp, hb, hc⟩ := hpp.some_ (by rw [List.length_map]; omega)
  rw [List.length_map] at hvp
  subst hvp
  have HC := Kept.mk (show w.cell? ⟨b, off + k, none⟩ = some (.string ⟨was.toArray⟩) from hc k _ (by simp [HWAS.out, strC]))
  clear hc
  have HP := Kept.mk hpp
  have HQ := Kept.mk hqq
  have hb0 := (lit_below w (.cells #[.slice (some ⟨b, off, none⟩) F.pages.length cap, vw, .int .i64 F.fuse, .string ⟨F.torn.toArray⟩, .bool F.dead] 25)).trans ((lit_below (w.alloc (.cells #[.slice (some ⟨b, off, none⟩) F.pages.length cap, vw, .int .i64 F.fuse, .string ⟨F.torn.toArray⟩, .bool F.dead] 25)) (.cells #[.slice none 0 0, .slice none 0 0, .int .i64 0, .string ⟨#[]⟩, .bool false] 25)).mono (lit_below w (.cells #[.slice (some ⟨b, off, none⟩) F.pages.length cap, vw, .int .i64 F.fuse, .string ⟨F.torn.toArray⟩, .bool F.dead] 25)).size)
  have HB := Kept.mk hb0
  have HX := Kept.mk ((Blk.new w 25 [.slice (some ⟨b, off, none⟩) F.pages.length cap, vw, .int .i64 F.fuse, .string ⟨F.torn.toArray⟩, .bool F.dead] w.heap.size rfl).alloc (.cells #[.slice none 0 0, .slice none 0 0, .int .i64 0, .string ⟨#[]⟩, .bool false] 25))
  have HR := Kept.mk (Blk.new (w.alloc (.cells #[.slice (some ⟨b, off, none⟩) F.pages.length cap, vw, .int .i64 F.fuse, .string ⟨F.torn.toArray⟩, .bool F.dead] 25)) 25 [.slice none 0 0, .slice none 0 0, .int .i64 0, .string ⟨#[]⟩, .bool false] (w.heap.size + 1) (by simp))
  have HV := Kept.mk (show isFl F (.agg #[.slice (some ⟨b, off, none⟩) F.pages.length cap, vw, .int .i64 F.fuse, .string ⟨F.torn.toArray⟩, .bool F.dead]) ((w.alloc (.cells #[.slice (some ⟨b, off, none⟩) F.pages.length cap, vw, .int .i64 F.fuse, .string ⟨F.torn.toArray⟩, .bool F.dead] 25)).alloc (.cells #[.slice none 0 0, .slice none 0 0, .int .i64 0, .string ⟨#[]⟩, .bool false] 25)) from ⟨.slice (some ⟨b, off, none⟩) F.pages.length cap, vw, rfl, stable_cells _ _ _ _ hpp hb0, stable_cells _ _ _ _ hqq hb0⟩)
  have hs0 : ((w.alloc (.cells #[.slice (some ⟨b, off, none⟩) F.pages.length cap, vw, .int .i64 F.fuse, .string ⟨F.torn.toArray⟩, .bool F.dead] 25)).alloc (.cells #[.slice none 0 0, .slice none 0 0, .int .i64 0, .string ⟨#[]⟩, .bool false] 25)).heap.size = w.heap.size + 2 := by simp
  clear hb0 hpp hqq
  show Calls Tryz.prog 13 #[.agg #[.slice (some ⟨b, off, none⟩) F.pages.length cap, vw, .int .i64 F.fuse, .string ⟨F.torn.toArray⟩, .bool F.dead], .int .i64 (k : Int), .string ⟨pl.toArray⟩] w _
  have hsz : (⟨was.toArray⟩ : ByteArray).size = was.length := size_mk was
  have hss : (⟨pl.toArray⟩ : ByteArray).size = pl.length := size_mk pl
  have d1 : decide ((k : Int) < 0) = false := decide_eq_false (by omega)
  have d2 : decide ((F.pages.length : Int) ≤ (k : Int)) = false := decide_eq_false (by omega)
  have hz0 : ((z : Int) == 0) = false := beq_eq_false_iff_ne.2 (by omega)
  have HZ0 := Kept.mk (show sizeN (pl.length : Int) = (z : Int) by rw [szN_eq, hz])
  have HN := Kept.mk (show ((nextN was (pl.length : Int) : Nat) : Int) = (nx : Int) by rw [hnx])
  have HRM := Kept.mk (show ((roomN was (pl.length : Int) : Nat) : Int) = (rm : Int) by rw [hrm])
  have hw1 : was.length ≤ 1000 := hw
  clear hnx hrm hw
  have e0 : ((nx : Int) == (rm : Int)) = false := beq_eq_false_iff_ne.2 (by omega)
  obtain ⟨q, hq⟩ : ∃ q, nx * z = q := ⟨_, rfl⟩
  obtain ⟨rc, hrc⟩ : ∃ rc, recL pl = rc := ⟨_, rfl⟩
  rw [hq, hrc] at hE
  rw [hrc] at hrl
  rw [hq] at hq6
  rw [hq, hrc]
  have HQE := Kept.mk (And.intro hq (And.intro hrc (And.intro hz hE)))
  clear hq hrc hE
  go_enter Tryz.func13, Tryz.ntmps13
  go_wp2_with fail
  generalize ((w.alloc (.cells #[.slice (some ⟨b, off, none⟩) F.pages.length cap, vw, .int .i64 F.fuse, .string ⟨F.torn.toArray⟩, .bool F.dead] 25)).alloc (.cells #[.slice none 0 0, .slice none 0 0, .int .i64 0, .string ⟨#[]⟩, .bool false] 25)) = W at *
  refine (rfcheck_any F _ W HV.out hf).mono ?_
  rintro e W1 ⟨rfl, hb⟩
  rewrite [HM.out]
  have hs1 := hb.size
  replace HX := Kept.mk (HX.out.keep hb)
  replace HR := Kept.mk (HR.out.keep hb)
  replace HB := Kept.mk (HB.out.trans (hb.mono HB.out.size))
  clear hb
  have kx0 := HX.out.cells.2 0 _ rfl
  have kx1 := HX.out.cells.2 1 _ rfl
  have kx2 := HX.out.cells.2 2 _ rfl
  have kx3 := HX.out.cells.2 3 _ rfl
  have kx4 := HX.out.cells.2 4 _ rfl
  have fx0 := HX.out.free 0
  have fx1 := HX.out.free 1
  have fx2 := HX.out.free 2
  have fx3 := HX.out.free 3
  have fx4 := HX.out.free 4
  go_wp2_with fail
  refine (refSize_any _ _).mono ?_
  rintro e W2 ⟨rfl, rfl⟩
  rewrite [HZ0.out]
  have kc := (HB.out.cell (p := ⟨b, off + k, none⟩) hb).trans HC.out
  go_wp2_with fail
  clear kc
  refine (refNext_any was (pl.length : Int) _ hw1).mono ?_
  rintro e W3 ⟨rfl, hbb⟩
  have hs3 := hbb.size
  replace HX := Kept.mk (HX.out.keep hbb)
  replace HR := Kept.mk (HR.out.keep hbb)
  replace HB := Kept.mk (HB.out.trans (hbb.mono HB.out.size))
  clear hbb kx0 kx1 kx2 kx3 kx4 fx0 fx1 fx2 fx3 fx4
  rewrite [HN.out]
  have kx0 := HX.out.cells.2 0 _ rfl
  have kx1 := HX.out.cells.2 1 _ rfl
  have kx2 := HX.out.cells.2 2 _ rfl
  have kx3 := HX.out.cells.2 3 _ rfl
  have kx4 := HX.out.cells.2 4 _ rfl
  have fx0 := HX.out.free 0
  have fx1 := HX.out.free 1
  have fx2 := HX.out.free 2
  have fx3 := HX.out.free 3
  have fx4 := HX.out.free 4
  go_wp2_with fail
  refine (refRoom_any was (pl.length : Int) _ (by omega)).mono ?_
  rintro e W4 ⟨rfl, rfl⟩
  rewrite [HRM.out]
  go_wp2_with fail
  clear kx0 kx1 kx2 kx3 kx4 fx0 fx1 fx2 fx3 fx4
  have HP1 := Kept.mk (stable_cells _ _ _ _ HP.out HB.out)
  have HQ1 := Kept.mk (stable_cells _ _ _ _ HQ.out HB.out)
  refine ap8_region _ _ _ rfl F k nx z q w.heap.size (w.heap.size + 1) pl rc E (.slice (some ⟨b, off, none⟩) F.pages.length cap) vw HX.out HR.out HP1.out HQ1.out (fun b o c e hne hb => by subst hb; exact off_old HP.out (Nat.le_succ _) _ o c e hne rfl) (fun b o c e hne hb => by subst hb; exact off_old HQ.out (Nat.le_succ _) _ o c e hne rfl) hf hfz HQE.out.2.2.1 HQE.out.2.1 hrl hpl HQE.out.1 hq6 HQE.out.2.2.2 rfl rfl rfl rfl rfl rfl ?_
  intro y9 p q' W9 hcp hcq hop hoq hb9
  have HE := Kept.mk (below_setN (show w.heap.size ≤ w.heap.size + 1 by omega) [p, q', .int .i64 (progF F (k : Int) (q : Int) rc).fuse, .string ⟨(progF F (k : Int) (q : Int) rc).torn.toArray⟩, .bool (progF F (k : Int) (q : Int) rc).dead] 0 _ (HB.out.trans (hb9.mono HB.out.size)))
  have HF := Kept.mk ((HR.out.keep hb9).all_ (l := [p, q', .int .i64 (progF F (k : Int) (q : Int) rc).fuse, .string ⟨(progF F (k : Int) (q : Int) rc).torn.toArray⟩, .bool (progF F (k : Int) (q : Int) rc).dead]) rfl).cells
  have EP := Kept.mk (cells_apart hcp (fun b o c e hne hb => hop b o c e hne hb) 0 [p, q', .int .i64 (progF F (k : Int) (q : Int) rc).fuse, .string ⟨(progF F (k : Int) (q : Int) rc).torn.toArray⟩, .bool (progF F (k : Int) (q : Int) rc).dead])
  have EQ := Kept.mk (cells_apart hcq (fun b o c e hne hb => hoq b o c e hne hb) 0 [p, q', .int .i64 (progF F (k : Int) (q : Int) rc).fuse, .string ⟨(progF F (k : Int) (q : Int) rc).torn.toArray⟩, .bool (progF F (k : Int) (q : Int) rc).dead])
  clear hb9 hcp hcq hop hoq HP1 HQ1
  simp only [List.foldl_cons, List.foldl_nil]
  generalize y9 47 = z47
  generalize y9 48 = z48
  generalize y9 49 = z49
  generalize y9 50 = z50
  generalize y9 51 = z51
  generalize y9 52 = z52
  generalize y9 53 = z53
  generalize y9 54 = z54
  generalize y9 55 = z55
  generalize y9 56 = z56
  generalize y9 57 = z57
  generalize y9 7 = z7
  simp only [List.setIfInBounds_toArray, List.set_cons_succ, List.set_cons_zero]
  clear y9
  go_wp2
  exact bodyPost_ret (resultsN2 rfl _ _ (w.heap.size + 1) _ (.int .i64 E) size_fl agg_fl rfl rfl HF.out) rfl ⟨_, rfl, ⟨p, q', rfl, EP.out, EQ.out⟩, HE.out⟩
theorem rappend_any (F : Fl) (page : Int) (pl : List UInt8) (v : Value) (w : World) (hv : isFl F v w) (hf : FewF F) (hfz : F.fuse ≤ 9223372036854775807) (hs : pl.length ≤ 9223372036854775807) (hpl : pl.length ≤ 1000 ∨ 4000 < pl.length) (hpg : ∀ p ∈ F.pages, p.length ≤ 1000 ∨ 8192 < p.length) :
    Calls Tryz.prog 13 #[v, .int .i64 page, .string ⟨pl.toArray⟩] w fun e w' => ∃ v', e = .returned (.tuple #[v', .int .i64 (appE F page pl)]) ∧ isFl (appF F page pl) v' w' ∧ Below w.heap.size w w' := by
  cases hh : hasB F page with
  | false =>
    rw [show appE F page pl = 1 by simp [appE, appOk, hh], show appF F page pl = F by simp [appF, appOk, hh]]
    cases hm : mayB F with
    | false => exact rap_no1 F page pl v w hv hf hs hm
    | true =>
      by_cases h0 : page < 0
      · exact rap_no2 F page pl v w hv hf hs hm h0
      · refine rap_no3 F page pl v w hv hf hs hm h0 ?_
        unfold hasB at hh
        rw [hm, decide_eq_true (show 0 ≤ page by omega)] at hh
        have := of_decide_eq_false (show decide (page < (F.pages.length : Int)) = false by simpa using hh)
        omega
  | true =>
    obtain ⟨k, rfl⟩ := has_nat hh
    by_cases hz : szN (lenI pl) = 0
    · rw [show appE F k pl = 1 by simp [appE, appOk, hz], show appF F k pl = F by simp [appF, appOk, hz]]
      exact rap_no4 F k pl v w hv hf hs hh (by rw [show (pl.length : Int) = lenI pl from rfl, szN_eq, hz]; rfl)
    · have hfc := has_facts F k hh
      have hl8 := (hfc.2.2.2.2.1 F.pages[k] (List.getElem_mem hfc.1)).2.1
      have hw : (F.pages.getD k []).length ≤ 1000 := by
        rw [List.getD_eq_getElem?_getD, List.getElem?_eq_getElem hfc.1, Option.getD_some]
        rcases hpg _ (List.getElem_mem hfc.1) with h | h
        · exact h
        · omega
      have hpl' : pl.length ≤ 1000 := by
        rcases hpl with h | h
        · exact h
        · exfalso; apply hz; unfold szN sizeN lenI; rw [if_pos (by omega)]; rfl
      have hok : appOk F (k : Int) pl = true := by simp [appOk, hh, hz]
      have hpo : pageOf F (k : Int) = F.pages.getD k [] := by simp [pageOf]
      unfold appE appF
      rw [hok, hpo]
      simp only [Bool.true_eq_false, if_false]
      by_cases hfull : nextN (F.pages.getD k []) (lenI pl) = roomN (F.pages.getD k []) (lenI pl)
      · rw [if_pos hfull, if_pos hfull]
        exact rap_full F k pl v w hv hf hs hh _ _ _ rfl (Nat.pos_of_ne_zero hz) hw rfl rfl hfull
      · rw [if_neg hfull, if_neg hfull]
        refine rap_yes F k pl v w hv hf hs hh _ _ _ rfl (Nat.pos_of_ne_zero hz) hw rfl rfl hfull hpl' ?_ ?_ hfz _ rfl
        · unfold recL; rw [List.length_append, length_notL, length_sealL]; omega
        · have h1 : nextN (F.pages.getD k []) (lenI pl) ≤ roomN (F.pages.getD k []) (lenI pl) := tend_le _ _
          have h2 := roomN_le (F.pages.getD k []) (lenI pl)
          have h3 := Nat.mul_le_mul_right (szN (lenI pl)) h1
          exact Nat.le_trans h3 (Nat.le_trans h2 (by omega))
end Go.Proofs.YtpjafjnokgeifaaGreatDoor
end
section
namespace Go.Proofs.YtpjafjnokgeifaaGreatDoor
open Go.RowKit
set_option linter.unusedVariables false
set_option linter.unusedSimpArgs false
attribute [local irreducible] set5

def dv1 : Fl := ⟨[[255, 255, 255, 255, 255, 255, 255, 255, 255, 255, 255, 255, 255, 255, 255, 255, 255, 255, 255, 255, 255, 255, 255, 255, 255]], [0], (-1), [], false⟩
def dv2 : Fl := ⟨[[120, 131, 22, 220, 140, 135, 124, 233, 35, 115, 255, 255, 255, 255, 255, 255, 255, 255, 255, 255, 255, 255, 255, 255, 255]], [0], (-1), [], false⟩
def dv3 : Fl := ⟨[[120, 131, 22, 220, 140, 135, 124, 233, 35, 115, 121, 21, 38, 219, 251, 134, 234, 217, 36, 4, 255, 255, 255, 255, 255]], [0], (-1), [], false⟩

theorem c_new (w : World) : Calls Tryz.prog 39 #[.int .i64 1, .int .i64 25] w fun e w' => ∃ v', e = .returned (.tuple #[v', .int .i64 0]) ∧ isFlN w.heap.size dv1 v' w' ∧ Below w.heap.size w w' := by
  have h := new_any 1 25 w
  rwa [show newF 1 25 = dv1 by kernel_rfl, show newE 1 25 = 0 by kernel_rfl] at h
theorem c_app1 (v : Value) (w : World) (hv : isFl dv1 v w) : Calls Tryz.prog 12 #[v, .int .i64 0, .string ⟨#[120]⟩] w fun e w' => ∃ v', e = .returned (.tuple #[v', .int .i64 0]) ∧ isFlN w.heap.size dv2 v' w' ∧ Below w.heap.size w w' := by
  have h := append_any dv1 0 [120] v w hv (by decide) (by decide) (by decide) (.inl (by decide))
  rwa [show appF dv1 0 [120] = dv2 by kernel_rfl, show appE dv1 0 [120] = 0 by kernel_rfl] at h
theorem c_app2 (v : Value) (w : World) (hv : isFl dv2 v w) : Calls Tryz.prog 12 #[v, .int .i64 0, .string ⟨#[121]⟩] w fun e w' => ∃ v', e = .returned (.tuple #[v', .int .i64 0]) ∧ isFlN w.heap.size dv3 v' w' ∧ Below w.heap.size w w' := by
  have h := append_any dv2 0 [121] v w hv (by decide) (by decide) (by decide) (.inl (by decide))
  rwa [show appF dv2 0 [121] = dv3 by kernel_rfl, show appE dv2 0 [121] = 0 by kernel_rfl] at h
theorem c_app3 (v : Value) (w : World) (hv : isFl dv3 v w) : Calls Tryz.prog 12 #[v, .int .i64 0, .string ⟨#[122]⟩] w fun e w' => ∃ v', e = .returned (.tuple #[v', .int .i64 4]) ∧ isFlN w.heap.size dv3 v' w' ∧ Below w.heap.size w w' := by
  have h := append_any dv3 0 [122] v w hv (by decide) (by decide) (by decide) (.inl (by decide))
  rwa [show appF dv3 0 [122] = dv3 by kernel_rfl, show appE dv3 0 [122] = 4 by kernel_rfl] at h
theorem c_app4 (v : Value) (w : World) (hv : isFl dv3 v w) : Calls Tryz.prog 12 #[v, .int .i64 1, .string ⟨#[122]⟩] w fun e w' => ∃ v', e = .returned (.tuple #[v', .int .i64 1]) ∧ isFlN w.heap.size dv3 v' w' ∧ Below w.heap.size w w' := by
  have h := append_any dv3 1 [122] v w hv (by decide) (by decide) (by decide) (.inl (by decide))
  rwa [show appF dv3 1 [122] = dv3 by kernel_rfl, show appE dv3 1 [122] = 1 by kernel_rfl] at h
theorem f_room (w : World) : Calls Tryz.prog 41 #[.string ⟨[255, 255, 255, 255, 255, 255, 255, 255, 255, 255, 255, 255, 255, 255, 255, 255, 255, 255, 255, 255, 255, 255, 255, 255, 255].toArray⟩, .int .i64 1] w fun e w' => ∃ x, e = .returned x ∧ isVal (.int .i64 2) x w' ∧ Below w.heap.size w w' := by
  have h := room_any [255, 255, 255, 255, 255, 255, 255, 255, 255, 255, 255, 255, 255, 255, 255, 255, 255, 255, 255, 255, 255, 255, 255, 255, 255] 1 w (by decide)
  rw [show roomN [255, 255, 255, 255, 255, 255, 255, 255, 255, 255, 255, 255, 255, 255, 255, 255, 255, 255, 255, 255, 255, 255, 255, 255, 255] 1 = 2 by kernel_rfl] at h
  refine h.mono ?_
  rintro e w' ⟨rfl, rfl⟩
  exact ⟨_, rfl, rfl, Below.refl _ _⟩
theorem f_next0 (w : World) : Calls Tryz.prog 42 #[.string ⟨[255, 255, 255, 255, 255, 255, 255, 255, 255, 255, 255, 255, 255, 255, 255, 255, 255, 255, 255, 255, 255, 255, 255, 255, 255].toArray⟩, .int .i64 1] w fun e w' => ∃ x, e = .returned x ∧ isVal (.int .i64 0) x w' ∧ Below w.heap.size w w' := by
  have h := next_any [255, 255, 255, 255, 255, 255, 255, 255, 255, 255, 255, 255, 255, 255, 255, 255, 255, 255, 255, 255, 255, 255, 255, 255, 255] 1 w (by decide) (.inl (by decide))
  rw [show nextN [255, 255, 255, 255, 255, 255, 255, 255, 255, 255, 255, 255, 255, 255, 255, 255, 255, 255, 255, 255, 255, 255, 255, 255, 255] 1 = 0 by kernel_rfl] at h
  refine h.mono ?_
  rintro e w' ⟨rfl, hb⟩
  exact ⟨_, rfl, rfl, hb⟩
theorem f_bad0 (w : World) : Calls Tryz.prog 43 #[.string ⟨[255, 255, 255, 255, 255, 255, 255, 255, 255, 255, 255, 255, 255, 255, 255, 255, 255, 255, 255, 255, 255, 255, 255, 255, 255].toArray⟩, .int .i64 1] w fun e w' => ∃ x, e = .returned x ∧ isVal (.int .i64 0) x w' ∧ Below w.heap.size w w' := by
  have h := bad_any [255, 255, 255, 255, 255, 255, 255, 255, 255, 255, 255, 255, 255, 255, 255, 255, 255, 255, 255, 255, 255, 255, 255, 255, 255] 1 w (by decide) (.inl (by decide))
  rw [show badN [255, 255, 255, 255, 255, 255, 255, 255, 255, 255, 255, 255, 255, 255, 255, 255, 255, 255, 255, 255, 255, 255, 255, 255, 255] 1 = 0 by kernel_rfl] at h
  refine h.mono ?_
  rintro e w' ⟨rfl, hb⟩
  exact ⟨_, rfl, rfl, hb⟩
theorem f_next2 (w : World) : Calls Tryz.prog 42 #[.string ⟨[120, 131, 22, 220, 140, 135, 124, 233, 35, 115, 121, 21, 38, 219, 251, 134, 234, 217, 36, 4, 255, 255, 255, 255, 255].toArray⟩, .int .i64 1] w fun e w' => ∃ x, e = .returned x ∧ isVal (.int .i64 2) x w' ∧ Below w.heap.size w w' := by
  have h := next_any [120, 131, 22, 220, 140, 135, 124, 233, 35, 115, 121, 21, 38, 219, 251, 134, 234, 217, 36, 4, 255, 255, 255, 255, 255] 1 w (by decide) (.inl (by decide))
  rw [show nextN [120, 131, 22, 220, 140, 135, 124, 233, 35, 115, 121, 21, 38, 219, 251, 134, 234, 217, 36, 4, 255, 255, 255, 255, 255] 1 = 2 by kernel_rfl] at h
  refine h.mono ?_
  rintro e w' ⟨rfl, hb⟩
  exact ⟨_, rfl, rfl, hb⟩
theorem f_slot1 (w : World) : Calls Tryz.prog 45 #[.string ⟨[120, 131, 22, 220, 140, 135, 124, 233, 35, 115, 121, 21, 38, 219, 251, 134, 234, 217, 36, 4, 255, 255, 255, 255, 255].toArray⟩, .int .i64 1, .int .i64 1] w fun e w' => ∃ x, e = .returned x ∧ isVal (.string ⟨[121, 21, 38, 219, 251, 134, 234, 217, 36, 4].toArray⟩) x w' ∧ Below w.heap.size w w' := by
  have h := slot_any [120, 131, 22, 220, 140, 135, 124, 233, 35, 115, 121, 21, 38, 219, 251, 134, 234, 217, 36, 4, 255, 255, 255, 255, 255] 1 1 w (by decide)
  rw [show slotI [120, 131, 22, 220, 140, 135, 124, 233, 35, 115, 121, 21, 38, 219, 251, 134, 234, 217, 36, 4, 255, 255, 255, 255, 255] 1 1 = [121, 21, 38, 219, 251, 134, 234, 217, 36, 4] by kernel_rfl] at h
  refine h.mono ?_
  rintro e w' ⟨rfl, rfl⟩
  exact ⟨_, rfl, rfl, Below.refl _ _⟩
theorem f_slot2 (w : World) : Calls Tryz.prog 45 #[.string ⟨[255, 255, 255, 255, 255, 255, 255, 255, 255, 255, 255, 255, 255, 255, 255, 255, 255, 255, 255, 255, 255, 255, 255, 255, 255].toArray⟩, .int .i64 1, .int .i64 2] w fun e w' => ∃ x, e = .returned x ∧ isVal (.string ⟨[].toArray⟩) x w' ∧ Below w.heap.size w w' := by
  have h := slot_any [255, 255, 255, 255, 255, 255, 255, 255, 255, 255, 255, 255, 255, 255, 255, 255, 255, 255, 255, 255, 255, 255, 255, 255, 255] 1 2 w (by decide)
  rw [show slotI [255, 255, 255, 255, 255, 255, 255, 255, 255, 255, 255, 255, 255, 255, 255, 255, 255, 255, 255, 255, 255, 255, 255, 255, 255] 1 2 = [] by kernel_rfl] at h
  refine h.mono ?_
  rintro e w' ⟨rfl, rfl⟩
  exact ⟨_, rfl, rfl, Below.refl _ _⟩
theorem f_make (w : World) : Calls Tryz.prog 46 #[.string ⟨[121].toArray⟩] w fun e w' => ∃ x, e = .returned x ∧ isVal (.string ⟨[121, 21, 38, 219, 251, 134, 234, 217, 36, 4].toArray⟩) x w' ∧ Below w.heap.size w w' := by
  have h := make_any [121] w (by decide)
  rw [show recL [121] = [121, 21, 38, 219, 251, 134, 234, 217, 36, 4] by kernel_rfl] at h
  refine h.mono ?_
  rintro e w' ⟨rfl, hb⟩
  exact ⟨_, rfl, rfl, hb⟩
def wO : List UInt8 := [255, 255, 255, 255, 255, 255, 255, 255, 255, 255, 255, 255, 255, 255, 255, 255, 255, 255, 255, 255, 255, 255, 255, 255, 255]
def wCat5 : List UInt8 := wO.take 5 ++ [97, 98, 99, 100, 101]
def wCat : List UInt8 := wCat5 ++ wO.drop 10
set_option maxRecDepth 20000 in
theorem f_bad1 (w : World) : Calls Tryz.prog 43 #[.string ⟨wCat.toArray⟩, .int .i64 1] w fun e w' => ∃ x, e = .returned x ∧ isVal (.int .i64 1) x w' ∧ Below w.heap.size w w' := by
  have h := bad_any wCat 1 w (by decide) (.inl (by decide))
  rw [show badN wCat 1 = 1 by kernel_rfl] at h
  refine h.mono ?_
  rintro e w' ⟨rfl, hb⟩
  exact ⟨_, rfl, rfl, hb⟩
theorem c_recs (w : World) : Calls Tryz.prog 40 #[.string ⟨[120, 131, 22, 220, 140, 135, 124, 233, 35, 115, 121, 21, 38, 219, 251, 134, 234, 217, 36, 4, 255, 255, 255, 255, 255].toArray⟩, .int .i64 1] w fun e W' => ∃ v, e = .returned v ∧ isCells [strC [120], strC [121]] v W' ∧ Below w.heap.size w W' := by
  have h := records_any [120, 131, 22, 220, 140, 135, 124, 233, 35, 115, 121, 21, 38, 219, 251, 134, 234, 217, 36, 4, 255, 255, 255, 255, 255] 1 w (by decide) (.inl (by decide))
  rwa [show (recordsL [120, 131, 22, 220, 140, 135, 124, 233, 35, 115, 121, 21, 38, 219, 251, 134, 234, 217, 36, 4, 255, 255, 255, 255, 255] 1).map strC = [strC [120], strC [121]] by kernel_rfl] at h

theorem f_texts (v12 u v : Value) (w : World) (hu : isVal v12 u w) (h1 : isCells [strC [120], strC [121]] v12 w) (h2 : isCells [strC [120], strC [121]] v w) : Calls Tryz.prog 44 #[u, v] w fun e w' => ∃ x, e = .returned x ∧ isVal (.bool true) x w' ∧ Below w.heap.size w w' := by
  have hu' : u = v12 := hu
  subst hu'
  refine (refTexts_any [[120], [121]] [[120], [121]] u v w h1 h2 (by decide) (by decide)).mono ?_
  rintro e w' ⟨rfl, hb⟩
  exact ⟨_, rfl, by simp [isVal], hb⟩
noncomputable def worksOps : Array Oper := regionOf Tryz.f10 12
set_option maxRecDepth 100000 in
set_option maxHeartbeats 4000000 in
theorem works_region (Q : Exit → Act → World → Prop) (a0 : Act) (w0 : World) (hsz : a0.tmps.size = 124) (gc bc oc cc dc qc sc : Nat) (v12 : Value) (h12 : isCells [strC [120], strC [121]] v12 w0) (e2 : a0.tmps.getD 2 undef = .int .i64 0) (e3 : a0.tmps.getD 3 undef = .string ⟨[255, 255, 255, 255, 255, 255, 255, 255, 255, 255, 255, 255, 255, 255, 255, 255, 255, 255, 255, 255, 255, 255, 255, 255, 255].toArray⟩) (e5 : a0.tmps.getD 5 undef = .int .i64 0) (e7 : a0.tmps.getD 7 undef = .int .i64 0) (e9 : a0.tmps.getD 9 undef = .int .i64 4) (e11 : a0.tmps.getD 11 undef = .int .i64 1) (e12 : a0.tmps.getD 12 undef = v12) (e6 : a0.tmps.getD 6 undef = .pointer (some ⟨gc, 0, none⟩))
    (Cc : Cells5 w0 gc (.slice (some ⟨bc, oc, none⟩) 1 cc) (.slice (some ⟨dc, qc, none⟩) 1 sc) (.int .i64 dv3.fuse) (strC dv3.torn) (.bool dv3.dead)) (lbc : bc < w0.heap.size) (Pc : ∀ (j : Nat) (p : List UInt8), dv3.pages[j]? = some p → w0.cell? ⟨bc, oc + j, none⟩ = some (.string ⟨p.toArray⟩))
    (hQ : ∀ (a : Act) (w : World), a.defers = a0.defers → a.tmps.getD 0 undef = .bool true → Below w0.heap.size w0 w → Q .normal a w) :
    (Code.region 12 worksOps true).wp Tryz.prog Q a0 w0 := by
  obtain ⟨istr, histr, hzstr, hsstr, _⟩ := info_parts Tryz.infoStr
  refine wp_region_flow mixed (by rw [hsz]; kernel_rfl) ?_
  rw [show worksOps.size = 71 by kernel_rfl]
  refine ⟨isVal (.int .i64 0), step_move (.tmp 2) (by kernel_rfl) (wanted_none (by kernel_rfl)) (stable_val _) (knows_old 2 (.int .i64 0) (by kernel_rfl) e2), ?_⟩
  refine ⟨isVal (.bool true), step_bin .eql 28 28 (.tmp 54) (.const (.int .i64 0)) (.int .i64 0) (.int .i64 0) (.bool true) (by kernel_rfl) (wanted_none (by kernel_rfl)) (knows_new (V := isVal (.int .i64 0)) 54 0 (by kernel_rfl) (by kernel_rfl) (by kernel_rfl)) (knows_const _) (fun _ => rfl) (eql_int _ _ _ _ _ (by decide)), ?_⟩
  refine ⟨isVal (.bool true), step_move (.tmp 55) (by kernel_rfl) (wanted_none (by kernel_rfl)) (stable_val _) (knows_new (V := isVal (.bool true)) 55 1 (by kernel_rfl) (by kernel_rfl) (by kernel_rfl)), ?_⟩
  refine ⟨isVal (.string ⟨[255, 255, 255, 255, 255, 255, 255, 255, 255, 255, 255, 255, 255, 255, 255, 255, 255, 255, 255, 255, 255, 255, 255, 255, 255].toArray⟩), step_move (.tmp 3) (by kernel_rfl) (wanted_some 2 56 true (by kernel_rfl) (by kernel_rfl) (by kernel_rfl) (by kernel_rfl)) (stable_val _) (knows_old 3 (.string ⟨[255, 255, 255, 255, 255, 255, 255, 255, 255, 255, 255, 255, 255, 255, 255, 255, 255, 255, 255, 255, 255, 255, 255, 255, 255].toArray⟩) (by kernel_rfl) e3), ?_⟩
  refine ⟨isVal (.int .i64 2), step_call 41 #[.tmp 57, .const (.int .i64 1)] #[9, 3] #[.string ⟨[255, 255, 255, 255, 255, 255, 255, 255, 255, 255, 255, 255, 255, 255, 255, 255, 255, 255, 255, 255, 255, 255, 255, 255, 255].toArray⟩, .int .i64 1] (by kernel_rfl) (wanted_some 2 56 true (by kernel_rfl) (by kernel_rfl) (by kernel_rfl) (by kernel_rfl)) (stable_val _) (args2 (.tmp 57) (.const (.int .i64 1)) (.string ⟨[255, 255, 255, 255, 255, 255, 255, 255, 255, 255, 255, 255, 255, 255, 255, 255, 255, 255, 255, 255, 255, 255, 255, 255, 255].toArray⟩) (.int .i64 1) (knows_new (V := isVal (.string ⟨[255, 255, 255, 255, 255, 255, 255, 255, 255, 255, 255, 255, 255, 255, 255, 255, 255, 255, 255, 255, 255, 255, 255, 255, 255].toArray⟩)) 57 3 (by kernel_rfl) (by kernel_rfl) (by kernel_rfl)) (knows_const _)) (enters_of Tryz.func41 (by kernel_rfl) rfl) (by intro w hb; exact f_room w), ?_⟩
  refine ⟨isVal (.bool true), step_bin .eql 3 3 (.tmp 58) (.const (.int .i64 2)) (.int .i64 2) (.int .i64 2) (.bool true) (by kernel_rfl) (wanted_some 2 56 true (by kernel_rfl) (by kernel_rfl) (by kernel_rfl) (by kernel_rfl)) (knows_new (V := isVal (.int .i64 2)) 58 4 (by kernel_rfl) (by kernel_rfl) (by kernel_rfl)) (knows_const _) (fun _ => rfl) (eql_int _ _ _ _ _ (by decide)), ?_⟩
  refine ⟨isVal (.bool true), step_pick (.tmp 56) (.tmp 59) (.const (.bool false)) true (by kernel_rfl) (wanted_none (by kernel_rfl)) (stable_val _) (knows_new (V := isVal (.bool true)) 56 2 (by kernel_rfl) (by kernel_rfl) (by kernel_rfl)) (knows_new (V := isVal (.bool true)) 59 5 (by kernel_rfl) (by kernel_rfl) (by kernel_rfl)), ?_⟩
  refine ⟨isVal (.bool true), step_move (.tmp 60) (by kernel_rfl) (wanted_none (by kernel_rfl)) (stable_val _) (knows_new (V := isVal (.bool true)) 60 6 (by kernel_rfl) (by kernel_rfl) (by kernel_rfl)), ?_⟩
  refine ⟨isVal (.string ⟨[255, 255, 255, 255, 255, 255, 255, 255, 255, 255, 255, 255, 255, 255, 255, 255, 255, 255, 255, 255, 255, 255, 255, 255, 255].toArray⟩), step_move (.tmp 3) (by kernel_rfl) (wanted_some 7 61 true (by kernel_rfl) (by kernel_rfl) (by kernel_rfl) (by kernel_rfl)) (stable_val _) (knows_old 3 (.string ⟨[255, 255, 255, 255, 255, 255, 255, 255, 255, 255, 255, 255, 255, 255, 255, 255, 255, 255, 255, 255, 255, 255, 255, 255, 255].toArray⟩) (by kernel_rfl) e3), ?_⟩
  refine ⟨isVal (.int .i64 0), step_call 42 #[.tmp 62, .const (.int .i64 1)] #[9, 3] #[.string ⟨[255, 255, 255, 255, 255, 255, 255, 255, 255, 255, 255, 255, 255, 255, 255, 255, 255, 255, 255, 255, 255, 255, 255, 255, 255].toArray⟩, .int .i64 1] (by kernel_rfl) (wanted_some 7 61 true (by kernel_rfl) (by kernel_rfl) (by kernel_rfl) (by kernel_rfl)) (stable_val _) (args2 (.tmp 62) (.const (.int .i64 1)) (.string ⟨[255, 255, 255, 255, 255, 255, 255, 255, 255, 255, 255, 255, 255, 255, 255, 255, 255, 255, 255, 255, 255, 255, 255, 255, 255].toArray⟩) (.int .i64 1) (knows_new (V := isVal (.string ⟨[255, 255, 255, 255, 255, 255, 255, 255, 255, 255, 255, 255, 255, 255, 255, 255, 255, 255, 255, 255, 255, 255, 255, 255, 255].toArray⟩)) 62 8 (by kernel_rfl) (by kernel_rfl) (by kernel_rfl)) (knows_const _)) (enters_of Tryz.func42 (by kernel_rfl) rfl) (by intro w hb; exact f_next0 w), ?_⟩
  refine ⟨isVal (.bool true), step_bin .eql 3 3 (.tmp 63) (.const (.int .i64 0)) (.int .i64 0) (.int .i64 0) (.bool true) (by kernel_rfl) (wanted_some 7 61 true (by kernel_rfl) (by kernel_rfl) (by kernel_rfl) (by kernel_rfl)) (knows_new (V := isVal (.int .i64 0)) 63 9 (by kernel_rfl) (by kernel_rfl) (by kernel_rfl)) (knows_const _) (fun _ => rfl) (eql_int _ _ _ _ _ (by decide)), ?_⟩
  refine ⟨isVal (.bool true), step_pick (.tmp 61) (.tmp 64) (.const (.bool false)) true (by kernel_rfl) (wanted_none (by kernel_rfl)) (stable_val _) (knows_new (V := isVal (.bool true)) 61 7 (by kernel_rfl) (by kernel_rfl) (by kernel_rfl)) (knows_new (V := isVal (.bool true)) 64 10 (by kernel_rfl) (by kernel_rfl) (by kernel_rfl)), ?_⟩
  refine ⟨isVal (.bool true), step_move (.tmp 65) (by kernel_rfl) (wanted_none (by kernel_rfl)) (stable_val _) (knows_new (V := isVal (.bool true)) 65 11 (by kernel_rfl) (by kernel_rfl) (by kernel_rfl)), ?_⟩
  refine ⟨isVal (.string ⟨[255, 255, 255, 255, 255, 255, 255, 255, 255, 255, 255, 255, 255, 255, 255, 255, 255, 255, 255, 255, 255, 255, 255, 255, 255].toArray⟩), step_move (.tmp 3) (by kernel_rfl) (wanted_some 12 66 true (by kernel_rfl) (by kernel_rfl) (by kernel_rfl) (by kernel_rfl)) (stable_val _) (knows_old 3 (.string ⟨[255, 255, 255, 255, 255, 255, 255, 255, 255, 255, 255, 255, 255, 255, 255, 255, 255, 255, 255, 255, 255, 255, 255, 255, 255].toArray⟩) (by kernel_rfl) e3), ?_⟩
  refine ⟨isVal (.int .i64 0), step_call 43 #[.tmp 67, .const (.int .i64 1)] #[9, 3] #[.string ⟨[255, 255, 255, 255, 255, 255, 255, 255, 255, 255, 255, 255, 255, 255, 255, 255, 255, 255, 255, 255, 255, 255, 255, 255, 255].toArray⟩, .int .i64 1] (by kernel_rfl) (wanted_some 12 66 true (by kernel_rfl) (by kernel_rfl) (by kernel_rfl) (by kernel_rfl)) (stable_val _) (args2 (.tmp 67) (.const (.int .i64 1)) (.string ⟨[255, 255, 255, 255, 255, 255, 255, 255, 255, 255, 255, 255, 255, 255, 255, 255, 255, 255, 255, 255, 255, 255, 255, 255, 255].toArray⟩) (.int .i64 1) (knows_new (V := isVal (.string ⟨[255, 255, 255, 255, 255, 255, 255, 255, 255, 255, 255, 255, 255, 255, 255, 255, 255, 255, 255, 255, 255, 255, 255, 255, 255].toArray⟩)) 67 13 (by kernel_rfl) (by kernel_rfl) (by kernel_rfl)) (knows_const _)) (enters_of Tryz.func43 (by kernel_rfl) rfl) (by intro w hb; exact f_bad0 w), ?_⟩
  refine ⟨isVal (.bool true), step_bin .eql 3 3 (.tmp 68) (.const (.int .i64 0)) (.int .i64 0) (.int .i64 0) (.bool true) (by kernel_rfl) (wanted_some 12 66 true (by kernel_rfl) (by kernel_rfl) (by kernel_rfl) (by kernel_rfl)) (knows_new (V := isVal (.int .i64 0)) 68 14 (by kernel_rfl) (by kernel_rfl) (by kernel_rfl)) (knows_const _) (fun _ => rfl) (eql_int _ _ _ _ _ (by decide)), ?_⟩
  refine ⟨isVal (.bool true), step_pick (.tmp 66) (.tmp 69) (.const (.bool false)) true (by kernel_rfl) (wanted_none (by kernel_rfl)) (stable_val _) (knows_new (V := isVal (.bool true)) 66 12 (by kernel_rfl) (by kernel_rfl) (by kernel_rfl)) (knows_new (V := isVal (.bool true)) 69 15 (by kernel_rfl) (by kernel_rfl) (by kernel_rfl)), ?_⟩
  refine ⟨isVal (.bool true), step_move (.tmp 70) (by kernel_rfl) (wanted_none (by kernel_rfl)) (stable_val _) (knows_new (V := isVal (.bool true)) 70 16 (by kernel_rfl) (by kernel_rfl) (by kernel_rfl)), ?_⟩
  refine ⟨isVal (.int .i64 0), step_move (.tmp 5) (by kernel_rfl) (wanted_some 17 71 true (by kernel_rfl) (by kernel_rfl) (by kernel_rfl) (by kernel_rfl)) (stable_val _) (knows_old 5 (.int .i64 0) (by kernel_rfl) e5), ?_⟩
  refine ⟨isVal (.bool true), step_bin .eql 28 28 (.tmp 72) (.const (.int .i64 0)) (.int .i64 0) (.int .i64 0) (.bool true) (by kernel_rfl) (wanted_some 17 71 true (by kernel_rfl) (by kernel_rfl) (by kernel_rfl) (by kernel_rfl)) (knows_new (V := isVal (.int .i64 0)) 72 18 (by kernel_rfl) (by kernel_rfl) (by kernel_rfl)) (knows_const _) (fun _ => rfl) (eql_int _ _ _ _ _ (by decide)), ?_⟩
  refine ⟨isVal (.bool true), step_pick (.tmp 71) (.tmp 73) (.const (.bool false)) true (by kernel_rfl) (wanted_none (by kernel_rfl)) (stable_val _) (knows_new (V := isVal (.bool true)) 71 17 (by kernel_rfl) (by kernel_rfl) (by kernel_rfl)) (knows_new (V := isVal (.bool true)) 73 19 (by kernel_rfl) (by kernel_rfl) (by kernel_rfl)), ?_⟩
  refine ⟨isVal (.bool true), step_move (.tmp 74) (by kernel_rfl) (wanted_none (by kernel_rfl)) (stable_val _) (knows_new (V := isVal (.bool true)) 74 20 (by kernel_rfl) (by kernel_rfl) (by kernel_rfl)), ?_⟩
  refine ⟨isVal (.int .i64 0), step_move (.tmp 7) (by kernel_rfl) (wanted_some 21 75 true (by kernel_rfl) (by kernel_rfl) (by kernel_rfl) (by kernel_rfl)) (stable_val _) (knows_old 7 (.int .i64 0) (by kernel_rfl) e7), ?_⟩
  refine ⟨isVal (.bool true), step_bin .eql 28 28 (.tmp 76) (.const (.int .i64 0)) (.int .i64 0) (.int .i64 0) (.bool true) (by kernel_rfl) (wanted_some 21 75 true (by kernel_rfl) (by kernel_rfl) (by kernel_rfl) (by kernel_rfl)) (knows_new (V := isVal (.int .i64 0)) 76 22 (by kernel_rfl) (by kernel_rfl) (by kernel_rfl)) (knows_const _) (fun _ => rfl) (eql_int _ _ _ _ _ (by decide)), ?_⟩
  refine ⟨isVal (.bool true), step_pick (.tmp 75) (.tmp 77) (.const (.bool false)) true (by kernel_rfl) (wanted_none (by kernel_rfl)) (stable_val _) (knows_new (V := isVal (.bool true)) 75 21 (by kernel_rfl) (by kernel_rfl) (by kernel_rfl)) (knows_new (V := isVal (.bool true)) 77 23 (by kernel_rfl) (by kernel_rfl) (by kernel_rfl)), ?_⟩
  refine ⟨isVal (.bool true), step_move (.tmp 78) (by kernel_rfl) (wanted_none (by kernel_rfl)) (stable_val _) (knows_new (V := isVal (.bool true)) 78 24 (by kernel_rfl) (by kernel_rfl) (by kernel_rfl)), ?_⟩
  refine ⟨isVal (.int .i64 4), step_move (.tmp 9) (by kernel_rfl) (wanted_some 25 79 true (by kernel_rfl) (by kernel_rfl) (by kernel_rfl) (by kernel_rfl)) (stable_val _) (knows_old 9 (.int .i64 4) (by kernel_rfl) e9), ?_⟩
  refine ⟨isVal (.bool true), step_bin .eql 28 28 (.tmp 80) (.const (.int .i64 4)) (.int .i64 4) (.int .i64 4) (.bool true) (by kernel_rfl) (wanted_some 25 79 true (by kernel_rfl) (by kernel_rfl) (by kernel_rfl) (by kernel_rfl)) (knows_new (V := isVal (.int .i64 4)) 80 26 (by kernel_rfl) (by kernel_rfl) (by kernel_rfl)) (knows_const _) (fun _ => rfl) (eql_int _ _ _ _ _ (by decide)), ?_⟩
  refine ⟨isVal (.bool true), step_pick (.tmp 79) (.tmp 81) (.const (.bool false)) true (by kernel_rfl) (wanted_none (by kernel_rfl)) (stable_val _) (knows_new (V := isVal (.bool true)) 79 25 (by kernel_rfl) (by kernel_rfl) (by kernel_rfl)) (knows_new (V := isVal (.bool true)) 81 27 (by kernel_rfl) (by kernel_rfl) (by kernel_rfl)), ?_⟩
  refine ⟨isVal (.bool true), step_move (.tmp 82) (by kernel_rfl) (wanted_none (by kernel_rfl)) (stable_val _) (knows_new (V := isVal (.bool true)) 82 28 (by kernel_rfl) (by kernel_rfl) (by kernel_rfl)), ?_⟩
  refine ⟨isVal (.int .i64 1), step_move (.tmp 11) (by kernel_rfl) (wanted_some 29 83 true (by kernel_rfl) (by kernel_rfl) (by kernel_rfl) (by kernel_rfl)) (stable_val _) (knows_old 11 (.int .i64 1) (by kernel_rfl) e11), ?_⟩
  refine ⟨isVal (.bool true), step_bin .eql 28 28 (.tmp 84) (.const (.int .i64 1)) (.int .i64 1) (.int .i64 1) (.bool true) (by kernel_rfl) (wanted_some 29 83 true (by kernel_rfl) (by kernel_rfl) (by kernel_rfl) (by kernel_rfl)) (knows_new (V := isVal (.int .i64 1)) 84 30 (by kernel_rfl) (by kernel_rfl) (by kernel_rfl)) (knows_const _) (fun _ => rfl) (eql_int _ _ _ _ _ (by decide)), ?_⟩
  refine ⟨isVal (.bool true), step_pick (.tmp 83) (.tmp 85) (.const (.bool false)) true (by kernel_rfl) (wanted_none (by kernel_rfl)) (stable_val _) (knows_new (V := isVal (.bool true)) 83 29 (by kernel_rfl) (by kernel_rfl) (by kernel_rfl)) (knows_new (V := isVal (.bool true)) 85 31 (by kernel_rfl) (by kernel_rfl) (by kernel_rfl)), ?_⟩
  refine ⟨isVal (.bool true), step_move (.tmp 86) (by kernel_rfl) (wanted_none (by kernel_rfl)) (stable_val _) (knows_new (V := isVal (.bool true)) 86 32 (by kernel_rfl) (by kernel_rfl) (by kernel_rfl)), ?_⟩
  refine ⟨isVal v12, step_move (.tmp 12) (by kernel_rfl) (wanted_some 33 87 true (by kernel_rfl) (by kernel_rfl) (by kernel_rfl) (by kernel_rfl)) (stable_val _) (knows_old 12 v12 (by kernel_rfl) e12), ?_⟩
  refine ⟨isCells [strC [120], strC [121]], step_strs2 22 9 [120] [121] istr (by kernel_rfl) (wanted_some 33 87 true (by kernel_rfl) (by kernel_rfl) (by kernel_rfl) (by kernel_rfl)) Tryz.underlying22 histr hzstr hsstr, ?_⟩
  refine ⟨isVal (.bool true), step_callP 44 #[.tmp 88, .tmp 89] #[22, 22] (by kernel_rfl) (wanted_some 33 87 true (by kernel_rfl) (by kernel_rfl) (by kernel_rfl) (by kernel_rfl)) (stable_val _) (enters_of Tryz.func44 (by kernel_rfl) rfl) (fun vs w => ∃ u v, vs = #[u, v] ∧ isVal v12 u w ∧ isCells [strC [120], strC [121]] v w) (pre2 (knows_new (V := isVal v12) 88 34 (by kernel_rfl) (by kernel_rfl) (by kernel_rfl)) (knows_new (V := (isCells [strC [120], strC [121]])) 89 35 (by kernel_rfl) (by kernel_rfl) (by kernel_rfl))) (by rintro vs w hb ⟨u, v, rfl, hu, hv⟩; exact f_texts v12 u v w hu (stable_cells _ _ _ _ h12 hb) hv), ?_⟩
  refine ⟨isVal (.bool true), step_pick (.tmp 87) (.tmp 90) (.const (.bool false)) true (by kernel_rfl) (wanted_none (by kernel_rfl)) (stable_val _) (knows_new (V := isVal (.bool true)) 87 33 (by kernel_rfl) (by kernel_rfl) (by kernel_rfl)) (knows_new (V := isVal (.bool true)) 90 36 (by kernel_rfl) (by kernel_rfl) (by kernel_rfl)), ?_⟩
  refine ⟨isVal (.bool true), step_move (.tmp 91) (by kernel_rfl) (wanted_none (by kernel_rfl)) (stable_val _) (knows_new (V := isVal (.bool true)) 91 37 (by kernel_rfl) (by kernel_rfl) (by kernel_rfl)), ?_⟩
  refine ⟨isVal (.pointer (some ⟨gc, 0, none⟩)), step_field 25 (.tmp 6) 0 ⟨gc, 0, none⟩ ⟨gc, 0, none⟩ (by kernel_rfl) (wanted_some 38 92 true (by kernel_rfl) (by kernel_rfl) (by kernel_rfl) (by kernel_rfl)) (knows_old 6 (.pointer (some ⟨gc, 0, none⟩)) (by kernel_rfl) e6) (field_fl gc 0 (by omega)), ?_⟩
  refine ⟨isVal (.slice (some ⟨bc, oc, none⟩) 1 cc), step_read 22 (.tmp 93) ⟨gc, 0, none⟩ (.slice (some ⟨bc, oc, none⟩) 1 cc) (by kernel_rfl) (wanted_some 38 92 true (by kernel_rfl) (by kernel_rfl) (by kernel_rfl) (by kernel_rfl)) (knows_new (V := isVal (.pointer (some ⟨gc, 0, none⟩))) 93 39 (by kernel_rfl) (by kernel_rfl) (by kernel_rfl)) Cc.2.1 Cc.1 agg_strs, ?_⟩
  refine ⟨isVal (.pointer (some ⟨bc, oc + 0, none⟩)), step_place 22 9 (.tmp 94) (.const (.int .i64 0)) bc oc 1 cc 0 (by kernel_rfl) (wanted_some 38 92 true (by kernel_rfl) (by kernel_rfl) (by kernel_rfl) (by kernel_rfl)) (knows_new (V := isVal (.slice (some ⟨bc, oc, none⟩) 1 cc)) 94 40 (by kernel_rfl) (by kernel_rfl) (by kernel_rfl)) (knows_const _) Tryz.underlying22 (by kernel_rfl) (by decide), ?_⟩
  refine ⟨isVal (.string ⟨[120, 131, 22, 220, 140, 135, 124, 233, 35, 115, 121, 21, 38, 219, 251, 134, 234, 217, 36, 4, 255, 255, 255, 255, 255].toArray⟩), step_read 9 (.tmp 95) ⟨bc, oc + 0, none⟩ (.string ⟨[120, 131, 22, 220, 140, 135, 124, 233, 35, 115, 121, 21, 38, 219, 251, 134, 234, 217, 36, 4, 255, 255, 255, 255, 255].toArray⟩) (by kernel_rfl) (wanted_some 38 92 true (by kernel_rfl) (by kernel_rfl) (by kernel_rfl) (by kernel_rfl)) (knows_new (V := isVal (.pointer (some ⟨bc, oc + 0, none⟩))) 95 41 (by kernel_rfl) (by kernel_rfl) (by kernel_rfl)) (Pc 0 _ rfl) lbc agg_str, ?_⟩
  refine ⟨isVal (.int .i64 2), step_call 42 #[.tmp 96, .const (.int .i64 1)] #[9, 3] #[.string ⟨[120, 131, 22, 220, 140, 135, 124, 233, 35, 115, 121, 21, 38, 219, 251, 134, 234, 217, 36, 4, 255, 255, 255, 255, 255].toArray⟩, .int .i64 1] (by kernel_rfl) (wanted_some 38 92 true (by kernel_rfl) (by kernel_rfl) (by kernel_rfl) (by kernel_rfl)) (stable_val _) (args2 (.tmp 96) (.const (.int .i64 1)) (.string ⟨[120, 131, 22, 220, 140, 135, 124, 233, 35, 115, 121, 21, 38, 219, 251, 134, 234, 217, 36, 4, 255, 255, 255, 255, 255].toArray⟩) (.int .i64 1) (knows_new (V := isVal (.string ⟨[120, 131, 22, 220, 140, 135, 124, 233, 35, 115, 121, 21, 38, 219, 251, 134, 234, 217, 36, 4, 255, 255, 255, 255, 255].toArray⟩)) 96 42 (by kernel_rfl) (by kernel_rfl) (by kernel_rfl)) (knows_const _)) (enters_of Tryz.func42 (by kernel_rfl) rfl) (by intro w hb; exact f_next2 w), ?_⟩
  refine ⟨isVal (.bool true), step_bin .eql 3 3 (.tmp 97) (.const (.int .i64 2)) (.int .i64 2) (.int .i64 2) (.bool true) (by kernel_rfl) (wanted_some 38 92 true (by kernel_rfl) (by kernel_rfl) (by kernel_rfl) (by kernel_rfl)) (knows_new (V := isVal (.int .i64 2)) 97 43 (by kernel_rfl) (by kernel_rfl) (by kernel_rfl)) (knows_const _) (fun _ => rfl) (eql_int _ _ _ _ _ (by decide)), ?_⟩
  refine ⟨isVal (.bool true), step_pick (.tmp 92) (.tmp 98) (.const (.bool false)) true (by kernel_rfl) (wanted_none (by kernel_rfl)) (stable_val _) (knows_new (V := isVal (.bool true)) 92 38 (by kernel_rfl) (by kernel_rfl) (by kernel_rfl)) (knows_new (V := isVal (.bool true)) 98 44 (by kernel_rfl) (by kernel_rfl) (by kernel_rfl)), ?_⟩
  refine ⟨isVal (.bool true), step_move (.tmp 99) (by kernel_rfl) (wanted_none (by kernel_rfl)) (stable_val _) (knows_new (V := isVal (.bool true)) 99 45 (by kernel_rfl) (by kernel_rfl) (by kernel_rfl)), ?_⟩
  refine ⟨isVal (.pointer (some ⟨gc, 0, none⟩)), step_field 25 (.tmp 6) 0 ⟨gc, 0, none⟩ ⟨gc, 0, none⟩ (by kernel_rfl) (wanted_some 46 100 true (by kernel_rfl) (by kernel_rfl) (by kernel_rfl) (by kernel_rfl)) (knows_old 6 (.pointer (some ⟨gc, 0, none⟩)) (by kernel_rfl) e6) (field_fl gc 0 (by omega)), ?_⟩
  refine ⟨isVal (.slice (some ⟨bc, oc, none⟩) 1 cc), step_read 22 (.tmp 101) ⟨gc, 0, none⟩ (.slice (some ⟨bc, oc, none⟩) 1 cc) (by kernel_rfl) (wanted_some 46 100 true (by kernel_rfl) (by kernel_rfl) (by kernel_rfl) (by kernel_rfl)) (knows_new (V := isVal (.pointer (some ⟨gc, 0, none⟩))) 101 47 (by kernel_rfl) (by kernel_rfl) (by kernel_rfl)) Cc.2.1 Cc.1 agg_strs, ?_⟩
  refine ⟨isVal (.pointer (some ⟨bc, oc + 0, none⟩)), step_place 22 9 (.tmp 102) (.const (.int .i64 0)) bc oc 1 cc 0 (by kernel_rfl) (wanted_some 46 100 true (by kernel_rfl) (by kernel_rfl) (by kernel_rfl) (by kernel_rfl)) (knows_new (V := isVal (.slice (some ⟨bc, oc, none⟩) 1 cc)) 102 48 (by kernel_rfl) (by kernel_rfl) (by kernel_rfl)) (knows_const _) Tryz.underlying22 (by kernel_rfl) (by decide), ?_⟩
  refine ⟨isVal (.string ⟨[120, 131, 22, 220, 140, 135, 124, 233, 35, 115, 121, 21, 38, 219, 251, 134, 234, 217, 36, 4, 255, 255, 255, 255, 255].toArray⟩), step_read 9 (.tmp 103) ⟨bc, oc + 0, none⟩ (.string ⟨[120, 131, 22, 220, 140, 135, 124, 233, 35, 115, 121, 21, 38, 219, 251, 134, 234, 217, 36, 4, 255, 255, 255, 255, 255].toArray⟩) (by kernel_rfl) (wanted_some 46 100 true (by kernel_rfl) (by kernel_rfl) (by kernel_rfl) (by kernel_rfl)) (knows_new (V := isVal (.pointer (some ⟨bc, oc + 0, none⟩))) 103 49 (by kernel_rfl) (by kernel_rfl) (by kernel_rfl)) (Pc 0 _ rfl) lbc agg_str, ?_⟩
  refine ⟨isVal (.string ⟨[121, 21, 38, 219, 251, 134, 234, 217, 36, 4].toArray⟩), step_call 45 #[.tmp 104, .const (.int .i64 1), .const (.int .i64 1)] #[9, 3, 3] #[.string ⟨[120, 131, 22, 220, 140, 135, 124, 233, 35, 115, 121, 21, 38, 219, 251, 134, 234, 217, 36, 4, 255, 255, 255, 255, 255].toArray⟩, .int .i64 1, .int .i64 1] (by kernel_rfl) (wanted_some 46 100 true (by kernel_rfl) (by kernel_rfl) (by kernel_rfl) (by kernel_rfl)) (stable_val _) (args3 (.tmp 104) (.const (.int .i64 1)) (.const (.int .i64 1)) (.string ⟨[120, 131, 22, 220, 140, 135, 124, 233, 35, 115, 121, 21, 38, 219, 251, 134, 234, 217, 36, 4, 255, 255, 255, 255, 255].toArray⟩) (.int .i64 1) (.int .i64 1) (knows_new (V := isVal (.string ⟨[120, 131, 22, 220, 140, 135, 124, 233, 35, 115, 121, 21, 38, 219, 251, 134, 234, 217, 36, 4, 255, 255, 255, 255, 255].toArray⟩)) 104 50 (by kernel_rfl) (by kernel_rfl) (by kernel_rfl)) (knows_const _) (knows_const _)) (enters_of Tryz.func45 (by kernel_rfl) rfl) (by intro w hb; exact f_slot1 w), ?_⟩
  refine ⟨isVal (.string ⟨[121, 21, 38, 219, 251, 134, 234, 217, 36, 4].toArray⟩), step_call 46 #[.const (.string ⟨[121].toArray⟩)] #[9] #[.string ⟨[121].toArray⟩] (by kernel_rfl) (wanted_some 46 100 true (by kernel_rfl) (by kernel_rfl) (by kernel_rfl) (by kernel_rfl)) (stable_val _) (args1 (.const (.string ⟨[121].toArray⟩)) (.string ⟨[121].toArray⟩) (knows_const _)) (enters_of Tryz.func46 (by kernel_rfl) rfl) (by intro w hb; exact f_make w), ?_⟩
  refine ⟨isVal (.bool true), step_bin .eql 9 9 (.tmp 105) (.tmp 106) (.string ⟨[121, 21, 38, 219, 251, 134, 234, 217, 36, 4].toArray⟩) (.string ⟨[121, 21, 38, 219, 251, 134, 234, 217, 36, 4].toArray⟩) (.bool true) (by kernel_rfl) (wanted_some 46 100 true (by kernel_rfl) (by kernel_rfl) (by kernel_rfl) (by kernel_rfl)) (knows_new (V := isVal (.string ⟨[121, 21, 38, 219, 251, 134, 234, 217, 36, 4].toArray⟩)) 105 51 (by kernel_rfl) (by kernel_rfl) (by kernel_rfl)) (knows_new (V := isVal (.string ⟨[121, 21, 38, 219, 251, 134, 234, 217, 36, 4].toArray⟩)) 106 52 (by kernel_rfl) (by kernel_rfl) (by kernel_rfl)) (fun _ => rfl) (eql_str _ _ _ _ (by decide)), ?_⟩
  refine ⟨isVal (.bool true), step_pick (.tmp 100) (.tmp 107) (.const (.bool false)) true (by kernel_rfl) (wanted_none (by kernel_rfl)) (stable_val _) (knows_new (V := isVal (.bool true)) 100 46 (by kernel_rfl) (by kernel_rfl) (by kernel_rfl)) (knows_new (V := isVal (.bool true)) 107 53 (by kernel_rfl) (by kernel_rfl) (by kernel_rfl)), ?_⟩
  refine ⟨isVal (.bool true), step_move (.tmp 108) (by kernel_rfl) (wanted_none (by kernel_rfl)) (stable_val _) (knows_new (V := isVal (.bool true)) 108 54 (by kernel_rfl) (by kernel_rfl) (by kernel_rfl)), ?_⟩
  refine ⟨isVal (.string ⟨[255, 255, 255, 255, 255, 255, 255, 255, 255, 255, 255, 255, 255, 255, 255, 255, 255, 255, 255, 255, 255, 255, 255, 255, 255].toArray⟩), step_move (.tmp 3) (by kernel_rfl) (wanted_some 55 109 true (by kernel_rfl) (by kernel_rfl) (by kernel_rfl) (by kernel_rfl)) (stable_val _) (knows_old 3 (.string ⟨[255, 255, 255, 255, 255, 255, 255, 255, 255, 255, 255, 255, 255, 255, 255, 255, 255, 255, 255, 255, 255, 255, 255, 255, 255].toArray⟩) (by kernel_rfl) e3), ?_⟩
  refine ⟨isVal (.string ⟨[].toArray⟩), step_call 45 #[.tmp 110, .const (.int .i64 1), .const (.int .i64 2)] #[9, 3, 3] #[.string ⟨[255, 255, 255, 255, 255, 255, 255, 255, 255, 255, 255, 255, 255, 255, 255, 255, 255, 255, 255, 255, 255, 255, 255, 255, 255].toArray⟩, .int .i64 1, .int .i64 2] (by kernel_rfl) (wanted_some 55 109 true (by kernel_rfl) (by kernel_rfl) (by kernel_rfl) (by kernel_rfl)) (stable_val _) (args3 (.tmp 110) (.const (.int .i64 1)) (.const (.int .i64 2)) (.string ⟨[255, 255, 255, 255, 255, 255, 255, 255, 255, 255, 255, 255, 255, 255, 255, 255, 255, 255, 255, 255, 255, 255, 255, 255, 255].toArray⟩) (.int .i64 1) (.int .i64 2) (knows_new (V := isVal (.string ⟨[255, 255, 255, 255, 255, 255, 255, 255, 255, 255, 255, 255, 255, 255, 255, 255, 255, 255, 255, 255, 255, 255, 255, 255, 255].toArray⟩)) 110 56 (by kernel_rfl) (by kernel_rfl) (by kernel_rfl)) (knows_const _) (knows_const _)) (enters_of Tryz.func45 (by kernel_rfl) rfl) (by intro w hb; exact f_slot2 w), ?_⟩
  refine ⟨isVal (.bool true), step_bin .eql 9 9 (.tmp 111) (.const (.string ⟨[].toArray⟩)) (.string ⟨[].toArray⟩) (.string ⟨[].toArray⟩) (.bool true) (by kernel_rfl) (wanted_some 55 109 true (by kernel_rfl) (by kernel_rfl) (by kernel_rfl) (by kernel_rfl)) (knows_new (V := isVal (.string ⟨[].toArray⟩)) 111 57 (by kernel_rfl) (by kernel_rfl) (by kernel_rfl)) (knows_const _) (fun _ => rfl) (eql_str _ _ _ _ (by decide)), ?_⟩
  refine ⟨isVal (.bool true), step_pick (.tmp 109) (.tmp 112) (.const (.bool false)) true (by kernel_rfl) (wanted_none (by kernel_rfl)) (stable_val _) (knows_new (V := isVal (.bool true)) 109 55 (by kernel_rfl) (by kernel_rfl) (by kernel_rfl)) (knows_new (V := isVal (.bool true)) 112 58 (by kernel_rfl) (by kernel_rfl) (by kernel_rfl)), ?_⟩
  refine ⟨isVal (.bool true), step_move (.tmp 113) (by kernel_rfl) (wanted_none (by kernel_rfl)) (stable_val _) (knows_new (V := isVal (.bool true)) 113 59 (by kernel_rfl) (by kernel_rfl) (by kernel_rfl)), ?_⟩
  refine ⟨isVal (.string ⟨[255, 255, 255, 255, 255, 255, 255, 255, 255, 255, 255, 255, 255, 255, 255, 255, 255, 255, 255, 255, 255, 255, 255, 255, 255].toArray⟩), step_move (.tmp 3) (by kernel_rfl) (wanted_some 60 114 true (by kernel_rfl) (by kernel_rfl) (by kernel_rfl) (by kernel_rfl)) (stable_val _) (knows_old 3 (.string ⟨[255, 255, 255, 255, 255, 255, 255, 255, 255, 255, 255, 255, 255, 255, 255, 255, 255, 255, 255, 255, 255, 255, 255, 255, 255].toArray⟩) (by kernel_rfl) e3), ?_⟩
  refine ⟨isVal (.string ⟨([255, 255, 255, 255, 255, 255, 255, 255, 255, 255, 255, 255, 255, 255, 255, 255, 255, 255, 255, 255, 255, 255, 255, 255, 255].take 5).toArray⟩), step_head 9 (.tmp 115) (.const (.int .i64 5)) [255, 255, 255, 255, 255, 255, 255, 255, 255, 255, 255, 255, 255, 255, 255, 255, 255, 255, 255, 255, 255, 255, 255, 255, 255] 5 (by kernel_rfl) (wanted_some 60 114 true (by kernel_rfl) (by kernel_rfl) (by kernel_rfl) (by kernel_rfl)) (knows_new (V := isVal (.string ⟨[255, 255, 255, 255, 255, 255, 255, 255, 255, 255, 255, 255, 255, 255, 255, 255, 255, 255, 255, 255, 255, 255, 255, 255, 255].toArray⟩)) 115 61 (by kernel_rfl) (by kernel_rfl) (by kernel_rfl)) (knows_const _) (head_str [255, 255, 255, 255, 255, 255, 255, 255, 255, 255, 255, 255, 255, 255, 255, 255, 255, 255, 255, 255, 255, 255, 255, 255, 255] 5 (by decide)), ?_⟩
  refine ⟨isVal (.string ⟨wCat5.toArray⟩), step_bin .add 9 9 (.tmp 116) (.const (.string ⟨[97, 98, 99, 100, 101].toArray⟩)) (.string ⟨([255, 255, 255, 255, 255, 255, 255, 255, 255, 255, 255, 255, 255, 255, 255, 255, 255, 255, 255, 255, 255, 255, 255, 255, 255].take 5).toArray⟩) (.string ⟨[97, 98, 99, 100, 101].toArray⟩) (.string ⟨wCat5.toArray⟩) (by kernel_rfl) (wanted_some 60 114 true (by kernel_rfl) (by kernel_rfl) (by kernel_rfl) (by kernel_rfl)) (knows_new (V := isVal (.string ⟨([255, 255, 255, 255, 255, 255, 255, 255, 255, 255, 255, 255, 255, 255, 255, 255, 255, 255, 255, 255, 255, 255, 255, 255, 255].take 5).toArray⟩)) 116 62 (by kernel_rfl) (by kernel_rfl) (by kernel_rfl)) (knows_const _) (fun _ => rfl) (fun W => run_string_add_lists W (wO.take 5) [97, 98, 99, 100, 101] (by decide) (by decide)), ?_⟩
  refine ⟨isVal (.string ⟨[255, 255, 255, 255, 255, 255, 255, 255, 255, 255, 255, 255, 255, 255, 255, 255, 255, 255, 255, 255, 255, 255, 255, 255, 255].toArray⟩), step_move (.tmp 3) (by kernel_rfl) (wanted_some 60 114 true (by kernel_rfl) (by kernel_rfl) (by kernel_rfl) (by kernel_rfl)) (stable_val _) (knows_old 3 (.string ⟨[255, 255, 255, 255, 255, 255, 255, 255, 255, 255, 255, 255, 255, 255, 255, 255, 255, 255, 255, 255, 255, 255, 255, 255, 255].toArray⟩) (by kernel_rfl) e3), ?_⟩
  refine ⟨isVal (.string ⟨([255, 255, 255, 255, 255, 255, 255, 255, 255, 255, 255, 255, 255, 255, 255, 255, 255, 255, 255, 255, 255, 255, 255, 255, 255].drop 10).toArray⟩), step_rest 9 (.tmp 118) (.const (.int .i64 10)) [255, 255, 255, 255, 255, 255, 255, 255, 255, 255, 255, 255, 255, 255, 255, 255, 255, 255, 255, 255, 255, 255, 255, 255, 255] 10 (by kernel_rfl) (wanted_some 60 114 true (by kernel_rfl) (by kernel_rfl) (by kernel_rfl) (by kernel_rfl)) (knows_new (V := isVal (.string ⟨[255, 255, 255, 255, 255, 255, 255, 255, 255, 255, 255, 255, 255, 255, 255, 255, 255, 255, 255, 255, 255, 255, 255, 255, 255].toArray⟩)) 118 64 (by kernel_rfl) (by kernel_rfl) (by kernel_rfl)) (knows_const _) (rest_str [255, 255, 255, 255, 255, 255, 255, 255, 255, 255, 255, 255, 255, 255, 255, 255, 255, 255, 255, 255, 255, 255, 255, 255, 255] 10 (by decide)), ?_⟩
  refine ⟨isVal (.string ⟨wCat.toArray⟩), step_bin .add 9 9 (.tmp 117) (.tmp 119) (.string ⟨wCat5.toArray⟩) (.string ⟨([255, 255, 255, 255, 255, 255, 255, 255, 255, 255, 255, 255, 255, 255, 255, 255, 255, 255, 255, 255, 255, 255, 255, 255, 255].drop 10).toArray⟩) (.string ⟨wCat.toArray⟩) (by kernel_rfl) (wanted_some 60 114 true (by kernel_rfl) (by kernel_rfl) (by kernel_rfl) (by kernel_rfl)) (knows_new (V := isVal (.string ⟨wCat5.toArray⟩)) 117 63 (by kernel_rfl) (by kernel_rfl) (by kernel_rfl)) (knows_new (V := isVal (.string ⟨([255, 255, 255, 255, 255, 255, 255, 255, 255, 255, 255, 255, 255, 255, 255, 255, 255, 255, 255, 255, 255, 255, 255, 255, 255].drop 10).toArray⟩)) 119 65 (by kernel_rfl) (by kernel_rfl) (by kernel_rfl)) (fun _ => rfl) (fun W => run_string_add_lists W wCat5 (wO.drop 10) (by decide) (by decide)), ?_⟩
  refine ⟨isVal (.int .i64 1), step_call 43 #[.tmp 120, .const (.int .i64 1)] #[9, 3] #[.string ⟨wCat.toArray⟩, .int .i64 1] (by kernel_rfl) (wanted_some 60 114 true (by kernel_rfl) (by kernel_rfl) (by kernel_rfl) (by kernel_rfl)) (stable_val _) (args2 (.tmp 120) (.const (.int .i64 1)) (.string ⟨wCat.toArray⟩) (.int .i64 1) (knows_new (V := isVal (.string ⟨wCat.toArray⟩)) 120 66 (by kernel_rfl) (by kernel_rfl) (by kernel_rfl)) (knows_const _)) (enters_of Tryz.func43 (by kernel_rfl) rfl) (by intro w hb; exact f_bad1 w), ?_⟩
  refine ⟨isVal (.bool true), step_bin .eql 3 3 (.tmp 121) (.const (.int .i64 1)) (.int .i64 1) (.int .i64 1) (.bool true) (by kernel_rfl) (wanted_some 60 114 true (by kernel_rfl) (by kernel_rfl) (by kernel_rfl) (by kernel_rfl)) (knows_new (V := isVal (.int .i64 1)) 121 67 (by kernel_rfl) (by kernel_rfl) (by kernel_rfl)) (knows_const _) (fun _ => rfl) (eql_int _ _ _ _ _ (by decide)), ?_⟩
  refine ⟨isVal (.bool true), step_pick (.tmp 114) (.tmp 122) (.const (.bool false)) true (by kernel_rfl) (wanted_none (by kernel_rfl)) (stable_val _) (knows_new (V := isVal (.bool true)) 114 60 (by kernel_rfl) (by kernel_rfl) (by kernel_rfl)) (knows_new (V := isVal (.bool true)) 122 68 (by kernel_rfl) (by kernel_rfl) (by kernel_rfl)), ?_⟩
  refine ⟨isVal (.bool true), step_assign (.tmp 123) (by kernel_rfl) (wanted_none (by kernel_rfl)) (stable_val _) (knows_new (V := isVal (.bool true)) 123 69 (by kernel_rfl) (by kernel_rfl) (by kernel_rfl)), ?_⟩
  intro a w hkp hb hd
  exact hQ a w hkp.1 (fdone_of (hd 70 (by rw [show worksOps.size = 71 by kernel_rfl]; decide)) (t := 0) (V := isVal (.bool true)) (by kernel_rfl) (by kernel_rfl)) hb

set_option maxRecDepth 100000 in
set_option maxHeartbeats 4000000 in
theorem works_any (w : World) : Calls Tryz.prog 10 #[] w fun e w' => e = .returned (.bool true) ∧ Below w.heap.size w w' := by
  have hB : Kept (Below w.heap.size w w) := ⟨Below.refl _ _⟩
  go_enter Tryz.func10, Tryz.ntmps10
  go_wp2_with fail
  ((with_reducible refine (c_new _).mono ?_); rintro e U ⟨v', rfl, hf', hb1⟩)
  obtain ⟨vp', vw', rfl, hp', hq'⟩ := hf'.fl
  have o1 := hp'.one
  have o2 := hq'.one
  obtain ⟨K1, K2, K3, K4⟩ := var_new U dv1 vp' vw' hp' hq'
  clear hp' hq' hf'
  replace hB := Kept.mk (hB.out.trans ((hb1).mono hB.out.size))
  clear hb1
  go_wp2_with (refine wpList_store5 rfl (.tmp 1) (.tmp 15) rfl U.heap.size vp' vw' (.int .i64 dv1.fuse) (strC dv1.torn) (.bool dv1.dead) rfl rfl K1.out K2.out o1 o2 rfl rfl rfl ?_; replace hB := Kept.mk (hB.out.trans ((K3.out).mono hB.out.size)); have Va := K4; clear K1 K2 K3 K4 o1 o2; generalize set5 (U.alloc (.cells #[.slice none 0 0, .slice none 0 0, .int .i64 0, .string ⟨#[]⟩, .bool false] 25)) U.heap.size vp' vw' (.int .i64 dv1.fuse) (strC dv1.torn) (.bool dv1.dead) = W1 at *; generalize U.heap.size = ga at *; obtain ⟨ba, oa, ca, da, qa, sa, Ca, fla, lba, lda, Pa, Ra⟩ := Va.out.rows (n := 1) (m := 1) rfl rfl (by decide) (by decide); have kap := Pa 0 _ rfl; obtain ⟨_, ka0, ka1, ka2, ka3, ka4⟩ := Ca; rw [Nat.add_zero] at kap; clear Pa Ra lba lda)
  ((with_reducible refine (c_app1 _ _ fla).mono ?_); rintro e U ⟨v', rfl, hf', hb1⟩)
  obtain ⟨vp', vw', rfl, hp', hq'⟩ := hf'.fl
  have o1 := hp'.one
  have o2 := hq'.one
  obtain ⟨K1, K2, K3, K4⟩ := var_new U dv2 vp' vw' hp' hq'
  clear hp' hq' hf'
  replace hB := Kept.mk (hB.out.trans ((hb1).mono hB.out.size))
  replace Va := Kept.mk (Va.out.keep (hb1))
  clear hb1
  go_wp2_with (refine wpList_store5 rfl (.tmp 4) (.tmp 28) rfl U.heap.size vp' vw' (.int .i64 dv2.fuse) (strC dv2.torn) (.bool dv2.dead) rfl rfl K1.out K2.out o1 o2 rfl rfl rfl ?_; replace hB := Kept.mk (hB.out.trans ((K3.out).mono hB.out.size)); replace Va := Kept.mk (Va.out.keep (K3.out)); have Vb := K4; clear K1 K2 K3 K4 o1 o2; generalize set5 (U.alloc (.cells #[.slice none 0 0, .slice none 0 0, .int .i64 0, .string ⟨#[]⟩, .bool false] 25)) U.heap.size vp' vw' (.int .i64 dv2.fuse) (strC dv2.torn) (.bool dv2.dead) = W2 at *; generalize U.heap.size = gb at *; obtain ⟨vpb, vwb, flb, kb0, kb1, kb2, kb3, kb4⟩ := Vb.out.open_; clear kap ka0 ka1 ka2 ka3 ka4 fla)
  ((with_reducible refine (c_app2 _ _ flb).mono ?_); rintro e U ⟨v', rfl, hf', hb1⟩)
  obtain ⟨vp', vw', rfl, hp', hq'⟩ := hf'.fl
  have o1 := hp'.one
  have o2 := hq'.one
  obtain ⟨K1, K2, K3, K4⟩ := var_new U dv3 vp' vw' hp' hq'
  clear hp' hq' hf'
  clear kb0 kb1 kb2 kb3 kb4 flb
  replace hB := Kept.mk (hB.out.trans ((hb1).mono hB.out.size))
  replace Va := Kept.mk (Va.out.keep (hb1))
  replace Vb := Kept.mk (Vb.out.keep (hb1))
  clear hb1
  go_wp2_with (refine wpList_store5 rfl (.tmp 6) (.tmp 33) rfl U.heap.size vp' vw' (.int .i64 dv3.fuse) (strC dv3.torn) (.bool dv3.dead) rfl rfl K1.out K2.out o1 o2 rfl rfl rfl ?_; replace hB := Kept.mk (hB.out.trans ((K3.out).mono hB.out.size)); replace Va := Kept.mk (Va.out.keep (K3.out)); replace Vb := Kept.mk (Vb.out.keep (K3.out)); have Vc := K4; clear K1 K2 K3 K4 o1 o2; generalize set5 (U.alloc (.cells #[.slice none 0 0, .slice none 0 0, .int .i64 0, .string ⟨#[]⟩, .bool false] 25)) U.heap.size vp' vw' (.int .i64 dv3.fuse) (strC dv3.torn) (.bool dv3.dead) = W3 at *; generalize U.heap.size = gc at *; obtain ⟨vpc, vwc, flc, kc0, kc1, kc2, kc3, kc4⟩ := Vc.out.open_)
  ((with_reducible refine (c_app3 _ _ flc).mono ?_); rintro e U ⟨v', rfl, hf', hb1⟩)
  obtain ⟨vp', vw', rfl, hp', hq'⟩ := hf'.fl
  have o1 := hp'.one
  have o2 := hq'.one
  obtain ⟨K1, K2, K3, K4⟩ := var_new U dv3 vp' vw' hp' hq'
  clear hp' hq' hf'
  clear kc0 kc1 kc2 kc3 kc4 flc
  replace hB := Kept.mk (hB.out.trans ((hb1).mono hB.out.size))
  replace Va := Kept.mk (Va.out.keep (hb1))
  replace Vb := Kept.mk (Vb.out.keep (hb1))
  replace Vc := Kept.mk (Vc.out.keep (hb1))
  clear hb1
  go_wp2_with (refine wpList_store5 rfl (.tmp 8) (.tmp 38) rfl U.heap.size vp' vw' (.int .i64 dv3.fuse) (strC dv3.torn) (.bool dv3.dead) rfl rfl K1.out K2.out o1 o2 rfl rfl rfl ?_; replace hB := Kept.mk (hB.out.trans ((K3.out).mono hB.out.size)); replace Va := Kept.mk (Va.out.keep (K3.out)); replace Vb := Kept.mk (Vb.out.keep (K3.out)); replace Vc := Kept.mk (Vc.out.keep (K3.out)); have Vd := K4; clear K1 K2 K3 K4 o1 o2; generalize set5 (U.alloc (.cells #[.slice none 0 0, .slice none 0 0, .int .i64 0, .string ⟨#[]⟩, .bool false] 25)) U.heap.size vp' vw' (.int .i64 dv3.fuse) (strC dv3.torn) (.bool dv3.dead) = W4 at *; generalize U.heap.size = gd at *; obtain ⟨vpc, vwc, flc, kc0, kc1, kc2, kc3, kc4⟩ := Vc.out.open_)
  ((with_reducible refine (c_app4 _ _ flc).mono ?_); rintro e U ⟨v', rfl, hf', hb1⟩)
  obtain ⟨vp', vw', rfl, hp', hq'⟩ := hf'.fl
  have o1 := hp'.one
  have o2 := hq'.one
  obtain ⟨K1, K2, K3, K4⟩ := var_new U dv3 vp' vw' hp' hq'
  clear hp' hq' hf'
  clear kc0 kc1 kc2 kc3 kc4 flc
  replace hB := Kept.mk (hB.out.trans ((hb1).mono hB.out.size))
  replace Va := Kept.mk (Va.out.keep (hb1))
  replace Vb := Kept.mk (Vb.out.keep (hb1))
  replace Vc := Kept.mk (Vc.out.keep (hb1))
  replace Vd := Kept.mk (Vd.out.keep (hb1))
  clear hb1
  go_wp2_with (refine wpList_store5 rfl (.tmp 10) (.tmp 43) rfl U.heap.size vp' vw' (.int .i64 dv3.fuse) (strC dv3.torn) (.bool dv3.dead) rfl rfl K1.out K2.out o1 o2 rfl rfl rfl ?_; replace hB := Kept.mk (hB.out.trans ((K3.out).mono hB.out.size)); replace Va := Kept.mk (Va.out.keep (K3.out)); replace Vb := Kept.mk (Vb.out.keep (K3.out)); replace Vc := Kept.mk (Vc.out.keep (K3.out)); replace Vd := Kept.mk (Vd.out.keep (K3.out)); have Ve := K4; clear K1 K2 K3 K4 o1 o2; generalize set5 (U.alloc (.cells #[.slice none 0 0, .slice none 0 0, .int .i64 0, .string ⟨#[]⟩, .bool false] 25)) U.heap.size vp' vw' (.int .i64 dv3.fuse) (strC dv3.torn) (.bool dv3.dead) = W5 at *; generalize U.heap.size = ge at *; obtain ⟨bc, oc, cc, dc, qc, sc, Cc, flc, lbc, ldc, Pc, Rc⟩ := Vc.out.rows (n := 1) (m := 1) rfl rfl (by decide) (by decide); have kcp := Pc 0 _ rfl; obtain ⟨_, kc0, kc1, kc2, kc3, kc4⟩ := Cc; rw [Nat.add_zero] at kcp; clear Pc Rc lbc ldc)
  ((with_reducible refine (c_recs _).mono ?_); rintro e W9 ⟨v12, rfl, hr, hb1⟩)
  clear kcp kc0 kc1 kc2 kc3 kc4 flc
  replace hB := Kept.mk (hB.out.trans ((hb1).mono hB.out.size))
  replace Va := Kept.mk (Va.out.keep (hb1))
  replace Vb := Kept.mk (Vb.out.keep (hb1))
  replace Vc := Kept.mk (Vc.out.keep (hb1))
  replace Vd := Kept.mk (Vd.out.keep (hb1))
  replace Ve := Kept.mk (Ve.out.keep (hb1))
  have HR := Kept.mk hr
  clear hb1 hr
  go_wp2_with fail
  obtain ⟨bc, oc, cc, dc, qc, sc, Cc, Lc, lbc, ldc, Pc, Rc⟩ := Vc.out.rows (n := 1) (m := 1) rfl rfl (by decide) (by decide)
  refine works_region _ _ _ rfl _ _ _ _ _ _ _ v12 HR.out rfl rfl rfl rfl rfl rfl rfl rfl Cc lbc Pc ?_
  intro a w5 hd h0 hb5
  have hB2 := hB.out.trans (hb5.mono hB.out.size)
  go_wp2
  refine bodyPost_ret (results_tmp rfl a.tmps Tryz.prog w5) hd ⟨?_, hB2⟩
  rw [h0]
end Go.Proofs.YtpjafjnokgeifaaGreatDoor
end
section
namespace Go.Proofs.YtpjafjnokgeifaaGreatDoor
open Go.RowKit
set_option linter.unusedVariables false
set_option linter.unusedSimpArgs false

set_option maxRecDepth 20000 in
set_option maxHeartbeats 1000000 in
theorem rfsame_any (F G : Fl) (v u : Value) (w : World) (hv : isFl F v w) (hu : isFl G u w) (h1 : F.pages.length ≤ 1000000) (h2 : F.wear.length ≤ 1000000) (h3 : G.pages.length ≤ 1000000) (h4 : G.wear.length ≤ 1000000) :
    Calls Tryz.prog 14 #[v, u] w fun e w' => e = .returned (.bool (sameB F G)) ∧ Below w.heap.size w w' := by
  obtain ⟨vp, vw, rfl, hp, hq⟩ := hv
  obtain ⟨up, uw, rfl, gp, gq⟩ := hu
  have hb0 : Below w.heap.size w ((w.alloc (.cells #[vp, vw, .int .i64 F.fuse, strC F.torn, .bool F.dead] 25)).alloc (.cells #[up, uw, .int .i64 G.fuse, strC G.torn, .bool G.dead] 25)) := ((Below.refl _ _).alloc (Nat.le_refl _) _).alloc (by simp) _
  have hbn := (Below.refl (w.alloc (.cells #[vp, vw, .int .i64 F.fuse, strC F.torn, .bool F.dead] 25)).heap.size (w.alloc (.cells #[vp, vw, .int .i64 F.fuse, strC F.torn, .bool F.dead] 25))).alloc (Nat.le_refl _) (.cells #[up, uw, .int .i64 G.fuse, strC G.torn, .bool G.dead] 25)
  have c1 := (cells5_new w 25 vp vw (.int .i64 F.fuse) (strC F.torn) (.bool F.dead)).keep hbn (by simp)
  have c2 := cells5_at (w.alloc (.cells #[vp, vw, .int .i64 F.fuse, strC F.torn, .bool F.dead] 25)) 25 up uw (.int .i64 G.fuse) (strC G.torn) (.bool G.dead) (w.heap.size + 1) (by simp)
  have HB0 := Kept.mk hb0
  have C1 := Kept.mk c1
  have C2 := Kept.mk c2
  have HP := Kept.mk hp
  have HQ := Kept.mk hq
  have GP := Kept.mk gp
  have GQ := Kept.mk gq
  have HS := Kept.mk (show sameB F G = (decide (F.pages = G.pages) && decide (F.wear = G.wear) && (F.fuse == G.fuse) && (F.torn == G.torn) && (F.dead == G.dead)) from rfl)
  clear hp hq gp gq c1 c2 hb0 hbn
  unfold strC
  go_enter Tryz.func14, Tryz.ntmps14
  go_wp2_with fail
  refine (refTexts_any F.pages G.pages _ _ _ (stable_cells _ _ _ _ HP.out HB0.out) (stable_cells _ _ _ _ GP.out HB0.out) (by omega) (by omega)).mono ?_
  rintro e w1 ⟨rfl, hb1⟩
  obtain ⟨_, k0, k1, k2, k3, k4⟩ := C1.out.keep hb1 (by simp <;> omega)
  obtain ⟨_, j0, j1, j2, j3, j4⟩ := C2.out.keep hb1 (by simp <;> omega)
  unfold strC at k3 j3
  have hB := Kept.mk (HB0.out.trans (hb1.mono HB0.out.size))
  have hs1 := hb1.size
  have HB1 := Kept.mk hb1
  clear hb1
  cases d1 : decide (F.pages = G.pages) with
  | false =>
    go_wp2
    go_ret
    exact ⟨by rw [HS.out, d1]; rfl, hB.out⟩
  | true =>
    go_wp2_with fail
    refine (refInts_any F.wear G.wear _ _ _ (stable_cells _ _ _ _ HQ.out hB.out) (stable_cells _ _ _ _ GQ.out hB.out) (by omega) (by omega)).mono ?_
    rintro e w2 ⟨rfl, hb2⟩
    clear k0 k1 k2 k3 k4 j0 j1 j2 j3 j4
    obtain ⟨_, k0, k1, k2, k3, k4⟩ := (C1.out.keep HB1.out (by simp <;> omega)).keep hb2 (by simp at hs1 <;> omega)
    obtain ⟨_, j0, j1, j2, j3, j4⟩ := (C2.out.keep HB1.out (by simp <;> omega)).keep hb2 (by simp at hs1 <;> omega)
    unfold strC at k3 j3
    have hB2 := Kept.mk (hB.out.trans (hb2.mono hB.out.size))
    clear hb2
    cases d2 : decide (F.wear = G.wear) with
    | false =>
      go_wp2
      go_ret
      exact ⟨by rw [HS.out, d1, d2]; rfl, hB2.out⟩
    | true =>
      cases d3 : F.fuse == G.fuse with
      | false =>
        go_wp2
        go_ret
        exact ⟨by rw [HS.out, d1, d2, d3]; rfl, hB2.out⟩
      | true =>
        cases d4 : F.torn == G.torn with
        | false =>
          go_wp2
          go_ret
          exact ⟨by rw [HS.out, d1, d2, d3, d4]; rfl, hB2.out⟩
        | true =>
          go_wp2
          go_ret
          exact ⟨by rw [HS.out, d1, d2, d3, d4]; rfl, hB2.out⟩
end Go.Proofs.YtpjafjnokgeifaaGreatDoor
end
section
namespace Go.Proofs.YtpjafjnokgeifaaGreatDoor
open Go.RowKit Go.ChangeShapes Go.WideShapes
set_option linter.unusedVariables false
set_option linter.unusedSimpArgs false

theorem spot_none {w : World} {a : Addr} {v : Value} (h : w.cell? a = some v) : a = ⟨a.block, a.off, none⟩ := by
  obtain ⟨b, o, s⟩ := a
  cases s with
  | none => rfl
  | some s =>
    simp only [World.cell?] at h
    split at h <;> simp at h
theorem add_plain (b o i : Nat) : (⟨b, o, none⟩ : Addr).add i = ⟨b, o + i, none⟩ := by
  by_cases e : i = 0
  · subst e; simp [Addr.add]
  · simp [Addr.add, e]
/-- A row that came in. -/
theorem cells_came {w : World} {a : Addr} {len cap : Nat} (cs : List Value) (hl : cs.length = len) (hc : ∀ (i : Nat) (x : Value), cs[i]? = some x → w.cell? (a.add i) = some x) : isCells cs (.slice (some a) len cap) w := by
  cases cs with
  | nil => subst hl; exact .inr (.inl ⟨a, cap, rfl, rfl⟩)
  | cons x cs =>
    have h0 := hc 0 x rfl
    have e0 : a.add 0 = a := by simp [Addr.add]
    rw [e0] at h0
    have ha := spot_none h0
    rw [ha] at hc ⊢
    subst hl
    refine .inr (.inr ⟨a.block, a.off, cap, rfl, ?_, fun j y hy => ?_⟩)
    · simp only [World.cell?] at h0
      split at h0
      · rename_i h; exact (Array.getElem?_eq_some_iff.1 h).1
      · simp at h0
    · have := hc j y hy
      rwa [add_plain] at this

section
variable {W : World} {H : Type} {enc : TypeId × Value → H} {base : Nat} {spare : Nat → Bool} {held : Bool} {n : Nat}
theorem open_pages {v : Value} {y : DataW H × List MemPlace} (g : DataW.trod enc Tryz.prog W base spare held n 22 [v] = some y) :
    ∃ l : List (List UInt8), isCells (l.map strC) v W ∧ l.length ≤ maxLen ∧ (∀ s ∈ l, s.length ≤ maxLen) ∧ ((∀ m ∈ y.1.weights Tryz.prog 22, m ≤ reachBytes) → l.length * 16 ≤ reachBytes) := by
  have hby : Tryz.prog.bytesOf 9 = 16 := by kernel_rfl
  rcases open_strings Tryz.underlying22 Tryz.underlying9 (by kernel_rfl) g with ⟨hc, _⟩ | ⟨a, len, cap, ss, hc, _, hl, hm, hz, hx0, hcell, hs⟩
  · injection hc with hc _
    subst hc
    exact ⟨[], .inl ⟨rfl, rfl⟩, Nat.zero_le _, (fun s hs => by simp at hs), fun _ => Nat.zero_le _⟩
  · injection hc with hc _
    subst hc
    have hle : len ≤ ss.length := by rw [hz]; split <;> omega
    refine ⟨(ss.take len).map fun s => s.data.toList, cells_came _ (by simp; omega) (fun i x hx => ?_), by simp; omega, fun s h => ?_, fun hw => ?_⟩
    · have hi : i < len := by have := (List.getElem?_eq_some_iff.1 hx).1; simp at this; omega
      rw [hcell i (by omega)]
      rw [List.getElem?_map, List.getElem?_map, List.getElem?_take, if_pos hi, List.getElem?_eq_getElem (by omega : i < ss.length)] at hx
      simp only [Option.map_some, Option.some.injEq] at hx
      rw [← hx]
      have e : ss.getD i ByteArray.empty = ss[i]'(by omega) := by simp [List.getD_eq_getElem?_getD, show i < ss.length by omega]
      rw [e]
      show some (Value.string (ss[i]'(by omega))) = some (.string ⟨(ss[i]'(by omega)).data.toList.toArray⟩)
      rw [← str_eta]
    · obtain ⟨b, hb, rfl⟩ := List.mem_map.1 h
      have := hs b (List.mem_of_mem_take hb)
      simpa using this
    · subst hx0
      have := hw ((ss.take len).length * 16 + (ss.drop len).length * 16) (by simp only [DataW.weights, Tryz.underlying22, hby, strs, List.length_map]; rw [← Nat.add_mul]; exact List.mem_cons_self ..)
      simp only [List.length_map, List.length_take, List.length_drop] at this ⊢
      omega
theorem open_wear {v : Value} {y : DataW H × List MemPlace} (g : DataW.trod enc Tryz.prog W base spare held n 23 [v] = some y) :
    ∃ l : List Int, isCells (l.map intC) v W ∧ l.length ≤ maxLen ∧ (∀ x ∈ l, (Lit.int .i64 x).wf = true) ∧ ((∀ m ∈ y.1.weights Tryz.prog 23, m ≤ reachBytes) → l.length * 8 ≤ reachBytes) := by
  have hby : Tryz.prog.bytesOf 3 = 8 := by kernel_rfl
  rcases open_ints Tryz.underlying23 Tryz.underlying3 (by kernel_rfl) g with ⟨hc, _⟩ | ⟨a, len, cap, zs, hc, _, hl, hm, hz, hx0, hcell, hs⟩
  · injection hc with hc _
    subst hc
    exact ⟨[], .inl ⟨rfl, rfl⟩, Nat.zero_le _, (fun s hs => by simp at hs), fun _ => Nat.zero_le _⟩
  · injection hc with hc _
    subst hc
    have hle : len ≤ zs.length := by rw [hz]; split <;> omega
    refine ⟨zs.take len, cells_came _ (by simp; omega) (fun i x hx => ?_), by simp; omega, (fun s h => hs s (List.mem_of_mem_take h)), fun hw => ?_⟩
    case refine_2 =>
      subst hx0
      have := hw ((zs.take len).length * 8 + (zs.drop len).length * 8) (by simp only [DataW.weights, Tryz.underlying23, hby, lits, List.length_map]; rw [← Nat.add_mul]; exact List.mem_cons_self ..)
      simp only [List.length_take, List.length_drop] at this ⊢
      omega
    have hi : i < len := by have := (List.getElem?_eq_some_iff.1 hx).1; simp at this; omega
    rw [hcell i (by omega)]
    rw [List.getElem?_map, List.getElem?_take, if_pos hi, List.getElem?_eq_getElem (by omega : i < zs.length)] at hx
    simp only [Option.map_some, Option.some.injEq] at hx
    rw [← hx]
    simp [List.getD_eq_getElem?_getD, show i < zs.length by omega, intC]
end
theorem wf_i64 {x : Int} (h : (Lit.int .i64 x).wf = true) : -9223372036854775808 ≤ x ∧ x ≤ 9223372036854775807 := by
  unfold Lit.wf at h
  rw [Bool.and_eq_true] at h
  exact ⟨of_decide_eq_true h.1, of_decide_eq_true h.2⟩
/-- What a device that came in is. -/
structure Came (F : Fl) : Prop where
  fuse : (Lit.int .i64 F.fuse).wf = true
  torn : F.torn.length ≤ maxLen
  wear : ∀ x ∈ F.wear, (Lit.int .i64 x).wf = true
  pages : ∀ s ∈ F.pages, s.length ≤ maxLen
  nw : F.wear.length ≤ maxLen
  np : F.pages.length ≤ maxLen
set_option maxRecDepth 100000 in
theorem open_flash {W : World} {H : Type} {enc : TypeId × Value → H} {base b0 : Nat} {spare : Nat → Bool} {held : Bool} {v : Value} {d : DataW H} {p : List MemPlace} (hv : Value.okWide Tryz.prog W .any b0 25 v)
    (h : DataW.Trod enc Tryz.prog W base spare held 25 v d p) : ∃ F : Fl, isFl F v W ∧ Came F ∧ ((∀ m ∈ d.weights Tryz.prog 25, m ≤ reachBytes) → F.pages.length * 16 ≤ reachBytes ∧ F.wear.length * 8 ≤ reachBytes) := by
  obtain ⟨⟨l⟩, rfl, hsz⟩ := okWide_struct Tryz.underlying25 hv
  have hl : l.length = 5 := hsz.trans (by kernel_rfl)
  match l, hl with
  | [v0, v1, v2, v3, v4], _ =>
    obtain ⟨fuel, hf⟩ := h
    obtain ⟨xs, n, _, hxe, _, hxl, hg⟩ := DataW.trod_struct Tryz.underlying25 hf
    have at_ : ∀ i, i < 5 → ∃ y, xs[i]? = some y := fun i hi => ⟨_, List.getElem?_eq_getElem (by rw [hxl]; exact hi)⟩
    have c1 : Tryz.prog.cellsOf 22 = 1 := by kernel_rfl
    have c2 : Tryz.prog.cellsOf 23 = 1 := by kernel_rfl
    have c3 : Tryz.prog.cellsOf 3 = 1 := by kernel_rfl
    have c4 : Tryz.prog.cellsOf 9 = 1 := by kernel_rfl
    have c5 : Tryz.prog.cellsOf 4 = 1 := by kernel_rfl
    obtain ⟨y0, e0⟩ := at_ 0 (by decide)
    obtain ⟨y1, e1⟩ := at_ 1 (by decide)
    obtain ⟨y2, e2⟩ := at_ 2 (by decide)
    obtain ⟨y3, e3⟩ := at_ 3 (by decide)
    obtain ⟨y4, e4⟩ := at_ 4 (by decide)
    have g0 := hg 0 _ rfl
    have g1 := hg 1 _ rfl
    have g2 := hg 2 _ rfl
    have g3 := hg 3 _ rfl
    have g4 := hg 4 _ rfl
    simp only [Value.cells, c1, c2, c3, c4, c5, List.drop_zero, List.drop_succ_cons, List.take_succ_cons, List.take_zero] at g0 g1 g2 g3 g4
    rw [e0] at g0
    rw [e1] at g1
    rw [e2] at g2
    rw [e3] at g3
    rw [e4] at g4
    obtain ⟨pages, hp, hpn, hps, hpw⟩ := open_pages g0
    obtain ⟨wear, hw, hwn, hws, hww⟩ := open_wear g1
    obtain ⟨fuse, h2, _, hfu⟩ := DataW.trod_int Tryz.underlying3 g2
    obtain ⟨torn, h3, _, hto⟩ := DataW.trod_string Tryz.underlying9 g3
    obtain ⟨dead, h4, _⟩ := DataW.trod_bool Tryz.underlying4 g4
    injection h2 with h2 _
    injection h3 with h3 _
    injection h4 with h4 _
    subst h2 h3 h4
    refine ⟨⟨pages, wear, fuse, torn.data.toList, dead⟩, ⟨v0, v1, ?_, hp, hw⟩, ⟨hfu, by simpa using hto, hws, hps, hwn, hpn⟩, fun hall => ?_⟩
    case refine_2 =>
      injection hxe with hd _
      subst hd
      refine ⟨hpw fun m hm => hall m ?_, hww fun m hm => hall m ?_⟩
      · simp only [DataW.weights, Tryz.underlying25]
        exact DataW.weights_mem_each (j := 0) rfl (by rw [List.getElem?_map, e0]; rfl) m hm
      · simp only [DataW.weights, Tryz.underlying25]
        exact DataW.weights_mem_each (j := 1) rfl (by rw [List.getElem?_map, e1]; rfl) m hm
    show Value.agg #[v0, v1, .int .i64 fuse, .string torn, .bool dead] = .agg #[v0, v1, .int .i64 fuse, .string ⟨torn.data.toList.toArray⟩, .bool dead]
    rw [← str_eta]
end Go.Proofs.YtpjafjnokgeifaaGreatDoor
end
