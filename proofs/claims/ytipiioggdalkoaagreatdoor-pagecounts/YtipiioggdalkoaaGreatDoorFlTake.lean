/- Contract of flash.take: the regions that draw their order. -/
import Derived.Test.YtipiioggdalkoaaGreatDoorFlRel
namespace Go.Proofs.YtipiioggdalkoaaGreatDoor
open Go.RowKit
set_option linter.unusedVariables false
set_option linter.unusedSimpArgs false

section
variable {ops : Array Oper} {base : World} {a0 : Act} {Q : Exit → Act → World → Prop} {kn : Nat → VP} {i : Nat} {V : VP}
theorem step_load5 (x : Operand) (g : Nat) {v0 v1 v2 v3 v4 : Value} (hop : (ops[i]?).map (·.op) = some (.load 31 x)) (hw : Wanted ops a0 kn i) (hx : Knows ops a0 kn i x (isVal (.pointer (some ⟨g, 0, none⟩))))
    (hc : Cells5 base g v0 v1 v2 v3 v4) : FStep Tryz.prog ops base a0 Q kn i (isVal (.agg #[v0, v1, v2, v3, v4])) :=
  step_mk (stable_val _) hw fun o ho a w hk hb hd => by
    have e1 : a.eval x = .pointer (some ⟨g, 0, none⟩) := hx a w hk hd
    unfold Oper.wp execOp
    rw [op_of hop ho]
    simp only [e1, Instr.loadAt, Instr.sureAddr, Sem.run_bind, Sem.run_pure, Result.andThen_ok, load5 g w v0 v1 v2 v3 v4 (hc.keep hb hc.1), Oper.upon]
    exact ⟨_, rfl, rfl, Below.refl _ _⟩
end
theorem call_has (F : Fl) (page : Int) (z : Bool) (v : Value) (w : World) (hv : isFl F v w) (h1 : F.pages.length ≤ 140737488355328) (h2 : F.wear.length ≤ 140737488355328) (hz : hasB F page = z) :
    Calls Tryz.prog 80 #[v, .int .i64 page] w fun e w' => ∃ x, e = .returned x ∧ isVal (.bool z) x w' ∧ Below w.heap.size w w' :=
  (hasPage_any F page v w hv h1 h2).mono (by rintro e w' ⟨rfl, hb⟩; exact ⟨_, rfl, by rw [hz]; rfl, hb⟩)
theorem call_efits (n : Int) (w : World) : Calls Tryz.prog 166 #[.agg #[], .int .i64 n] w fun e w' => ∃ x, e = .returned x ∧ isVal (.bool true) x w' ∧ Below w.heap.size w w' :=
  (eFits_any n w).mono (by rintro e w' ⟨rfl, hb⟩; exact ⟨_, rfl, rfl, hb⟩)
theorem call_pfits (at_ : Int) (s : List UInt8) (n : Nat) (z : Bool) (w : World) (hs : s.length ≤ 1000000) (hn : n ≤ 1000000) (hz : (decide (0 ≤ at_) && decide (at_ ≤ (n : Int) - s.length)) = z) :
    Calls Tryz.prog 169 #[.agg #[.int .i64 at_, .string ⟨s.toArray⟩], .int .i64 (n : Int)] w fun e w' => ∃ x, e = .returned x ∧ isVal (.bool z) x w' ∧ Below w.heap.size w w' :=
  (pFits_any at_ s n w (by omega) (by omega) (by omega)).mono (by rintro e w' ⟨rfl, hb⟩; exact ⟨_, rfl, by rw [hz]; rfl, hb⟩)
theorem call_ewear (n : Int) (w : World) (h0 : 0 ≤ n) (h1 : n ≤ 2147483647) : Calls Tryz.prog 168 #[.agg #[], .int .i64 n] w fun e w' => ∃ x, e = .returned x ∧ isVal (.int .i64 (wornN n)) x w' ∧ Below w.heap.size w w' :=
  (eWear_any n w h0 h1).mono (by rintro e w' ⟨rfl, hb⟩; exact ⟨_, rfl, rfl, hb⟩)
theorem call_pwear (at_ : Int) (s : List UInt8) (n : Int) (w : World) : Calls Tryz.prog 171 #[.agg #[.int .i64 at_, .string ⟨s.toArray⟩], .int .i64 n] w fun e w' => ∃ x, e = .returned x ∧ isVal (.int .i64 n) x w' ∧ Below w.heap.size w w' :=
  (pWear_any (.bool true) n w at_ s).mono (by rintro e w' ⟨rfl, hb⟩; exact ⟨_, rfl, rfl, hb⟩)
theorem call_between (was would torn : List UInt8) (w : World) (h1 : was.length ≤ 1000000) (h2 : would.length ≤ 1000000) (h3 : torn.length ≤ 1000000) :
    Calls Tryz.prog 81 #[.string ⟨was.toArray⟩, .string ⟨would.toArray⟩, .string ⟨torn.toArray⟩] w fun e w' => ∃ x, e = .returned x ∧ isVal (.string ⟨(betweenL was would torn).toArray⟩) x w' ∧ Below w.heap.size w w' :=
  (between_any was would torn w h1 h2 h3).mono (by rintro e w' ⟨rfl, hb⟩; exact ⟨_, rfl, rfl, hb⟩)
noncomputable def takeOps2 : Array Oper := regionOf Tryz.f54 2
noncomputable def takeOps9 : Array Oper := regionOf Tryz.f54 9
noncomputable def takeOps11 : Array Oper := regionOf Tryz.f54 11

set_option maxRecDepth 100000 in
set_option maxHeartbeats 2000000 in
theorem take2_eno (Q : Exit → Act → World → Prop) (a0 : Act) (w0 : World) (hsz : a0.tmps.size = 84) (g3 : Nat) (F : Fl) (vp vw : Value) (page : Int)
    (e1 : a0.tmps.getD 1 undef = .int .i64 page) (e2 : a0.tmps.getD 2 undef = (.iface 64 (.agg #[]))) (e3 : a0.tmps.getD 3 undef = .pointer (some ⟨g3, 0, none⟩)) (hc3 : Cells5 w0 g3 vp vw (.int .i64 F.fuse) (strC F.torn) (.bool F.dead)) (hfl : isFl F (.agg #[vp, vw, .int .i64 F.fuse, strC F.torn, .bool F.dead]) w0)
    (h1 : F.pages.length ≤ 140737488355328) (h2 : F.wear.length ≤ 140737488355328) (hhas : hasB F page = false)
    (hQ : ∀ (a : Act) (w : World), a.defers = a0.defers → a.tmps.size = a0.tmps.size → (∀ t, (takeOps2.toList.all fun o => o.dst != some t) = true → a.tmps.getD t undef = a0.tmps.getD t undef) → a.tmps.getD 30 undef = .bool true → Below w0.heap.size w0 w → Q .normal a w) :
    (Code.region 2 takeOps2 true).wp Tryz.prog Q a0 w0 := by
  refine wp_region_flow mixed (by rw [hsz]; kernel_rfl) ?_
  rw [show takeOps2.size = 18 by kernel_rfl]
  refine ⟨isVal (.agg #[vp, vw, .int .i64 F.fuse, strC F.torn, .bool F.dead]), step_load5 (.tmp 3) g3 (by kernel_rfl) (wanted_none (by kernel_rfl)) (knows_old 3 (.pointer (some ⟨g3, 0, none⟩)) (by kernel_rfl) e3) hc3, ?_⟩
  refine ⟨isVal (.int .i64 page), step_move (.tmp 1) (by kernel_rfl) (wanted_none (by kernel_rfl)) (stable_val _) (knows_old 1 (.int .i64 page) (by kernel_rfl) e1), ?_⟩
  refine ⟨isVal (.bool false), step_call 80 #[.tmp 13, .tmp 14] #[31, 3] #[.agg #[vp, vw, .int .i64 F.fuse, strC F.torn, .bool F.dead], .int .i64 page] (by kernel_rfl) (wanted_none (by kernel_rfl)) (stable_val _) (args2 (.tmp 13) (.tmp 14) (.agg #[vp, vw, .int .i64 F.fuse, strC F.torn, .bool F.dead]) (.int .i64 page) (knows_new (V := isVal (.agg #[vp, vw, .int .i64 F.fuse, strC F.torn, .bool F.dead])) 13 0 (by kernel_rfl) (by kernel_rfl) (by kernel_rfl)) (knows_new (V := isVal (.int .i64 page)) 14 1 (by kernel_rfl) (by kernel_rfl) (by kernel_rfl))) (enters_of Tryz.func80 (by kernel_rfl) rfl) (by intro w hb; exact call_has F page false _ w (stable_fl _ _ _ _ hfl hb) h1 h2 hhas), ?_⟩
  refine ⟨isVal (.bool true), step_un .not 4 (.tmp 15) (.bool false) (.bool true) (by kernel_rfl) (wanted_none (by kernel_rfl)) (knows_new (V := isVal (.bool false)) 15 2 (by kernel_rfl) (by kernel_rfl) (by kernel_rfl)) (fun _ => rfl), ?_⟩
  refine ⟨isVal (.bool true), step_move (.tmp 16) (by kernel_rfl) (wanted_none (by kernel_rfl)) (stable_val _) (knows_new (V := isVal (.bool true)) 16 3 (by kernel_rfl) (by kernel_rfl) (by kernel_rfl)), ?_⟩
  refine ⟨_, step_skip 4 17 false true (by kernel_rfl) (by kernel_rfl) (by kernel_rfl) (by kernel_rfl) rfl, ?_⟩
  refine ⟨_, step_skip 4 17 false true (by kernel_rfl) (by kernel_rfl) (by kernel_rfl) (by kernel_rfl) rfl, ?_⟩
  refine ⟨_, step_skip 4 17 false true (by kernel_rfl) (by kernel_rfl) (by kernel_rfl) (by kernel_rfl) rfl, ?_⟩
  refine ⟨_, step_skip 4 17 false true (by kernel_rfl) (by kernel_rfl) (by kernel_rfl) (by kernel_rfl) rfl, ?_⟩
  refine ⟨_, step_skip 4 17 false true (by kernel_rfl) (by kernel_rfl) (by kernel_rfl) (by kernel_rfl) rfl, ?_⟩
  refine ⟨_, step_skip 4 17 false true (by kernel_rfl) (by kernel_rfl) (by kernel_rfl) (by kernel_rfl) rfl, ?_⟩
  refine ⟨_, step_skip 4 17 false true (by kernel_rfl) (by kernel_rfl) (by kernel_rfl) (by kernel_rfl) rfl, ?_⟩
  refine ⟨_, step_skip 4 17 false true (by kernel_rfl) (by kernel_rfl) (by kernel_rfl) (by kernel_rfl) rfl, ?_⟩
  refine ⟨_, step_skip 4 17 false true (by kernel_rfl) (by kernel_rfl) (by kernel_rfl) (by kernel_rfl) rfl, ?_⟩
  refine ⟨_, step_skip 4 17 false true (by kernel_rfl) (by kernel_rfl) (by kernel_rfl) (by kernel_rfl) rfl, ?_⟩
  refine ⟨_, step_skip 4 17 false true (by kernel_rfl) (by kernel_rfl) (by kernel_rfl) (by kernel_rfl) rfl, ?_⟩
  refine ⟨_, step_skip 4 17 false true (by kernel_rfl) (by kernel_rfl) (by kernel_rfl) (by kernel_rfl) rfl, ?_⟩
  refine ⟨isVal (.bool true), step_pick (.tmp 17) (.const (.bool true)) (.tmp 29) true (by kernel_rfl) (wanted_none (by kernel_rfl)) (stable_val _) (knows_new (V := isVal (.bool true)) 17 4 (by kernel_rfl) (by kernel_rfl) (by kernel_rfl)) (knows_const _), ?_⟩
  intro a w hkp hb hd
  exact hQ a w hkp.1 hkp.2.1 hkp.2.2 (fdone_of (hd 17 (by rw [show takeOps2.size = 18 by kernel_rfl]; decide)) (t := 30) (V := isVal (.bool true)) (by kernel_rfl) (by kernel_rfl)) hb

set_option maxRecDepth 100000 in
set_option maxHeartbeats 2000000 in
theorem take2_eyes (Q : Exit → Act → World → Prop) (a0 : Act) (w0 : World) (hsz : a0.tmps.size = 84) (g3 : Nat) (F : Fl) (vw : Value) (k b off n cap : Nat) (was : List UInt8) (hkn : k < n) (hcell : w0.cell? ⟨b, off + k, none⟩ = some (.string ⟨was.toArray⟩)) (hb0 : b < w0.heap.size) (hw1 : was.length ≤ 1000000)
    (e1 : a0.tmps.getD 1 undef = .int .i64 (k : Int)) (e2 : a0.tmps.getD 2 undef = (.iface 64 (.agg #[]))) (e3 : a0.tmps.getD 3 undef = .pointer (some ⟨g3, 0, none⟩)) (hc3 : Cells5 w0 g3 (.slice (some ⟨b, off, none⟩) n cap) vw (.int .i64 F.fuse) (strC F.torn) (.bool F.dead)) (hfl : isFl F (.agg #[(.slice (some ⟨b, off, none⟩) n cap), vw, .int .i64 F.fuse, strC F.torn, .bool F.dead]) w0)
    (h1 : F.pages.length ≤ 140737488355328) (h2 : F.wear.length ≤ 140737488355328) (hhas : hasB F (k : Int) = true)
    (hQ : ∀ (a : Act) (w : World), a.defers = a0.defers → a.tmps.size = a0.tmps.size → (∀ t, (takeOps2.toList.all fun o => o.dst != some t) = true → a.tmps.getD t undef = a0.tmps.getD t undef) → a.tmps.getD 30 undef = .bool false → Below w0.heap.size w0 w → Q .normal a w) :
    (Code.region 2 takeOps2 true).wp Tryz.prog Q a0 w0 := by
  refine wp_region_flow mixed (by rw [hsz]; kernel_rfl) ?_
  rw [show takeOps2.size = 18 by kernel_rfl]
  refine ⟨isVal (.agg #[(.slice (some ⟨b, off, none⟩) n cap), vw, .int .i64 F.fuse, strC F.torn, .bool F.dead]), step_load5 (.tmp 3) g3 (by kernel_rfl) (wanted_none (by kernel_rfl)) (knows_old 3 (.pointer (some ⟨g3, 0, none⟩)) (by kernel_rfl) e3) hc3, ?_⟩
  refine ⟨isVal (.int .i64 (k : Int)), step_move (.tmp 1) (by kernel_rfl) (wanted_none (by kernel_rfl)) (stable_val _) (knows_old 1 (.int .i64 (k : Int)) (by kernel_rfl) e1), ?_⟩
  refine ⟨isVal (.bool true), step_call 80 #[.tmp 13, .tmp 14] #[31, 3] #[.agg #[(.slice (some ⟨b, off, none⟩) n cap), vw, .int .i64 F.fuse, strC F.torn, .bool F.dead], .int .i64 (k : Int)] (by kernel_rfl) (wanted_none (by kernel_rfl)) (stable_val _) (args2 (.tmp 13) (.tmp 14) (.agg #[(.slice (some ⟨b, off, none⟩) n cap), vw, .int .i64 F.fuse, strC F.torn, .bool F.dead]) (.int .i64 (k : Int)) (knows_new (V := isVal (.agg #[(.slice (some ⟨b, off, none⟩) n cap), vw, .int .i64 F.fuse, strC F.torn, .bool F.dead])) 13 0 (by kernel_rfl) (by kernel_rfl) (by kernel_rfl)) (knows_new (V := isVal (.int .i64 (k : Int))) 14 1 (by kernel_rfl) (by kernel_rfl) (by kernel_rfl))) (enters_of Tryz.func80 (by kernel_rfl) rfl) (by intro w hb; exact call_has F (k : Int) true _ w (stable_fl _ _ _ _ hfl hb) h1 h2 hhas), ?_⟩
  refine ⟨isVal (.bool false), step_un .not 4 (.tmp 15) (.bool true) (.bool false) (by kernel_rfl) (wanted_none (by kernel_rfl)) (knows_new (V := isVal (.bool true)) 15 2 (by kernel_rfl) (by kernel_rfl) (by kernel_rfl)) (fun _ => rfl), ?_⟩
  refine ⟨isVal (.bool false), step_move (.tmp 16) (by kernel_rfl) (wanted_none (by kernel_rfl)) (stable_val _) (knows_new (V := isVal (.bool false)) 16 3 (by kernel_rfl) (by kernel_rfl) (by kernel_rfl)), ?_⟩
  refine ⟨isVal (.iface 64 (.agg #[])), step_move (.tmp 2) (by kernel_rfl) (wanted_some 4 17 false (by kernel_rfl) (by kernel_rfl) (by kernel_rfl) (by kernel_rfl)) (stable_val _) (knows_old 2 (.iface 64 (.agg #[])) (by kernel_rfl) e2), ?_⟩
  refine ⟨isVal (.pointer (some ⟨g3, 0, none⟩)), step_field 31 (.tmp 3) 0 ⟨g3, 0, none⟩ ⟨g3, 0, none⟩ (by kernel_rfl) (wanted_some 4 17 false (by kernel_rfl) (by kernel_rfl) (by kernel_rfl) (by kernel_rfl)) (knows_old 3 (.pointer (some ⟨g3, 0, none⟩)) (by kernel_rfl) e3) (field_fl g3 0 (by omega)), ?_⟩
  refine ⟨isVal (.slice (some ⟨b, off, none⟩) n cap), step_read 26 (.tmp 19) ⟨g3, 0, none⟩ (.slice (some ⟨b, off, none⟩) n cap) (by kernel_rfl) (wanted_some 4 17 false (by kernel_rfl) (by kernel_rfl) (by kernel_rfl) (by kernel_rfl)) (knows_new (V := isVal (.pointer (some ⟨g3, 0, none⟩))) 19 6 (by kernel_rfl) (by kernel_rfl) (by kernel_rfl)) hc3.2.1 hc3.1 agg_strs, ?_⟩
  refine ⟨isVal (.int .i64 (k : Int)), step_move (.tmp 1) (by kernel_rfl) (wanted_some 4 17 false (by kernel_rfl) (by kernel_rfl) (by kernel_rfl) (by kernel_rfl)) (stable_val _) (knows_old 1 (.int .i64 (k : Int)) (by kernel_rfl) e1), ?_⟩
  refine ⟨isVal (.pointer (some ⟨b, off + k, none⟩)), step_place 26 9 (.tmp 20) (.tmp 21) b off n cap k (by kernel_rfl) (wanted_some 4 17 false (by kernel_rfl) (by kernel_rfl) (by kernel_rfl) (by kernel_rfl)) (knows_new (V := isVal (.slice (some ⟨b, off, none⟩) n cap)) 20 7 (by kernel_rfl) (by kernel_rfl) (by kernel_rfl)) (knows_new (V := isVal (.int .i64 (k : Int))) 21 8 (by kernel_rfl) (by kernel_rfl) (by kernel_rfl)) Tryz.underlying26 (by kernel_rfl) hkn, ?_⟩
  refine ⟨isVal (.string ⟨was.toArray⟩), step_read 9 (.tmp 22) ⟨b, off + k, none⟩ (.string ⟨was.toArray⟩) (by kernel_rfl) (wanted_some 4 17 false (by kernel_rfl) (by kernel_rfl) (by kernel_rfl) (by kernel_rfl)) (knows_new (V := isVal (.pointer (some ⟨b, off + k, none⟩))) 22 9 (by kernel_rfl) (by kernel_rfl) (by kernel_rfl)) hcell hb0 agg_str, ?_⟩
  refine ⟨isVal (.int .i64 (was.length : Int)), step_len 9 (.tmp 23) (.string ⟨was.toArray⟩) (.int .i64 (was.length : Int)) (by kernel_rfl) (wanted_some 4 17 false (by kernel_rfl) (by kernel_rfl) (by kernel_rfl) (by kernel_rfl)) (knows_new (V := isVal (.string ⟨was.toArray⟩)) 23 10 (by kernel_rfl) (by kernel_rfl) (by kernel_rfl)) (len_str was), ?_⟩
  refine ⟨isVal (.func (.method "ouroboros/flash.fits") #[(.iface 64 (.agg #[]))] #[]), step_method "ouroboros/flash.fits" (.tmp 18) (.iface 64 (.agg #[])) (by kernel_rfl) (wanted_some 4 17 false (by kernel_rfl) (by kernel_rfl) (by kernel_rfl) (by kernel_rfl)) (knows_new (V := isVal (.iface 64 (.agg #[]))) 18 5 (by kernel_rfl) (by kernel_rfl) (by kernel_rfl)), ?_⟩
  refine ⟨isVal (.func (.method "ouroboros/flash.fits") #[(.iface 64 (.agg #[]))] #[]), step_nil "ouroboros/flash.fits" (.tmp 25) 64 (.agg #[]) (by kernel_rfl) (wanted_some 4 17 false (by kernel_rfl) (by kernel_rfl) (by kernel_rfl) (by kernel_rfl)) (knows_new (V := isVal (.func (.method "ouroboros/flash.fits") #[(.iface 64 (.agg #[]))] #[])) 25 12 (by kernel_rfl) (by kernel_rfl) (by kernel_rfl)) (fun w => by kernel_rfl), ?_⟩
  refine ⟨isVal (.iface 64 (.agg #[])), step_move (.tmp 18) (by kernel_rfl) (wanted_some 4 17 false (by kernel_rfl) (by kernel_rfl) (by kernel_rfl) (by kernel_rfl)) (stable_val _) (knows_new (V := isVal (.iface 64 (.agg #[]))) 18 5 (by kernel_rfl) (by kernel_rfl) (by kernel_rfl)), ?_⟩
  refine ⟨isVal (.bool true), step_invoke "ouroboros/flash.fits" (.tmp 27) (.iface 64 (.agg #[])) 166 #[.tmp 24] #[3] #[.int .i64 (was.length : Int)] #[.agg #[], .int .i64 (was.length : Int)] (by kernel_rfl) (wanted_some 4 17 false (by kernel_rfl) (by kernel_rfl) (by kernel_rfl) (by kernel_rfl)) (stable_val _) (args1 (.tmp 24) (.int .i64 (was.length : Int)) (knows_new (V := isVal (.int .i64 (was.length : Int))) 24 11 (by kernel_rfl) (by kernel_rfl) (by kernel_rfl))) (knows_new (V := isVal (.iface 64 (.agg #[]))) 27 14 (by kernel_rfl) (by kernel_rfl) (by kernel_rfl)) (fun w => by kernel_rfl) (by intro w hb; exact call_efits _ w), ?_⟩
  refine ⟨isVal (.bool false), step_un .not 4 (.tmp 28) (.bool true) (.bool false) (by kernel_rfl) (wanted_some 4 17 false (by kernel_rfl) (by kernel_rfl) (by kernel_rfl) (by kernel_rfl)) (knows_new (V := isVal (.bool true)) 28 15 (by kernel_rfl) (by kernel_rfl) (by kernel_rfl)) (fun _ => rfl), ?_⟩
  refine ⟨isVal (.bool false), step_pick (.tmp 17) (.const (.bool true)) (.tmp 29) false (by kernel_rfl) (wanted_none (by kernel_rfl)) (stable_val _) (knows_new (V := isVal (.bool false)) 17 4 (by kernel_rfl) (by kernel_rfl) (by kernel_rfl)) (knows_new (V := isVal (.bool false)) 29 16 (by kernel_rfl) (by kernel_rfl) (by kernel_rfl)), ?_⟩
  intro a w hkp hb hd
  exact hQ a w hkp.1 hkp.2.1 hkp.2.2 (fdone_of (hd 17 (by rw [show takeOps2.size = 18 by kernel_rfl]; decide)) (t := 30) (V := isVal (.bool false)) (by kernel_rfl) (by kernel_rfl)) hb

set_option maxRecDepth 100000 in
set_option maxHeartbeats 2000000 in
theorem take2_pno (Q : Exit → Act → World → Prop) (a0 : Act) (w0 : World) (hsz : a0.tmps.size = 84) (g3 : Nat) (F : Fl) (vp vw : Value) (at_ : Int) (s : List UInt8) (hs : s.length ≤ 1000000) (page : Int)
    (e1 : a0.tmps.getD 1 undef = .int .i64 page) (e2 : a0.tmps.getD 2 undef = (.iface 77 (.agg #[.int .i64 at_, .string ⟨s.toArray⟩]))) (e3 : a0.tmps.getD 3 undef = .pointer (some ⟨g3, 0, none⟩)) (hc3 : Cells5 w0 g3 vp vw (.int .i64 F.fuse) (strC F.torn) (.bool F.dead)) (hfl : isFl F (.agg #[vp, vw, .int .i64 F.fuse, strC F.torn, .bool F.dead]) w0)
    (h1 : F.pages.length ≤ 140737488355328) (h2 : F.wear.length ≤ 140737488355328) (hhas : hasB F page = false)
    (hQ : ∀ (a : Act) (w : World), a.defers = a0.defers → a.tmps.size = a0.tmps.size → (∀ t, (takeOps2.toList.all fun o => o.dst != some t) = true → a.tmps.getD t undef = a0.tmps.getD t undef) → a.tmps.getD 30 undef = .bool true → Below w0.heap.size w0 w → Q .normal a w) :
    (Code.region 2 takeOps2 true).wp Tryz.prog Q a0 w0 := by
  refine wp_region_flow mixed (by rw [hsz]; kernel_rfl) ?_
  rw [show takeOps2.size = 18 by kernel_rfl]
  refine ⟨isVal (.agg #[vp, vw, .int .i64 F.fuse, strC F.torn, .bool F.dead]), step_load5 (.tmp 3) g3 (by kernel_rfl) (wanted_none (by kernel_rfl)) (knows_old 3 (.pointer (some ⟨g3, 0, none⟩)) (by kernel_rfl) e3) hc3, ?_⟩
  refine ⟨isVal (.int .i64 page), step_move (.tmp 1) (by kernel_rfl) (wanted_none (by kernel_rfl)) (stable_val _) (knows_old 1 (.int .i64 page) (by kernel_rfl) e1), ?_⟩
  refine ⟨isVal (.bool false), step_call 80 #[.tmp 13, .tmp 14] #[31, 3] #[.agg #[vp, vw, .int .i64 F.fuse, strC F.torn, .bool F.dead], .int .i64 page] (by kernel_rfl) (wanted_none (by kernel_rfl)) (stable_val _) (args2 (.tmp 13) (.tmp 14) (.agg #[vp, vw, .int .i64 F.fuse, strC F.torn, .bool F.dead]) (.int .i64 page) (knows_new (V := isVal (.agg #[vp, vw, .int .i64 F.fuse, strC F.torn, .bool F.dead])) 13 0 (by kernel_rfl) (by kernel_rfl) (by kernel_rfl)) (knows_new (V := isVal (.int .i64 page)) 14 1 (by kernel_rfl) (by kernel_rfl) (by kernel_rfl))) (enters_of Tryz.func80 (by kernel_rfl) rfl) (by intro w hb; exact call_has F page false _ w (stable_fl _ _ _ _ hfl hb) h1 h2 hhas), ?_⟩
  refine ⟨isVal (.bool true), step_un .not 4 (.tmp 15) (.bool false) (.bool true) (by kernel_rfl) (wanted_none (by kernel_rfl)) (knows_new (V := isVal (.bool false)) 15 2 (by kernel_rfl) (by kernel_rfl) (by kernel_rfl)) (fun _ => rfl), ?_⟩
  refine ⟨isVal (.bool true), step_move (.tmp 16) (by kernel_rfl) (wanted_none (by kernel_rfl)) (stable_val _) (knows_new (V := isVal (.bool true)) 16 3 (by kernel_rfl) (by kernel_rfl) (by kernel_rfl)), ?_⟩
  refine ⟨_, step_skip 4 17 false true (by kernel_rfl) (by kernel_rfl) (by kernel_rfl) (by kernel_rfl) rfl, ?_⟩
  refine ⟨_, step_skip 4 17 false true (by kernel_rfl) (by kernel_rfl) (by kernel_rfl) (by kernel_rfl) rfl, ?_⟩
  refine ⟨_, step_skip 4 17 false true (by kernel_rfl) (by kernel_rfl) (by kernel_rfl) (by kernel_rfl) rfl, ?_⟩
  refine ⟨_, step_skip 4 17 false true (by kernel_rfl) (by kernel_rfl) (by kernel_rfl) (by kernel_rfl) rfl, ?_⟩
  refine ⟨_, step_skip 4 17 false true (by kernel_rfl) (by kernel_rfl) (by kernel_rfl) (by kernel_rfl) rfl, ?_⟩
  refine ⟨_, step_skip 4 17 false true (by kernel_rfl) (by kernel_rfl) (by kernel_rfl) (by kernel_rfl) rfl, ?_⟩
  refine ⟨_, step_skip 4 17 false true (by kernel_rfl) (by kernel_rfl) (by kernel_rfl) (by kernel_rfl) rfl, ?_⟩
  refine ⟨_, step_skip 4 17 false true (by kernel_rfl) (by kernel_rfl) (by kernel_rfl) (by kernel_rfl) rfl, ?_⟩
  refine ⟨_, step_skip 4 17 false true (by kernel_rfl) (by kernel_rfl) (by kernel_rfl) (by kernel_rfl) rfl, ?_⟩
  refine ⟨_, step_skip 4 17 false true (by kernel_rfl) (by kernel_rfl) (by kernel_rfl) (by kernel_rfl) rfl, ?_⟩
  refine ⟨_, step_skip 4 17 false true (by kernel_rfl) (by kernel_rfl) (by kernel_rfl) (by kernel_rfl) rfl, ?_⟩
  refine ⟨_, step_skip 4 17 false true (by kernel_rfl) (by kernel_rfl) (by kernel_rfl) (by kernel_rfl) rfl, ?_⟩
  refine ⟨isVal (.bool true), step_pick (.tmp 17) (.const (.bool true)) (.tmp 29) true (by kernel_rfl) (wanted_none (by kernel_rfl)) (stable_val _) (knows_new (V := isVal (.bool true)) 17 4 (by kernel_rfl) (by kernel_rfl) (by kernel_rfl)) (knows_const _), ?_⟩
  intro a w hkp hb hd
  exact hQ a w hkp.1 hkp.2.1 hkp.2.2 (fdone_of (hd 17 (by rw [show takeOps2.size = 18 by kernel_rfl]; decide)) (t := 30) (V := isVal (.bool true)) (by kernel_rfl) (by kernel_rfl)) hb

set_option maxRecDepth 100000 in
set_option maxHeartbeats 2000000 in
theorem take2_pyes (Q : Exit → Act → World → Prop) (a0 : Act) (w0 : World) (hsz : a0.tmps.size = 84) (g3 : Nat) (F : Fl) (vw : Value) (at_ : Int) (s : List UInt8) (hs : s.length ≤ 1000000) (k b off n cap : Nat) (was : List UInt8) (hkn : k < n) (hcell : w0.cell? ⟨b, off + k, none⟩ = some (.string ⟨was.toArray⟩)) (hb0 : b < w0.heap.size) (hw1 : was.length ≤ 1000000) (hfits : (decide (0 ≤ at_) && decide (at_ ≤ (was.length : Int) - s.length)) = true)
    (e1 : a0.tmps.getD 1 undef = .int .i64 (k : Int)) (e2 : a0.tmps.getD 2 undef = (.iface 77 (.agg #[.int .i64 at_, .string ⟨s.toArray⟩]))) (e3 : a0.tmps.getD 3 undef = .pointer (some ⟨g3, 0, none⟩)) (hc3 : Cells5 w0 g3 (.slice (some ⟨b, off, none⟩) n cap) vw (.int .i64 F.fuse) (strC F.torn) (.bool F.dead)) (hfl : isFl F (.agg #[(.slice (some ⟨b, off, none⟩) n cap), vw, .int .i64 F.fuse, strC F.torn, .bool F.dead]) w0)
    (h1 : F.pages.length ≤ 140737488355328) (h2 : F.wear.length ≤ 140737488355328) (hhas : hasB F (k : Int) = true)
    (hQ : ∀ (a : Act) (w : World), a.defers = a0.defers → a.tmps.size = a0.tmps.size → (∀ t, (takeOps2.toList.all fun o => o.dst != some t) = true → a.tmps.getD t undef = a0.tmps.getD t undef) → a.tmps.getD 30 undef = .bool false → Below w0.heap.size w0 w → Q .normal a w) :
    (Code.region 2 takeOps2 true).wp Tryz.prog Q a0 w0 := by
  refine wp_region_flow mixed (by rw [hsz]; kernel_rfl) ?_
  rw [show takeOps2.size = 18 by kernel_rfl]
  refine ⟨isVal (.agg #[(.slice (some ⟨b, off, none⟩) n cap), vw, .int .i64 F.fuse, strC F.torn, .bool F.dead]), step_load5 (.tmp 3) g3 (by kernel_rfl) (wanted_none (by kernel_rfl)) (knows_old 3 (.pointer (some ⟨g3, 0, none⟩)) (by kernel_rfl) e3) hc3, ?_⟩
  refine ⟨isVal (.int .i64 (k : Int)), step_move (.tmp 1) (by kernel_rfl) (wanted_none (by kernel_rfl)) (stable_val _) (knows_old 1 (.int .i64 (k : Int)) (by kernel_rfl) e1), ?_⟩
  refine ⟨isVal (.bool true), step_call 80 #[.tmp 13, .tmp 14] #[31, 3] #[.agg #[(.slice (some ⟨b, off, none⟩) n cap), vw, .int .i64 F.fuse, strC F.torn, .bool F.dead], .int .i64 (k : Int)] (by kernel_rfl) (wanted_none (by kernel_rfl)) (stable_val _) (args2 (.tmp 13) (.tmp 14) (.agg #[(.slice (some ⟨b, off, none⟩) n cap), vw, .int .i64 F.fuse, strC F.torn, .bool F.dead]) (.int .i64 (k : Int)) (knows_new (V := isVal (.agg #[(.slice (some ⟨b, off, none⟩) n cap), vw, .int .i64 F.fuse, strC F.torn, .bool F.dead])) 13 0 (by kernel_rfl) (by kernel_rfl) (by kernel_rfl)) (knows_new (V := isVal (.int .i64 (k : Int))) 14 1 (by kernel_rfl) (by kernel_rfl) (by kernel_rfl))) (enters_of Tryz.func80 (by kernel_rfl) rfl) (by intro w hb; exact call_has F (k : Int) true _ w (stable_fl _ _ _ _ hfl hb) h1 h2 hhas), ?_⟩
  refine ⟨isVal (.bool false), step_un .not 4 (.tmp 15) (.bool true) (.bool false) (by kernel_rfl) (wanted_none (by kernel_rfl)) (knows_new (V := isVal (.bool true)) 15 2 (by kernel_rfl) (by kernel_rfl) (by kernel_rfl)) (fun _ => rfl), ?_⟩
  refine ⟨isVal (.bool false), step_move (.tmp 16) (by kernel_rfl) (wanted_none (by kernel_rfl)) (stable_val _) (knows_new (V := isVal (.bool false)) 16 3 (by kernel_rfl) (by kernel_rfl) (by kernel_rfl)), ?_⟩
  refine ⟨isVal (.iface 77 (.agg #[.int .i64 at_, .string ⟨s.toArray⟩])), step_move (.tmp 2) (by kernel_rfl) (wanted_some 4 17 false (by kernel_rfl) (by kernel_rfl) (by kernel_rfl) (by kernel_rfl)) (stable_val _) (knows_old 2 (.iface 77 (.agg #[.int .i64 at_, .string ⟨s.toArray⟩])) (by kernel_rfl) e2), ?_⟩
  refine ⟨isVal (.pointer (some ⟨g3, 0, none⟩)), step_field 31 (.tmp 3) 0 ⟨g3, 0, none⟩ ⟨g3, 0, none⟩ (by kernel_rfl) (wanted_some 4 17 false (by kernel_rfl) (by kernel_rfl) (by kernel_rfl) (by kernel_rfl)) (knows_old 3 (.pointer (some ⟨g3, 0, none⟩)) (by kernel_rfl) e3) (field_fl g3 0 (by omega)), ?_⟩
  refine ⟨isVal (.slice (some ⟨b, off, none⟩) n cap), step_read 26 (.tmp 19) ⟨g3, 0, none⟩ (.slice (some ⟨b, off, none⟩) n cap) (by kernel_rfl) (wanted_some 4 17 false (by kernel_rfl) (by kernel_rfl) (by kernel_rfl) (by kernel_rfl)) (knows_new (V := isVal (.pointer (some ⟨g3, 0, none⟩))) 19 6 (by kernel_rfl) (by kernel_rfl) (by kernel_rfl)) hc3.2.1 hc3.1 agg_strs, ?_⟩
  refine ⟨isVal (.int .i64 (k : Int)), step_move (.tmp 1) (by kernel_rfl) (wanted_some 4 17 false (by kernel_rfl) (by kernel_rfl) (by kernel_rfl) (by kernel_rfl)) (stable_val _) (knows_old 1 (.int .i64 (k : Int)) (by kernel_rfl) e1), ?_⟩
  refine ⟨isVal (.pointer (some ⟨b, off + k, none⟩)), step_place 26 9 (.tmp 20) (.tmp 21) b off n cap k (by kernel_rfl) (wanted_some 4 17 false (by kernel_rfl) (by kernel_rfl) (by kernel_rfl) (by kernel_rfl)) (knows_new (V := isVal (.slice (some ⟨b, off, none⟩) n cap)) 20 7 (by kernel_rfl) (by kernel_rfl) (by kernel_rfl)) (knows_new (V := isVal (.int .i64 (k : Int))) 21 8 (by kernel_rfl) (by kernel_rfl) (by kernel_rfl)) Tryz.underlying26 (by kernel_rfl) hkn, ?_⟩
  refine ⟨isVal (.string ⟨was.toArray⟩), step_read 9 (.tmp 22) ⟨b, off + k, none⟩ (.string ⟨was.toArray⟩) (by kernel_rfl) (wanted_some 4 17 false (by kernel_rfl) (by kernel_rfl) (by kernel_rfl) (by kernel_rfl)) (knows_new (V := isVal (.pointer (some ⟨b, off + k, none⟩))) 22 9 (by kernel_rfl) (by kernel_rfl) (by kernel_rfl)) hcell hb0 agg_str, ?_⟩
  refine ⟨isVal (.int .i64 (was.length : Int)), step_len 9 (.tmp 23) (.string ⟨was.toArray⟩) (.int .i64 (was.length : Int)) (by kernel_rfl) (wanted_some 4 17 false (by kernel_rfl) (by kernel_rfl) (by kernel_rfl) (by kernel_rfl)) (knows_new (V := isVal (.string ⟨was.toArray⟩)) 23 10 (by kernel_rfl) (by kernel_rfl) (by kernel_rfl)) (len_str was), ?_⟩
  refine ⟨isVal (.func (.method "ouroboros/flash.fits") #[(.iface 77 (.agg #[.int .i64 at_, .string ⟨s.toArray⟩]))] #[]), step_method "ouroboros/flash.fits" (.tmp 18) (.iface 77 (.agg #[.int .i64 at_, .string ⟨s.toArray⟩])) (by kernel_rfl) (wanted_some 4 17 false (by kernel_rfl) (by kernel_rfl) (by kernel_rfl) (by kernel_rfl)) (knows_new (V := isVal (.iface 77 (.agg #[.int .i64 at_, .string ⟨s.toArray⟩]))) 18 5 (by kernel_rfl) (by kernel_rfl) (by kernel_rfl)), ?_⟩
  refine ⟨isVal (.func (.method "ouroboros/flash.fits") #[(.iface 77 (.agg #[.int .i64 at_, .string ⟨s.toArray⟩]))] #[]), step_nil "ouroboros/flash.fits" (.tmp 25) 77 (.agg #[.int .i64 at_, .string ⟨s.toArray⟩]) (by kernel_rfl) (wanted_some 4 17 false (by kernel_rfl) (by kernel_rfl) (by kernel_rfl) (by kernel_rfl)) (knows_new (V := isVal (.func (.method "ouroboros/flash.fits") #[(.iface 77 (.agg #[.int .i64 at_, .string ⟨s.toArray⟩]))] #[])) 25 12 (by kernel_rfl) (by kernel_rfl) (by kernel_rfl)) (fun w => by kernel_rfl), ?_⟩
  refine ⟨isVal (.iface 77 (.agg #[.int .i64 at_, .string ⟨s.toArray⟩])), step_move (.tmp 18) (by kernel_rfl) (wanted_some 4 17 false (by kernel_rfl) (by kernel_rfl) (by kernel_rfl) (by kernel_rfl)) (stable_val _) (knows_new (V := isVal (.iface 77 (.agg #[.int .i64 at_, .string ⟨s.toArray⟩]))) 18 5 (by kernel_rfl) (by kernel_rfl) (by kernel_rfl)), ?_⟩
  refine ⟨isVal (.bool true), step_invoke "ouroboros/flash.fits" (.tmp 27) (.iface 77 (.agg #[.int .i64 at_, .string ⟨s.toArray⟩])) 169 #[.tmp 24] #[3] #[.int .i64 (was.length : Int)] #[.agg #[.int .i64 at_, .string ⟨s.toArray⟩], .int .i64 (was.length : Int)] (by kernel_rfl) (wanted_some 4 17 false (by kernel_rfl) (by kernel_rfl) (by kernel_rfl) (by kernel_rfl)) (stable_val _) (args1 (.tmp 24) (.int .i64 (was.length : Int)) (knows_new (V := isVal (.int .i64 (was.length : Int))) 24 11 (by kernel_rfl) (by kernel_rfl) (by kernel_rfl))) (knows_new (V := isVal (.iface 77 (.agg #[.int .i64 at_, .string ⟨s.toArray⟩]))) 27 14 (by kernel_rfl) (by kernel_rfl) (by kernel_rfl)) (fun w => by kernel_rfl) (by intro w hb; exact call_pfits at_ s was.length true w hs hw1 hfits), ?_⟩
  refine ⟨isVal (.bool false), step_un .not 4 (.tmp 28) (.bool true) (.bool false) (by kernel_rfl) (wanted_some 4 17 false (by kernel_rfl) (by kernel_rfl) (by kernel_rfl) (by kernel_rfl)) (knows_new (V := isVal (.bool true)) 28 15 (by kernel_rfl) (by kernel_rfl) (by kernel_rfl)) (fun _ => rfl), ?_⟩
  refine ⟨isVal (.bool false), step_pick (.tmp 17) (.const (.bool true)) (.tmp 29) false (by kernel_rfl) (wanted_none (by kernel_rfl)) (stable_val _) (knows_new (V := isVal (.bool false)) 17 4 (by kernel_rfl) (by kernel_rfl) (by kernel_rfl)) (knows_new (V := isVal (.bool false)) 29 16 (by kernel_rfl) (by kernel_rfl) (by kernel_rfl)), ?_⟩
  intro a w hkp hb hd
  exact hQ a w hkp.1 hkp.2.1 hkp.2.2 (fdone_of (hd 17 (by rw [show takeOps2.size = 18 by kernel_rfl]; decide)) (t := 30) (V := isVal (.bool false)) (by kernel_rfl) (by kernel_rfl)) hb

set_option maxRecDepth 100000 in
set_option maxHeartbeats 2000000 in
theorem take2_pout (Q : Exit → Act → World → Prop) (a0 : Act) (w0 : World) (hsz : a0.tmps.size = 84) (g3 : Nat) (F : Fl) (vw : Value) (at_ : Int) (s : List UInt8) (hs : s.length ≤ 1000000) (k b off n cap : Nat) (was : List UInt8) (hkn : k < n) (hcell : w0.cell? ⟨b, off + k, none⟩ = some (.string ⟨was.toArray⟩)) (hb0 : b < w0.heap.size) (hw1 : was.length ≤ 1000000) (hfits : (decide (0 ≤ at_) && decide (at_ ≤ (was.length : Int) - s.length)) = false)
    (e1 : a0.tmps.getD 1 undef = .int .i64 (k : Int)) (e2 : a0.tmps.getD 2 undef = (.iface 77 (.agg #[.int .i64 at_, .string ⟨s.toArray⟩]))) (e3 : a0.tmps.getD 3 undef = .pointer (some ⟨g3, 0, none⟩)) (hc3 : Cells5 w0 g3 (.slice (some ⟨b, off, none⟩) n cap) vw (.int .i64 F.fuse) (strC F.torn) (.bool F.dead)) (hfl : isFl F (.agg #[(.slice (some ⟨b, off, none⟩) n cap), vw, .int .i64 F.fuse, strC F.torn, .bool F.dead]) w0)
    (h1 : F.pages.length ≤ 140737488355328) (h2 : F.wear.length ≤ 140737488355328) (hhas : hasB F (k : Int) = true)
    (hQ : ∀ (a : Act) (w : World), a.defers = a0.defers → a.tmps.size = a0.tmps.size → (∀ t, (takeOps2.toList.all fun o => o.dst != some t) = true → a.tmps.getD t undef = a0.tmps.getD t undef) → a.tmps.getD 30 undef = .bool true → Below w0.heap.size w0 w → Q .normal a w) :
    (Code.region 2 takeOps2 true).wp Tryz.prog Q a0 w0 := by
  refine wp_region_flow mixed (by rw [hsz]; kernel_rfl) ?_
  rw [show takeOps2.size = 18 by kernel_rfl]
  refine ⟨isVal (.agg #[(.slice (some ⟨b, off, none⟩) n cap), vw, .int .i64 F.fuse, strC F.torn, .bool F.dead]), step_load5 (.tmp 3) g3 (by kernel_rfl) (wanted_none (by kernel_rfl)) (knows_old 3 (.pointer (some ⟨g3, 0, none⟩)) (by kernel_rfl) e3) hc3, ?_⟩
  refine ⟨isVal (.int .i64 (k : Int)), step_move (.tmp 1) (by kernel_rfl) (wanted_none (by kernel_rfl)) (stable_val _) (knows_old 1 (.int .i64 (k : Int)) (by kernel_rfl) e1), ?_⟩
  refine ⟨isVal (.bool true), step_call 80 #[.tmp 13, .tmp 14] #[31, 3] #[.agg #[(.slice (some ⟨b, off, none⟩) n cap), vw, .int .i64 F.fuse, strC F.torn, .bool F.dead], .int .i64 (k : Int)] (by kernel_rfl) (wanted_none (by kernel_rfl)) (stable_val _) (args2 (.tmp 13) (.tmp 14) (.agg #[(.slice (some ⟨b, off, none⟩) n cap), vw, .int .i64 F.fuse, strC F.torn, .bool F.dead]) (.int .i64 (k : Int)) (knows_new (V := isVal (.agg #[(.slice (some ⟨b, off, none⟩) n cap), vw, .int .i64 F.fuse, strC F.torn, .bool F.dead])) 13 0 (by kernel_rfl) (by kernel_rfl) (by kernel_rfl)) (knows_new (V := isVal (.int .i64 (k : Int))) 14 1 (by kernel_rfl) (by kernel_rfl) (by kernel_rfl))) (enters_of Tryz.func80 (by kernel_rfl) rfl) (by intro w hb; exact call_has F (k : Int) true _ w (stable_fl _ _ _ _ hfl hb) h1 h2 hhas), ?_⟩
  refine ⟨isVal (.bool false), step_un .not 4 (.tmp 15) (.bool true) (.bool false) (by kernel_rfl) (wanted_none (by kernel_rfl)) (knows_new (V := isVal (.bool true)) 15 2 (by kernel_rfl) (by kernel_rfl) (by kernel_rfl)) (fun _ => rfl), ?_⟩
  refine ⟨isVal (.bool false), step_move (.tmp 16) (by kernel_rfl) (wanted_none (by kernel_rfl)) (stable_val _) (knows_new (V := isVal (.bool false)) 16 3 (by kernel_rfl) (by kernel_rfl) (by kernel_rfl)), ?_⟩
  refine ⟨isVal (.iface 77 (.agg #[.int .i64 at_, .string ⟨s.toArray⟩])), step_move (.tmp 2) (by kernel_rfl) (wanted_some 4 17 false (by kernel_rfl) (by kernel_rfl) (by kernel_rfl) (by kernel_rfl)) (stable_val _) (knows_old 2 (.iface 77 (.agg #[.int .i64 at_, .string ⟨s.toArray⟩])) (by kernel_rfl) e2), ?_⟩
  refine ⟨isVal (.pointer (some ⟨g3, 0, none⟩)), step_field 31 (.tmp 3) 0 ⟨g3, 0, none⟩ ⟨g3, 0, none⟩ (by kernel_rfl) (wanted_some 4 17 false (by kernel_rfl) (by kernel_rfl) (by kernel_rfl) (by kernel_rfl)) (knows_old 3 (.pointer (some ⟨g3, 0, none⟩)) (by kernel_rfl) e3) (field_fl g3 0 (by omega)), ?_⟩
  refine ⟨isVal (.slice (some ⟨b, off, none⟩) n cap), step_read 26 (.tmp 19) ⟨g3, 0, none⟩ (.slice (some ⟨b, off, none⟩) n cap) (by kernel_rfl) (wanted_some 4 17 false (by kernel_rfl) (by kernel_rfl) (by kernel_rfl) (by kernel_rfl)) (knows_new (V := isVal (.pointer (some ⟨g3, 0, none⟩))) 19 6 (by kernel_rfl) (by kernel_rfl) (by kernel_rfl)) hc3.2.1 hc3.1 agg_strs, ?_⟩
  refine ⟨isVal (.int .i64 (k : Int)), step_move (.tmp 1) (by kernel_rfl) (wanted_some 4 17 false (by kernel_rfl) (by kernel_rfl) (by kernel_rfl) (by kernel_rfl)) (stable_val _) (knows_old 1 (.int .i64 (k : Int)) (by kernel_rfl) e1), ?_⟩
  refine ⟨isVal (.pointer (some ⟨b, off + k, none⟩)), step_place 26 9 (.tmp 20) (.tmp 21) b off n cap k (by kernel_rfl) (wanted_some 4 17 false (by kernel_rfl) (by kernel_rfl) (by kernel_rfl) (by kernel_rfl)) (knows_new (V := isVal (.slice (some ⟨b, off, none⟩) n cap)) 20 7 (by kernel_rfl) (by kernel_rfl) (by kernel_rfl)) (knows_new (V := isVal (.int .i64 (k : Int))) 21 8 (by kernel_rfl) (by kernel_rfl) (by kernel_rfl)) Tryz.underlying26 (by kernel_rfl) hkn, ?_⟩
  refine ⟨isVal (.string ⟨was.toArray⟩), step_read 9 (.tmp 22) ⟨b, off + k, none⟩ (.string ⟨was.toArray⟩) (by kernel_rfl) (wanted_some 4 17 false (by kernel_rfl) (by kernel_rfl) (by kernel_rfl) (by kernel_rfl)) (knows_new (V := isVal (.pointer (some ⟨b, off + k, none⟩))) 22 9 (by kernel_rfl) (by kernel_rfl) (by kernel_rfl)) hcell hb0 agg_str, ?_⟩
  refine ⟨isVal (.int .i64 (was.length : Int)), step_len 9 (.tmp 23) (.string ⟨was.toArray⟩) (.int .i64 (was.length : Int)) (by kernel_rfl) (wanted_some 4 17 false (by kernel_rfl) (by kernel_rfl) (by kernel_rfl) (by kernel_rfl)) (knows_new (V := isVal (.string ⟨was.toArray⟩)) 23 10 (by kernel_rfl) (by kernel_rfl) (by kernel_rfl)) (len_str was), ?_⟩
  refine ⟨isVal (.func (.method "ouroboros/flash.fits") #[(.iface 77 (.agg #[.int .i64 at_, .string ⟨s.toArray⟩]))] #[]), step_method "ouroboros/flash.fits" (.tmp 18) (.iface 77 (.agg #[.int .i64 at_, .string ⟨s.toArray⟩])) (by kernel_rfl) (wanted_some 4 17 false (by kernel_rfl) (by kernel_rfl) (by kernel_rfl) (by kernel_rfl)) (knows_new (V := isVal (.iface 77 (.agg #[.int .i64 at_, .string ⟨s.toArray⟩]))) 18 5 (by kernel_rfl) (by kernel_rfl) (by kernel_rfl)), ?_⟩
  refine ⟨isVal (.func (.method "ouroboros/flash.fits") #[(.iface 77 (.agg #[.int .i64 at_, .string ⟨s.toArray⟩]))] #[]), step_nil "ouroboros/flash.fits" (.tmp 25) 77 (.agg #[.int .i64 at_, .string ⟨s.toArray⟩]) (by kernel_rfl) (wanted_some 4 17 false (by kernel_rfl) (by kernel_rfl) (by kernel_rfl) (by kernel_rfl)) (knows_new (V := isVal (.func (.method "ouroboros/flash.fits") #[(.iface 77 (.agg #[.int .i64 at_, .string ⟨s.toArray⟩]))] #[])) 25 12 (by kernel_rfl) (by kernel_rfl) (by kernel_rfl)) (fun w => by kernel_rfl), ?_⟩
  refine ⟨isVal (.iface 77 (.agg #[.int .i64 at_, .string ⟨s.toArray⟩])), step_move (.tmp 18) (by kernel_rfl) (wanted_some 4 17 false (by kernel_rfl) (by kernel_rfl) (by kernel_rfl) (by kernel_rfl)) (stable_val _) (knows_new (V := isVal (.iface 77 (.agg #[.int .i64 at_, .string ⟨s.toArray⟩]))) 18 5 (by kernel_rfl) (by kernel_rfl) (by kernel_rfl)), ?_⟩
  refine ⟨isVal (.bool false), step_invoke "ouroboros/flash.fits" (.tmp 27) (.iface 77 (.agg #[.int .i64 at_, .string ⟨s.toArray⟩])) 169 #[.tmp 24] #[3] #[.int .i64 (was.length : Int)] #[.agg #[.int .i64 at_, .string ⟨s.toArray⟩], .int .i64 (was.length : Int)] (by kernel_rfl) (wanted_some 4 17 false (by kernel_rfl) (by kernel_rfl) (by kernel_rfl) (by kernel_rfl)) (stable_val _) (args1 (.tmp 24) (.int .i64 (was.length : Int)) (knows_new (V := isVal (.int .i64 (was.length : Int))) 24 11 (by kernel_rfl) (by kernel_rfl) (by kernel_rfl))) (knows_new (V := isVal (.iface 77 (.agg #[.int .i64 at_, .string ⟨s.toArray⟩]))) 27 14 (by kernel_rfl) (by kernel_rfl) (by kernel_rfl)) (fun w => by kernel_rfl) (by intro w hb; exact call_pfits at_ s was.length false w hs hw1 hfits), ?_⟩
  refine ⟨isVal (.bool true), step_un .not 4 (.tmp 28) (.bool false) (.bool true) (by kernel_rfl) (wanted_some 4 17 false (by kernel_rfl) (by kernel_rfl) (by kernel_rfl) (by kernel_rfl)) (knows_new (V := isVal (.bool false)) 28 15 (by kernel_rfl) (by kernel_rfl) (by kernel_rfl)) (fun _ => rfl), ?_⟩
  refine ⟨isVal (.bool true), step_pick (.tmp 17) (.const (.bool true)) (.tmp 29) false (by kernel_rfl) (wanted_none (by kernel_rfl)) (stable_val _) (knows_new (V := isVal (.bool false)) 17 4 (by kernel_rfl) (by kernel_rfl) (by kernel_rfl)) (knows_new (V := isVal (.bool true)) 29 16 (by kernel_rfl) (by kernel_rfl) (by kernel_rfl)), ?_⟩
  intro a w hkp hb hd
  exact hQ a w hkp.1 hkp.2.1 hkp.2.2 (fdone_of (hd 17 (by rw [show takeOps2.size = 18 by kernel_rfl]; decide)) (t := 30) (V := isVal (.bool true)) (by kernel_rfl) (by kernel_rfl)) hb

section
variable {P : Program} {ops : Array Oper} {Q : Exit → Act → World → Prop} {i c : Nat} {a : Act} {w : World}
theorem tail_place (t e : TypeId) (x y : Operand) (b off n cap k : Nat) (d : Tmp) (hop : (ops[i]?).map (fun o => (o.op, o.guard)) = some (.indexAddr t x y, none)) (hd : (ops[i]?).bind (·.dst) = some d) (hx : a.eval x = .slice (some ⟨b, off, none⟩) n cap) (hy : a.eval y = .int .i64 (k : Int))
    (ht : P.underlying t = some (.slice e)) (hi : (P.info? e).map (·.size) = some 1) (hk : k < n) (h : Tail P ops Q c (i + 1) (a.put (some d) (.pointer (some ⟨b, off + k, none⟩))) w) : Tail P ops Q (c + 1) i a w :=
  tail_op (fun _ _ => True) hop fun o ho e' => by
    rw [ho] at hd
    simp only [Option.bind_some] at hd
    obtain ⟨ie, hie, hz⟩ := Option.map_eq_some_iff.1 hi
    have hsz : (sizeOf e).run P w = .ok 1 w := by simp [sizeOf, typeInfo, hie, hz]
    have hr : (Instr.indexAt t (.slice (some ⟨b, off, none⟩) n cap) (.int .i64 (k : Int))).run P w = .ok (.pointer (some ⟨b, off + k, none⟩)) w := by
      simp [Instr.indexAt, run_underlying ht, asIntOf, hsz, hk, Addr.add]
    unfold Oper.wp execOp
    rw [e']
    simp only [hx, hy, Sem.run_bind, hr, Result.andThen_ok, Sem.run_pure, Oper.upon, hd]
    exact h
end

set_option maxRecDepth 100000 in
set_option maxHeartbeats 2000000 in
theorem take9 (Q : Exit → Act → World → Prop) (a0 : Act) (w0 W : World) (hsz : a0.tmps.size = 84) (lo hi g3 g6 g8 k gp np capp : Nat) (F G : Fl) (vp vw vw' : Value) (was would : List UInt8)
    (e1 : a0.tmps.getD 1 undef = .int .i64 (k : Int)) (e3 : a0.tmps.getD 3 undef = .pointer (some ⟨g3, 0, none⟩)) (e8 : a0.tmps.getD 8 undef = .pointer (some ⟨g8, 0, none⟩)) (e9 : a0.tmps.getD 9 undef = .string ⟨was.toArray⟩) (e10 : a0.tmps.getD 10 undef = .string ⟨would.toArray⟩)
    (h : TI w0 W lo hi g3 g6 g8 F G vp vw (.slice (some ⟨gp, 0, none⟩) np capp) vw') (hknp : k < np) (hkg : k < G.pages.length) (hw1 : was.length ≤ 1000000) (hw2 : would.length ≤ 1000000) (hw3 : F.torn.length ≤ 1000000)
    (hQ : ∀ (a : Act) (W' : World), a.defers = a0.defers → a.tmps.size = a0.tmps.size → (∀ t, (takeOps9.toList.all fun o => o.dst != some t) = true → a.tmps.getD t undef = a0.tmps.getD t undef) →
      TI w0 W' lo hi g3 g6 g8 F { G with pages := G.pages.set k (betweenL was would F.torn), dead := true } vp vw (.slice (some ⟨gp, 0, none⟩) np capp) vw' → Q .normal a W') :
    (Code.region 9 takeOps9 true).wp Tryz.prog Q a0 W := by
  have hc3 := h.c3
  have hc8 := h.c8
  refine wp_region_tail 9 mixed (by rw [hsz]; kernel_rfl) (by kernel_rfl) ?_
  rw [show takeOps9.size - 9 = 3 by kernel_rfl]
  refine ⟨isVal (.pointer (some ⟨g8, 0, none⟩)), step_field 31 (.tmp 8) 0 ⟨g8, 0, none⟩ ⟨g8, 0, none⟩ (by kernel_rfl) (wanted_none (by kernel_rfl)) (knows_old 8 (.pointer (some ⟨g8, 0, none⟩)) (by kernel_rfl) e8) (field_fl g8 0 (by omega)), ?_⟩
  refine ⟨isVal (.slice (some ⟨gp, 0, none⟩) np capp), step_read 26 (.tmp 46) ⟨g8, 0, none⟩ (.slice (some ⟨gp, 0, none⟩) np capp) (by kernel_rfl) (wanted_none (by kernel_rfl)) (knows_new (V := isVal (.pointer (some ⟨g8, 0, none⟩))) 46 0 (by kernel_rfl) (by kernel_rfl) (by kernel_rfl)) hc8.2.1 hc8.1 agg_strs, ?_⟩
  refine ⟨isVal (.int .i64 (k : Int)), step_move (.tmp 1) (by kernel_rfl) (wanted_none (by kernel_rfl)) (stable_val _) (knows_old 1 (.int .i64 (k : Int)) (by kernel_rfl) e1), ?_⟩
  refine ⟨isVal (.string ⟨was.toArray⟩), step_move (.tmp 9) (by kernel_rfl) (wanted_none (by kernel_rfl)) (stable_val _) (knows_old 9 (.string ⟨was.toArray⟩) (by kernel_rfl) e9), ?_⟩
  refine ⟨isVal (.string ⟨would.toArray⟩), step_move (.tmp 10) (by kernel_rfl) (wanted_none (by kernel_rfl)) (stable_val _) (knows_old 10 (.string ⟨would.toArray⟩) (by kernel_rfl) e10), ?_⟩
  refine ⟨isVal (.pointer (some ⟨g3, 3, none⟩)), step_field 31 (.tmp 3) 3 ⟨g3, 0, none⟩ ⟨g3, 3, none⟩ (by kernel_rfl) (wanted_none (by kernel_rfl)) (knows_old 3 (.pointer (some ⟨g3, 0, none⟩)) (by kernel_rfl) e3) (field_fl g3 3 (by omega)), ?_⟩
  refine ⟨isVal (.string ⟨F.torn.toArray⟩), step_read 9 (.tmp 51) ⟨g3, 3, none⟩ (.string ⟨F.torn.toArray⟩) (by kernel_rfl) (wanted_none (by kernel_rfl)) (knows_new (V := isVal (.pointer (some ⟨g3, 3, none⟩))) 51 5 (by kernel_rfl) (by kernel_rfl) (by kernel_rfl)) hc3.2.2.2.2.1 hc3.1 agg_str, ?_⟩
  refine ⟨isVal (.string ⟨(betweenL was would F.torn).toArray⟩), step_call 81 #[.tmp 49, .tmp 50, .tmp 52] #[9, 9, 9] #[.string ⟨was.toArray⟩, .string ⟨would.toArray⟩, .string ⟨F.torn.toArray⟩] (by kernel_rfl) (wanted_none (by kernel_rfl)) (stable_val _) (args3 (.tmp 49) (.tmp 50) (.tmp 52) (.string ⟨was.toArray⟩) (.string ⟨would.toArray⟩) (.string ⟨F.torn.toArray⟩) (knows_new (V := isVal (.string ⟨was.toArray⟩)) 49 3 (by kernel_rfl) (by kernel_rfl) (by kernel_rfl)) (knows_new (V := isVal (.string ⟨would.toArray⟩)) 50 4 (by kernel_rfl) (by kernel_rfl) (by kernel_rfl)) (knows_new (V := isVal (.string ⟨F.torn.toArray⟩)) 52 6 (by kernel_rfl) (by kernel_rfl) (by kernel_rfl))) (enters_of Tryz.func81 (by kernel_rfl) rfl) (by intro w hb; exact call_between was would F.torn w hw1 hw2 hw3), ?_⟩
  refine ⟨isVal (.pointer (some ⟨gp, 0 + k, none⟩)), step_place 26 9 (.tmp 47) (.tmp 48) gp 0 np capp k (by kernel_rfl) (wanted_none (by kernel_rfl)) (knows_new (V := isVal (.slice (some ⟨gp, 0, none⟩) np capp)) 47 1 (by kernel_rfl) (by kernel_rfl) (by kernel_rfl)) (knows_new (V := isVal (.int .i64 (k : Int))) 48 2 (by kernel_rfl) (by kernel_rfl) (by kernel_rfl)) Tryz.underlying26 (by kernel_rfl) hknp, ?_⟩
  intro a w hk hb hd
  have d53 := fdone_of (hd 7 (by decide)) (t := 53) (V := isVal (.string ⟨(betweenL was would F.torn).toArray⟩)) (by kernel_rfl) (by kernel_rfl)
  have d54 := fdone_of (hd 8 (by decide)) (t := 54) (V := isVal (.pointer (some ⟨gp, 0 + k, none⟩))) (by kernel_rfl) (by kernel_rfl)
  rw [Nat.zero_add] at d54
  have x8 : a.tmps.getD 8 undef = .pointer (some ⟨g8, 0, none⟩) := (hk.2.2 8 (by kernel_rfl)).trans e8
  have hs55 : 55 < a.tmps.size := by rw [hk.2.1, hsz]; decide
  have T1 := h.grow hb
  obtain ⟨q1, q2, _⟩ := T1.p'.cell k (strC G.pages[k]) (get_map strC _ _ hkg)
  refine tail_store 9 (.tmp 54) (.tmp 53) ⟨gp, k, none⟩ (strC (betweenL was would F.torn)) _ (by kernel_rfl) (by kernel_rfl) d54 d53 (by kernel_rfl) rfl rfl q1 q2 ?_
  have T2 := T1.page k hkg (betweenL was would F.torn)
  refine tail_field 31 (.tmp 8) 4 ⟨g8, 0, none⟩ ⟨g8, 4, none⟩ 55 (by kernel_rfl) (by kernel_rfl) x8 (field_fl g8 4 (by omega)) ?_
  refine tail_store 4 (.tmp 55) (.const (.bool true)) ⟨g8, 4, none⟩ (.bool true) _ (by kernel_rfl) (by kernel_rfl) (getD_put_self hs55) rfl (by kernel_rfl) rfl rfl T2.c8.2.2.2.2.2 (T2.f8 4) ?_
  refine hQ _ _ ((defers_put (a := a)).trans hk.1) ((size_put (a := a)).trans hk.2.1) (fun t ht => ?_) (T2.die true)
  have hall : (takeOps9.toList.all fun o => o.dst != some 55) = false := by kernel_rfl
  rw [getD_put (fun e => by rw [e, hall] at ht; cases ht)]
  exact hk.2.2 t ht

set_option maxRecDepth 100000 in
set_option maxHeartbeats 2000000 in
theorem take11_e (Q : Exit → Act → World → Prop) (a0 : Act) (w0 W : World) (hsz : a0.tmps.size = 84) (lo hi g3 g6 g8 k gp np capp gw nw capw b2 off2 n2 cap2 : Nat) (F G : Fl) (vp : Value) (would : List UInt8) (wn : Int)
    (e1 : a0.tmps.getD 1 undef = .int .i64 (k : Int)) (e2 : a0.tmps.getD 2 undef = (.iface 64 (.agg #[]))) (e3 : a0.tmps.getD 3 undef = .pointer (some ⟨g3, 0, none⟩)) (e8 : a0.tmps.getD 8 undef = .pointer (some ⟨g8, 0, none⟩)) (e10 : a0.tmps.getD 10 undef = .string ⟨would.toArray⟩)
    (h : TI w0 W lo hi g3 g6 g8 F G vp (.slice (some ⟨b2, off2, none⟩) n2 cap2) (.slice (some ⟨gp, 0, none⟩) np capp) (.slice (some ⟨gw, 0, none⟩) nw capw)) (hknp : k < np) (hkg : k < G.pages.length) (hknw : k < nw) (hkw : k < G.wear.length)
    (hkn2 : k < n2) (hcell2 : W.cell? ⟨b2, off2 + k, none⟩ = some (.int .i64 wn)) (hb20 : b2 < w0.heap.size) (hn0 : 0 ≤ wn) (hn1 : wn ≤ 2147483647)
    (hQ : ∀ (a : Act) (W' : World), a.defers = a0.defers → a.tmps.size = a0.tmps.size → (∀ t, (takeOps11.toList.all fun o => o.dst != some t) = true → a.tmps.getD t undef = a0.tmps.getD t undef) →
      TI w0 W' lo hi g3 g6 g8 F { G with pages := G.pages.set k would, wear := G.wear.set k (wornN wn) } vp (.slice (some ⟨b2, off2, none⟩) n2 cap2) (.slice (some ⟨gp, 0, none⟩) np capp) (.slice (some ⟨gw, 0, none⟩) nw capw) → Q .normal a W') :
    (Code.region 11 takeOps11 true).wp Tryz.prog Q a0 W := by
  have hc3 := h.c3
  have hc8 := h.c8
  have o3 := h.o3
  have o6 := h.o6
  have o8 := h.o8
  obtain ⟨qc, qf, ql, qh, cur, qg⟩ := h.p'.cell k (strC G.pages[k]) (get_map strC _ _ hkg)
  have hne3 : g3 ≠ gp := by omega
  have hne8 : g8 ≠ gp := by omega
  have hne2 : b2 ≠ gp := by omega
  have hb2 : b2 < W.heap.size := Nat.lt_of_lt_of_le hb20 h.below.size
  have hR := wrote_pre gp k (strC would)
  refine wp_region_rel hR 19 mixed (by rw [hsz]; kernel_rfl) (by kernel_rfl) ?_
  rw [show takeOps11.size - 19 = 2 by kernel_rfl]
  refine ⟨isVal (.pointer (some ⟨g8, 0, none⟩)), RStep.of hR (stabR_val _ _) (by kernel_rfl) (fun w hw => step_field 31 (.tmp 8) 0 ⟨g8, 0, none⟩ ⟨g8, 0, none⟩ (by kernel_rfl) (wanted_none (by kernel_rfl)) (knows_old 8 (.pointer (some ⟨g8, 0, none⟩)) (by kernel_rfl) e8) (field_fl g8 0 (by omega))), ?_⟩
  refine ⟨isVal (.slice (some ⟨gp, 0, none⟩) np capp), RStep.of hR (stabR_val _ _) (by kernel_rfl) (fun w hw => step_read 26 (.tmp 57) ⟨g8, 0, none⟩ (.slice (some ⟨gp, 0, none⟩) np capp) (by kernel_rfl) (wanted_none (by kernel_rfl)) (knows_new (V := isVal (.pointer (some ⟨g8, 0, none⟩))) 57 0 (by kernel_rfl) (by kernel_rfl) (by kernel_rfl)) (hw.cell hc8.2.1 hc8.1 hne8) (Nat.lt_of_lt_of_le hc8.1 hw.size) agg_strs), ?_⟩
  refine ⟨isVal (.int .i64 (k : Int)), RStep.of hR (stabR_val _ _) (by kernel_rfl) (fun w hw => step_move (.tmp 1) (by kernel_rfl) (wanted_none (by kernel_rfl)) (stable_val _) (knows_old 1 (.int .i64 (k : Int)) (by kernel_rfl) e1)), ?_⟩
  refine ⟨isVal (.pointer (some ⟨g8, 1, none⟩)), RStep.of hR (stabR_val _ _) (by kernel_rfl) (fun w hw => step_field 31 (.tmp 8) 1 ⟨g8, 0, none⟩ ⟨g8, 1, none⟩ (by kernel_rfl) (wanted_none (by kernel_rfl)) (knows_old 8 (.pointer (some ⟨g8, 0, none⟩)) (by kernel_rfl) e8) (field_fl g8 1 (by omega))), ?_⟩
  refine ⟨isVal (.slice (some ⟨gw, 0, none⟩) nw capw), RStep.of hR (stabR_val _ _) (by kernel_rfl) (fun w hw => step_read 29 (.tmp 60) ⟨g8, 1, none⟩ (.slice (some ⟨gw, 0, none⟩) nw capw) (by kernel_rfl) (wanted_none (by kernel_rfl)) (knows_new (V := isVal (.pointer (some ⟨g8, 1, none⟩))) 60 3 (by kernel_rfl) (by kernel_rfl) (by kernel_rfl)) (hw.cell hc8.2.2.1 hc8.1 hne8) (Nat.lt_of_lt_of_le hc8.1 hw.size) agg_ints), ?_⟩
  refine ⟨isVal (.int .i64 (k : Int)), RStep.of hR (stabR_val _ _) (by kernel_rfl) (fun w hw => step_move (.tmp 1) (by kernel_rfl) (wanted_none (by kernel_rfl)) (stable_val _) (knows_old 1 (.int .i64 (k : Int)) (by kernel_rfl) e1)), ?_⟩
  refine ⟨isVal (.string ⟨would.toArray⟩), RStep.of hR (stabR_val _ _) (by kernel_rfl) (fun w hw => step_move (.tmp 10) (by kernel_rfl) (wanted_none (by kernel_rfl)) (stable_val _) (knows_old 10 (.string ⟨would.toArray⟩) (by kernel_rfl) e10)), ?_⟩
  refine ⟨isVal (.iface 64 (.agg #[])), RStep.of hR (stabR_val _ _) (by kernel_rfl) (fun w hw => step_move (.tmp 2) (by kernel_rfl) (wanted_none (by kernel_rfl)) (stable_val _) (knows_old 2 (.iface 64 (.agg #[])) (by kernel_rfl) e2)), ?_⟩
  refine ⟨isVal (.pointer (some ⟨g3, 1, none⟩)), RStep.of hR (stabR_val _ _) (by kernel_rfl) (fun w hw => step_field 31 (.tmp 3) 1 ⟨g3, 0, none⟩ ⟨g3, 1, none⟩ (by kernel_rfl) (wanted_none (by kernel_rfl)) (knows_old 3 (.pointer (some ⟨g3, 0, none⟩)) (by kernel_rfl) e3) (field_fl g3 1 (by omega))), ?_⟩
  refine ⟨isVal (.slice (some ⟨b2, off2, none⟩) n2 cap2), RStep.of hR (stabR_val _ _) (by kernel_rfl) (fun w hw => step_read 29 (.tmp 65) ⟨g3, 1, none⟩ (.slice (some ⟨b2, off2, none⟩) n2 cap2) (by kernel_rfl) (wanted_none (by kernel_rfl)) (knows_new (V := isVal (.pointer (some ⟨g3, 1, none⟩))) 65 8 (by kernel_rfl) (by kernel_rfl) (by kernel_rfl)) (hw.cell hc3.2.2.1 hc3.1 hne3) (Nat.lt_of_lt_of_le hc3.1 hw.size) agg_ints), ?_⟩
  refine ⟨isVal (.int .i64 (k : Int)), RStep.of hR (stabR_val _ _) (by kernel_rfl) (fun w hw => step_move (.tmp 1) (by kernel_rfl) (wanted_none (by kernel_rfl)) (stable_val _) (knows_old 1 (.int .i64 (k : Int)) (by kernel_rfl) e1)), ?_⟩
  refine ⟨isVal (.pointer (some ⟨b2, off2 + k, none⟩)), RStep.of hR (stabR_val _ _) (by kernel_rfl) (fun w hw => step_place 29 3 (.tmp 66) (.tmp 67) b2 off2 n2 cap2 k (by kernel_rfl) (wanted_none (by kernel_rfl)) (knows_new (V := isVal (.slice (some ⟨b2, off2, none⟩) n2 cap2)) 66 9 (by kernel_rfl) (by kernel_rfl) (by kernel_rfl)) (knows_new (V := isVal (.int .i64 (k : Int))) 67 10 (by kernel_rfl) (by kernel_rfl) (by kernel_rfl)) Tryz.underlying29 (by kernel_rfl) hkn2), ?_⟩
  refine ⟨isVal (.int .i64 wn), RStep.of hR (stabR_val _ _) (by kernel_rfl) (fun w hw => step_read 3 (.tmp 68) ⟨b2, off2 + k, none⟩ (.int .i64 wn) (by kernel_rfl) (wanted_none (by kernel_rfl)) (knows_new (V := isVal (.pointer (some ⟨b2, off2 + k, none⟩))) 68 11 (by kernel_rfl) (by kernel_rfl) (by kernel_rfl)) (hw.cell hcell2 hb2 hne2) (Nat.lt_of_lt_of_le hb2 hw.size) agg_int), ?_⟩
  refine ⟨isVal (.func (.method "ouroboros/flash.wear") #[(.iface 64 (.agg #[]))] #[]), RStep.of hR (stabR_val _ _) (by kernel_rfl) (fun w hw => step_method "ouroboros/flash.wear" (.tmp 64) (.iface 64 (.agg #[])) (by kernel_rfl) (wanted_none (by kernel_rfl)) (knows_new (V := isVal (.iface 64 (.agg #[]))) 64 7 (by kernel_rfl) (by kernel_rfl) (by kernel_rfl))), ?_⟩
  refine ⟨isVal (.func (.method "ouroboros/flash.wear") #[(.iface 64 (.agg #[]))] #[]), RStep.of hR (stabR_val _ _) (by kernel_rfl) (fun w hw => step_nil "ouroboros/flash.wear" (.tmp 70) 64 (.agg #[]) (by kernel_rfl) (wanted_none (by kernel_rfl)) (knows_new (V := isVal (.func (.method "ouroboros/flash.wear") #[(.iface 64 (.agg #[]))] #[])) 70 13 (by kernel_rfl) (by kernel_rfl) (by kernel_rfl)) (fun w => by kernel_rfl)), ?_⟩
  refine ⟨isVal (.iface 64 (.agg #[])), RStep.of hR (stabR_val _ _) (by kernel_rfl) (fun w hw => step_move (.tmp 64) (by kernel_rfl) (wanted_none (by kernel_rfl)) (stable_val _) (knows_new (V := isVal (.iface 64 (.agg #[]))) 64 7 (by kernel_rfl) (by kernel_rfl) (by kernel_rfl))), ?_⟩
  refine ⟨isVal (.int .i64 (wornN wn)), RStep.of hR (stabR_val _ _) (by kernel_rfl) (fun w hw => step_invoke "ouroboros/flash.wear" (.tmp 72) (.iface 64 (.agg #[])) 168 #[.tmp 69] #[3] #[.int .i64 wn] #[.agg #[], .int .i64 wn] (by kernel_rfl) (wanted_none (by kernel_rfl)) (stable_val _) (args1 (.tmp 69) (.int .i64 wn) (knows_new (V := isVal (.int .i64 wn)) 69 12 (by kernel_rfl) (by kernel_rfl) (by kernel_rfl))) (knows_new (V := isVal (.iface 64 (.agg #[]))) 72 15 (by kernel_rfl) (by kernel_rfl) (by kernel_rfl)) (fun w => by kernel_rfl) (by intro w hb; exact call_ewear wn w hn0 hn1)), ?_⟩
  refine ⟨isVal (.pointer (some ⟨gp, 0 + k, none⟩)), RStep.of hR (stabR_val _ _) (by kernel_rfl) (fun w hw => step_place 26 9 (.tmp 58) (.tmp 59) gp 0 np capp k (by kernel_rfl) (wanted_none (by kernel_rfl)) (knows_new (V := isVal (.slice (some ⟨gp, 0, none⟩) np capp)) 58 1 (by kernel_rfl) (by kernel_rfl) (by kernel_rfl)) (knows_new (V := isVal (.int .i64 (k : Int))) 59 2 (by kernel_rfl) (by kernel_rfl) (by kernel_rfl)) Tryz.underlying26 (by kernel_rfl) hknp), ?_⟩
  refine ⟨rowIs gp 9 (cur.setIfInBounds k (strC would)), RStep.store 9 (.tmp 74) (.tmp 63) ⟨gp, 0 + k, none⟩ (strC would) (by kernel_rfl) (knows_new (V := isVal (.pointer (some ⟨gp, 0 + k, none⟩))) 74 17 (by kernel_rfl) (by kernel_rfl) (by kernel_rfl)) (knows_new (V := isVal (.string ⟨would.toArray⟩)) 63 6 (by kernel_rfl) (by kernel_rfl) (by kernel_rfl)) (by kernel_rfl) rfl rfl (stabR_row _ _ _ _ _) ?_, ?_⟩
  · intro w hw
    rw [Nat.zero_add]
    rcases hw.row cur _ qg with hr | hr
    · refine ⟨⟨strC G.pages[k], ?_⟩, by simp [World.frozen?, hr], heap_setCell_same w gp k cur _ _ hr, Wrote.set hr⟩
      have := qc
      simp only [World.cell?, qg] at this
      simp only [World.cell?, hr]
      exact this
    · refine ⟨⟨strC would, ?_⟩, by simp [World.frozen?, hr], ?_, Wrote.set hr⟩
      · have := qc
        simp only [World.cell?, qg] at this
        simp only [World.cell?, hr]
        have hlt : k < cur.size := by
          by_cases e : k < cur.size
          · exact e
          · simp [Array.getElem?_eq_none (by omega : cur.size ≤ k)] at this
        simp [hlt]
      · have := heap_setCell_same w gp k _ _ (strC would) hr
        rw [set_twice] at this
        exact this
  intro a w hk0 hw hd
  have hk := hk0.f
  have d18 := rdone_none (hd 18 (by decide)) (V := rowIs gp 9 (cur.setIfInBounds k (strC would))) (by kernel_rfl) (by kernel_rfl)
  have d73 := rdone_of (hd 16 (by decide)) (t := 73) (V := isVal (.int .i64 (wornN wn))) (by kernel_rfl) (by kernel_rfl)
  have d61 := rdone_of (hd 4 (by decide)) (t := 61) (V := isVal (.slice (some ⟨gw, 0, none⟩) nw capw)) (by kernel_rfl) (by kernel_rfl)
  have d62 := rdone_of (hd 5 (by decide)) (t := 62) (V := isVal (.int .i64 (k : Int))) (by kernel_rfl) (by kernel_rfl)
  have hs75 : 75 < a.tmps.size := by rw [hk.2.1, hsz]; decide
  have T2 := (h.page k hkg would).grow (hw.below qg d18)
  refine tail_place 29 3 (.tmp 61) (.tmp 62) gw 0 nw capw k 75 (by kernel_rfl) (by kernel_rfl) d61 d62 Tryz.underlying29 (by kernel_rfl) hknw ?_
  rw [Nat.zero_add]
  obtain ⟨q3, q4, _⟩ := T2.q'.cell k (intC G.wear[k]) (get_map intC _ _ hkw)
  refine tail_store 3 (.tmp 75) (.tmp 73) ⟨gw, k, none⟩ (intC (wornN wn)) _ (by kernel_rfl) (by kernel_rfl) (getD_put_self hs75) ((getD_put (by decide)).trans d73) (by kernel_rfl) rfl rfl q3 q4 ?_
  refine hQ _ _ ((defers_put (a := a)).trans hk.1) ((size_put (a := a)).trans hk.2.1) (fun t ht => ?_) (T2.wear k hkw (wornN wn))
  have hall : (takeOps11.toList.all fun o => o.dst != some 75) = false := by kernel_rfl
  rw [getD_put (fun e => by rw [e, hall] at ht; cases ht)]
  exact hk.2.2 t ht

set_option maxRecDepth 100000 in
set_option maxHeartbeats 2000000 in
theorem take11_p (Q : Exit → Act → World → Prop) (a0 : Act) (w0 W : World) (hsz : a0.tmps.size = 84) (lo hi g3 g6 g8 k gp np capp gw nw capw b2 off2 n2 cap2 : Nat) (F G : Fl) (vp : Value) (would : List UInt8) (wn : Int) (at_ : Int) (s : List UInt8) (hs : s.length ≤ 1000000)
    (e1 : a0.tmps.getD 1 undef = .int .i64 (k : Int)) (e2 : a0.tmps.getD 2 undef = (.iface 77 (.agg #[.int .i64 at_, .string ⟨s.toArray⟩]))) (e3 : a0.tmps.getD 3 undef = .pointer (some ⟨g3, 0, none⟩)) (e8 : a0.tmps.getD 8 undef = .pointer (some ⟨g8, 0, none⟩)) (e10 : a0.tmps.getD 10 undef = .string ⟨would.toArray⟩)
    (h : TI w0 W lo hi g3 g6 g8 F G vp (.slice (some ⟨b2, off2, none⟩) n2 cap2) (.slice (some ⟨gp, 0, none⟩) np capp) (.slice (some ⟨gw, 0, none⟩) nw capw)) (hknp : k < np) (hkg : k < G.pages.length) (hknw : k < nw) (hkw : k < G.wear.length)
    (hkn2 : k < n2) (hcell2 : W.cell? ⟨b2, off2 + k, none⟩ = some (.int .i64 wn)) (hb20 : b2 < w0.heap.size) (hn0 : 0 ≤ wn) (hn1 : wn ≤ 2147483647)
    (hQ : ∀ (a : Act) (W' : World), a.defers = a0.defers → a.tmps.size = a0.tmps.size → (∀ t, (takeOps11.toList.all fun o => o.dst != some t) = true → a.tmps.getD t undef = a0.tmps.getD t undef) →
      TI w0 W' lo hi g3 g6 g8 F { G with pages := G.pages.set k would, wear := G.wear.set k (wn) } vp (.slice (some ⟨b2, off2, none⟩) n2 cap2) (.slice (some ⟨gp, 0, none⟩) np capp) (.slice (some ⟨gw, 0, none⟩) nw capw) → Q .normal a W') :
    (Code.region 11 takeOps11 true).wp Tryz.prog Q a0 W := by
  have hc3 := h.c3
  have hc8 := h.c8
  have o3 := h.o3
  have o6 := h.o6
  have o8 := h.o8
  obtain ⟨qc, qf, ql, qh, cur, qg⟩ := h.p'.cell k (strC G.pages[k]) (get_map strC _ _ hkg)
  have hne3 : g3 ≠ gp := by omega
  have hne8 : g8 ≠ gp := by omega
  have hne2 : b2 ≠ gp := by omega
  have hb2 : b2 < W.heap.size := Nat.lt_of_lt_of_le hb20 h.below.size
  have hR := wrote_pre gp k (strC would)
  refine wp_region_rel hR 19 mixed (by rw [hsz]; kernel_rfl) (by kernel_rfl) ?_
  rw [show takeOps11.size - 19 = 2 by kernel_rfl]
  refine ⟨isVal (.pointer (some ⟨g8, 0, none⟩)), RStep.of hR (stabR_val _ _) (by kernel_rfl) (fun w hw => step_field 31 (.tmp 8) 0 ⟨g8, 0, none⟩ ⟨g8, 0, none⟩ (by kernel_rfl) (wanted_none (by kernel_rfl)) (knows_old 8 (.pointer (some ⟨g8, 0, none⟩)) (by kernel_rfl) e8) (field_fl g8 0 (by omega))), ?_⟩
  refine ⟨isVal (.slice (some ⟨gp, 0, none⟩) np capp), RStep.of hR (stabR_val _ _) (by kernel_rfl) (fun w hw => step_read 26 (.tmp 57) ⟨g8, 0, none⟩ (.slice (some ⟨gp, 0, none⟩) np capp) (by kernel_rfl) (wanted_none (by kernel_rfl)) (knows_new (V := isVal (.pointer (some ⟨g8, 0, none⟩))) 57 0 (by kernel_rfl) (by kernel_rfl) (by kernel_rfl)) (hw.cell hc8.2.1 hc8.1 hne8) (Nat.lt_of_lt_of_le hc8.1 hw.size) agg_strs), ?_⟩
  refine ⟨isVal (.int .i64 (k : Int)), RStep.of hR (stabR_val _ _) (by kernel_rfl) (fun w hw => step_move (.tmp 1) (by kernel_rfl) (wanted_none (by kernel_rfl)) (stable_val _) (knows_old 1 (.int .i64 (k : Int)) (by kernel_rfl) e1)), ?_⟩
  refine ⟨isVal (.pointer (some ⟨g8, 1, none⟩)), RStep.of hR (stabR_val _ _) (by kernel_rfl) (fun w hw => step_field 31 (.tmp 8) 1 ⟨g8, 0, none⟩ ⟨g8, 1, none⟩ (by kernel_rfl) (wanted_none (by kernel_rfl)) (knows_old 8 (.pointer (some ⟨g8, 0, none⟩)) (by kernel_rfl) e8) (field_fl g8 1 (by omega))), ?_⟩
  refine ⟨isVal (.slice (some ⟨gw, 0, none⟩) nw capw), RStep.of hR (stabR_val _ _) (by kernel_rfl) (fun w hw => step_read 29 (.tmp 60) ⟨g8, 1, none⟩ (.slice (some ⟨gw, 0, none⟩) nw capw) (by kernel_rfl) (wanted_none (by kernel_rfl)) (knows_new (V := isVal (.pointer (some ⟨g8, 1, none⟩))) 60 3 (by kernel_rfl) (by kernel_rfl) (by kernel_rfl)) (hw.cell hc8.2.2.1 hc8.1 hne8) (Nat.lt_of_lt_of_le hc8.1 hw.size) agg_ints), ?_⟩
  refine ⟨isVal (.int .i64 (k : Int)), RStep.of hR (stabR_val _ _) (by kernel_rfl) (fun w hw => step_move (.tmp 1) (by kernel_rfl) (wanted_none (by kernel_rfl)) (stable_val _) (knows_old 1 (.int .i64 (k : Int)) (by kernel_rfl) e1)), ?_⟩
  refine ⟨isVal (.string ⟨would.toArray⟩), RStep.of hR (stabR_val _ _) (by kernel_rfl) (fun w hw => step_move (.tmp 10) (by kernel_rfl) (wanted_none (by kernel_rfl)) (stable_val _) (knows_old 10 (.string ⟨would.toArray⟩) (by kernel_rfl) e10)), ?_⟩
  refine ⟨isVal (.iface 77 (.agg #[.int .i64 at_, .string ⟨s.toArray⟩])), RStep.of hR (stabR_val _ _) (by kernel_rfl) (fun w hw => step_move (.tmp 2) (by kernel_rfl) (wanted_none (by kernel_rfl)) (stable_val _) (knows_old 2 (.iface 77 (.agg #[.int .i64 at_, .string ⟨s.toArray⟩])) (by kernel_rfl) e2)), ?_⟩
  refine ⟨isVal (.pointer (some ⟨g3, 1, none⟩)), RStep.of hR (stabR_val _ _) (by kernel_rfl) (fun w hw => step_field 31 (.tmp 3) 1 ⟨g3, 0, none⟩ ⟨g3, 1, none⟩ (by kernel_rfl) (wanted_none (by kernel_rfl)) (knows_old 3 (.pointer (some ⟨g3, 0, none⟩)) (by kernel_rfl) e3) (field_fl g3 1 (by omega))), ?_⟩
  refine ⟨isVal (.slice (some ⟨b2, off2, none⟩) n2 cap2), RStep.of hR (stabR_val _ _) (by kernel_rfl) (fun w hw => step_read 29 (.tmp 65) ⟨g3, 1, none⟩ (.slice (some ⟨b2, off2, none⟩) n2 cap2) (by kernel_rfl) (wanted_none (by kernel_rfl)) (knows_new (V := isVal (.pointer (some ⟨g3, 1, none⟩))) 65 8 (by kernel_rfl) (by kernel_rfl) (by kernel_rfl)) (hw.cell hc3.2.2.1 hc3.1 hne3) (Nat.lt_of_lt_of_le hc3.1 hw.size) agg_ints), ?_⟩
  refine ⟨isVal (.int .i64 (k : Int)), RStep.of hR (stabR_val _ _) (by kernel_rfl) (fun w hw => step_move (.tmp 1) (by kernel_rfl) (wanted_none (by kernel_rfl)) (stable_val _) (knows_old 1 (.int .i64 (k : Int)) (by kernel_rfl) e1)), ?_⟩
  refine ⟨isVal (.pointer (some ⟨b2, off2 + k, none⟩)), RStep.of hR (stabR_val _ _) (by kernel_rfl) (fun w hw => step_place 29 3 (.tmp 66) (.tmp 67) b2 off2 n2 cap2 k (by kernel_rfl) (wanted_none (by kernel_rfl)) (knows_new (V := isVal (.slice (some ⟨b2, off2, none⟩) n2 cap2)) 66 9 (by kernel_rfl) (by kernel_rfl) (by kernel_rfl)) (knows_new (V := isVal (.int .i64 (k : Int))) 67 10 (by kernel_rfl) (by kernel_rfl) (by kernel_rfl)) Tryz.underlying29 (by kernel_rfl) hkn2), ?_⟩
  refine ⟨isVal (.int .i64 wn), RStep.of hR (stabR_val _ _) (by kernel_rfl) (fun w hw => step_read 3 (.tmp 68) ⟨b2, off2 + k, none⟩ (.int .i64 wn) (by kernel_rfl) (wanted_none (by kernel_rfl)) (knows_new (V := isVal (.pointer (some ⟨b2, off2 + k, none⟩))) 68 11 (by kernel_rfl) (by kernel_rfl) (by kernel_rfl)) (hw.cell hcell2 hb2 hne2) (Nat.lt_of_lt_of_le hb2 hw.size) agg_int), ?_⟩
  refine ⟨isVal (.func (.method "ouroboros/flash.wear") #[(.iface 77 (.agg #[.int .i64 at_, .string ⟨s.toArray⟩]))] #[]), RStep.of hR (stabR_val _ _) (by kernel_rfl) (fun w hw => step_method "ouroboros/flash.wear" (.tmp 64) (.iface 77 (.agg #[.int .i64 at_, .string ⟨s.toArray⟩])) (by kernel_rfl) (wanted_none (by kernel_rfl)) (knows_new (V := isVal (.iface 77 (.agg #[.int .i64 at_, .string ⟨s.toArray⟩]))) 64 7 (by kernel_rfl) (by kernel_rfl) (by kernel_rfl))), ?_⟩
  refine ⟨isVal (.func (.method "ouroboros/flash.wear") #[(.iface 77 (.agg #[.int .i64 at_, .string ⟨s.toArray⟩]))] #[]), RStep.of hR (stabR_val _ _) (by kernel_rfl) (fun w hw => step_nil "ouroboros/flash.wear" (.tmp 70) 77 (.agg #[.int .i64 at_, .string ⟨s.toArray⟩]) (by kernel_rfl) (wanted_none (by kernel_rfl)) (knows_new (V := isVal (.func (.method "ouroboros/flash.wear") #[(.iface 77 (.agg #[.int .i64 at_, .string ⟨s.toArray⟩]))] #[])) 70 13 (by kernel_rfl) (by kernel_rfl) (by kernel_rfl)) (fun w => by kernel_rfl)), ?_⟩
  refine ⟨isVal (.iface 77 (.agg #[.int .i64 at_, .string ⟨s.toArray⟩])), RStep.of hR (stabR_val _ _) (by kernel_rfl) (fun w hw => step_move (.tmp 64) (by kernel_rfl) (wanted_none (by kernel_rfl)) (stable_val _) (knows_new (V := isVal (.iface 77 (.agg #[.int .i64 at_, .string ⟨s.toArray⟩]))) 64 7 (by kernel_rfl) (by kernel_rfl) (by kernel_rfl))), ?_⟩
  refine ⟨isVal (.int .i64 wn), RStep.of hR (stabR_val _ _) (by kernel_rfl) (fun w hw => step_invoke "ouroboros/flash.wear" (.tmp 72) (.iface 77 (.agg #[.int .i64 at_, .string ⟨s.toArray⟩])) 171 #[.tmp 69] #[3] #[.int .i64 wn] #[.agg #[.int .i64 at_, .string ⟨s.toArray⟩], .int .i64 wn] (by kernel_rfl) (wanted_none (by kernel_rfl)) (stable_val _) (args1 (.tmp 69) (.int .i64 wn) (knows_new (V := isVal (.int .i64 wn)) 69 12 (by kernel_rfl) (by kernel_rfl) (by kernel_rfl))) (knows_new (V := isVal (.iface 77 (.agg #[.int .i64 at_, .string ⟨s.toArray⟩]))) 72 15 (by kernel_rfl) (by kernel_rfl) (by kernel_rfl)) (fun w => by kernel_rfl) (by intro w hb; exact call_pwear at_ s wn w)), ?_⟩
  refine ⟨isVal (.pointer (some ⟨gp, 0 + k, none⟩)), RStep.of hR (stabR_val _ _) (by kernel_rfl) (fun w hw => step_place 26 9 (.tmp 58) (.tmp 59) gp 0 np capp k (by kernel_rfl) (wanted_none (by kernel_rfl)) (knows_new (V := isVal (.slice (some ⟨gp, 0, none⟩) np capp)) 58 1 (by kernel_rfl) (by kernel_rfl) (by kernel_rfl)) (knows_new (V := isVal (.int .i64 (k : Int))) 59 2 (by kernel_rfl) (by kernel_rfl) (by kernel_rfl)) Tryz.underlying26 (by kernel_rfl) hknp), ?_⟩
  refine ⟨rowIs gp 9 (cur.setIfInBounds k (strC would)), RStep.store 9 (.tmp 74) (.tmp 63) ⟨gp, 0 + k, none⟩ (strC would) (by kernel_rfl) (knows_new (V := isVal (.pointer (some ⟨gp, 0 + k, none⟩))) 74 17 (by kernel_rfl) (by kernel_rfl) (by kernel_rfl)) (knows_new (V := isVal (.string ⟨would.toArray⟩)) 63 6 (by kernel_rfl) (by kernel_rfl) (by kernel_rfl)) (by kernel_rfl) rfl rfl (stabR_row _ _ _ _ _) ?_, ?_⟩
  · intro w hw
    rw [Nat.zero_add]
    rcases hw.row cur _ qg with hr | hr
    · refine ⟨⟨strC G.pages[k], ?_⟩, by simp [World.frozen?, hr], heap_setCell_same w gp k cur _ _ hr, Wrote.set hr⟩
      have := qc
      simp only [World.cell?, qg] at this
      simp only [World.cell?, hr]
      exact this
    · refine ⟨⟨strC would, ?_⟩, by simp [World.frozen?, hr], ?_, Wrote.set hr⟩
      · have := qc
        simp only [World.cell?, qg] at this
        simp only [World.cell?, hr]
        have hlt : k < cur.size := by
          by_cases e : k < cur.size
          · exact e
          · simp [Array.getElem?_eq_none (by omega : cur.size ≤ k)] at this
        simp [hlt]
      · have := heap_setCell_same w gp k _ _ (strC would) hr
        rw [set_twice] at this
        exact this
  intro a w hk0 hw hd
  have hk := hk0.f
  have d18 := rdone_none (hd 18 (by decide)) (V := rowIs gp 9 (cur.setIfInBounds k (strC would))) (by kernel_rfl) (by kernel_rfl)
  have d73 := rdone_of (hd 16 (by decide)) (t := 73) (V := isVal (.int .i64 (wn))) (by kernel_rfl) (by kernel_rfl)
  have d61 := rdone_of (hd 4 (by decide)) (t := 61) (V := isVal (.slice (some ⟨gw, 0, none⟩) nw capw)) (by kernel_rfl) (by kernel_rfl)
  have d62 := rdone_of (hd 5 (by decide)) (t := 62) (V := isVal (.int .i64 (k : Int))) (by kernel_rfl) (by kernel_rfl)
  have hs75 : 75 < a.tmps.size := by rw [hk.2.1, hsz]; decide
  have T2 := (h.page k hkg would).grow (hw.below qg d18)
  refine tail_place 29 3 (.tmp 61) (.tmp 62) gw 0 nw capw k 75 (by kernel_rfl) (by kernel_rfl) d61 d62 Tryz.underlying29 (by kernel_rfl) hknw ?_
  rw [Nat.zero_add]
  obtain ⟨q3, q4, _⟩ := T2.q'.cell k (intC G.wear[k]) (get_map intC _ _ hkw)
  refine tail_store 3 (.tmp 75) (.tmp 73) ⟨gw, k, none⟩ (intC (wn)) _ (by kernel_rfl) (by kernel_rfl) (getD_put_self hs75) ((getD_put (by decide)).trans d73) (by kernel_rfl) rfl rfl q3 q4 ?_
  refine hQ _ _ ((defers_put (a := a)).trans hk.1) ((size_put (a := a)).trans hk.2.1) (fun t ht => ?_) (T2.wear k hkw (wn))
  have hall : (takeOps11.toList.all fun o => o.dst != some 75) = false := by kernel_rfl
  rw [getD_put (fun e => by rw [e, hall] at ht; cases ht)]
  exact hk.2.2 t ht
end Go.Proofs.YtipiioggdalkoaaGreatDoor
