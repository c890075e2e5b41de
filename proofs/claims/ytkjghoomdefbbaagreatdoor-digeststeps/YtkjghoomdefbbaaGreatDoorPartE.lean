/- Joined texts: contracts of the program's functions, and the mathematics that they lean on. -/
import Derived.Test.YtkjghoomdefbbaaGreatDoorPartD
import Derived.RangeFuncNested
import Derived.RangeFuncBound
import Derived.RangeFuncFrom
import Derived.Laws.AppendOwnNone
import Derived.SizedLaws
import Derived.SliceStrings
import Derived.Carry
section
namespace Go.Proofs.YtkjghoomdefbbaaGreatDoor
open Go.RowKit
set_option linter.unusedVariables false
set_option linter.unusedSimpArgs false
attribute [local irreducible] setN

theorem search_val (A : Ar) (Y : En) (P : Nat) (Z : Bool) (v u : Value) (w : World) (hok : OkA A) (hv : isAr A v w) (hu : isEn Y u w) (hP : posN (ordA A) Y = P) (hZ : hitB (ordA A) Y = Z) : Calls Tryz.prog 54 #[v, u] w fun e w' => ∃ x, e = .returned x ∧ isVal (.tuple #[.int .i64 (P : Int), .bool Z]) x w' ∧ Below w.heap.size w w' :=
  (search_any A Y v u w hok hv hu).mono (by rintro e w' ⟨rfl, h⟩; exact ⟨_, rfl, by rw [hP, hZ]; rfl, h⟩)
noncomputable def jn3Ops : Array Oper := regionOf Tryz.f48 3
set_option maxRecDepth 100000 in
set_option maxHeartbeats 2000000 in
theorem jn3_region (Q : Exit → Act → World → Prop) (a0 : Act) (w0 : World) (hsz : a0.tmps.size = 83) (A : Ar) (g h P : Nat) (Z : Bool) (Y : En) (vs vi yp ym : Value) (e0 : a0.tmps.getD 0 undef = .pointer (some ⟨g, 0, none⟩)) (e3 : a0.tmps.getD 3 undef = .pointer (some ⟨h, 0, none⟩)) (HG : Blk w0 g [.int .i64 A.cap, vs, vi]) (HE : Blk w0 h [.string ⟨Y.key.toArray⟩, .int .i64 Y.val.kind, .int .i64 Y.val.time, .int .i64 Y.val.node, .bool Y.val.dead, .string ⟨Y.val.text.toArray⟩, yp, ym, .int .u64 (Y.val.flags.toNat : Int)]) (hok : OkA A) (hA : isAr A (.agg #[.int .i64 A.cap, vs, vi]) w0) (hyp : isCells (Y.val.plus.map intC) yp w0) (hym : isCells (Y.val.minus.map intC) ym w0) (hP : posN (ordA A) Y = P) (hZ : hitB (ordA A) Y = Z)
    (hQ : ∀ (g : Nat → Value) (w : World), g 6 = .int .i64 (P : Int) → g 7 = .bool Z → Below w0.heap.size w0 w → Q .normal { tmps := [20, 21, 22, 23, 24, 25, 19, 26, 27, 6, 7].foldl (fun t s => t.setIfInBounds s (g s)) a0.tmps, defers := a0.defers } w) :
    (Code.region 3 jn3Ops true).wp Tryz.prog Q a0 w0 := by
  refine wp_region_flow mixed (by rw [hsz]; kernel_rfl) ?_
  rw [show jn3Ops.size = 11 by kernel_rfl]
  refine ⟨isVal (.pointer (some ⟨g, 0, none⟩)), step_move (.tmp 0) (by kernel_rfl) (wanted_none (by kernel_rfl)) (stable_val _) (knows_old 0 (.pointer (some ⟨g, 0, none⟩)) (by kernel_rfl) e0), ?_⟩
  refine ⟨isVal (.pointer (some ⟨g, 0, none⟩)), step_nilA (.tmp 20) ⟨g, 0, none⟩ (by kernel_rfl) (wanted_none (by kernel_rfl)) (knows_new (V := isVal (.pointer (some ⟨g, 0, none⟩))) 20 0 (by kernel_rfl) (by kernel_rfl) (by kernel_rfl)), ?_⟩
  refine ⟨isVal (.pointer (some ⟨g, 0, none⟩)), step_field 78 (.tmp 21) 0 ⟨g, 0, none⟩ ⟨g, 0, none⟩ (by kernel_rfl) (wanted_none (by kernel_rfl)) (knows_new (V := isVal (.pointer (some ⟨g, 0, none⟩))) 21 1 (by kernel_rfl) (by kernel_rfl) (by kernel_rfl)) (f_ch_0_0 (g)), ?_⟩
  refine ⟨isVal (.agg #[.int .i64 A.cap, vs, vi]), step_loadA 25 (.tmp 22) (g) (0) [.int .i64 A.cap, vs, vi] (by kernel_rfl) (wanted_none (by kernel_rfl)) (knows_new (V := isVal (.pointer (some ⟨g, 0, none⟩))) 22 2 (by kernel_rfl) (by kernel_rfl) (by kernel_rfl)) size_ar agg_ar (⟨HG.lt, fun j x hx => by rw [Nat.zero_add]; exact HG.cells.2 j x hx⟩), ?_⟩
  refine ⟨isVal (.agg #[.string ⟨Y.key.toArray⟩, .int .i64 Y.val.kind, .int .i64 Y.val.time, .int .i64 Y.val.node, .bool Y.val.dead, .string ⟨Y.val.text.toArray⟩, yp, ym, .int .u64 (Y.val.flags.toNat : Int)]), step_loadA 48 (.tmp 3) (h) (0) [.string ⟨Y.key.toArray⟩, .int .i64 Y.val.kind, .int .i64 Y.val.time, .int .i64 Y.val.node, .bool Y.val.dead, .string ⟨Y.val.text.toArray⟩, yp, ym, .int .u64 (Y.val.flags.toNat : Int)] (by kernel_rfl) (wanted_none (by kernel_rfl)) (knows_old 3 (.pointer (some ⟨h, 0, none⟩)) (by kernel_rfl) e3) size_en agg_en (⟨HE.lt, fun j x hx => by rw [Nat.zero_add]; exact HE.cells.2 j x hx⟩), ?_⟩
  refine ⟨isVal (.tuple #[.int .i64 (P : Int), .bool Z]), step_call 54 #[.tmp 23, .tmp 24] #[25, 48] #[.agg #[.int .i64 A.cap, vs, vi], .agg #[.string ⟨Y.key.toArray⟩, .int .i64 Y.val.kind, .int .i64 Y.val.time, .int .i64 Y.val.node, .bool Y.val.dead, .string ⟨Y.val.text.toArray⟩, yp, ym, .int .u64 (Y.val.flags.toNat : Int)]] (by kernel_rfl) (wanted_none (by kernel_rfl)) (stable_val _) (args2 (.tmp 23) (.tmp 24) (.agg #[.int .i64 A.cap, vs, vi]) (.agg #[.string ⟨Y.key.toArray⟩, .int .i64 Y.val.kind, .int .i64 Y.val.time, .int .i64 Y.val.node, .bool Y.val.dead, .string ⟨Y.val.text.toArray⟩, yp, ym, .int .u64 (Y.val.flags.toNat : Int)]) (knows_new (V := isVal (.agg #[.int .i64 A.cap, vs, vi])) 23 3 (by kernel_rfl) (by kernel_rfl) (by kernel_rfl)) (knows_new (V := isVal (.agg #[.string ⟨Y.key.toArray⟩, .int .i64 Y.val.kind, .int .i64 Y.val.time, .int .i64 Y.val.node, .bool Y.val.dead, .string ⟨Y.val.text.toArray⟩, yp, ym, .int .u64 (Y.val.flags.toNat : Int)])) 24 4 (by kernel_rfl) (by kernel_rfl) (by kernel_rfl))) (enters_of Tryz.func54 (by kernel_rfl) rfl) (by intro w' hb; exact search_val A Y P Z _ _ w' hok (stable_ar _ _ _ _ hA hb) (en_mk hyp hym hb) hP hZ), ?_⟩
  refine ⟨isVal (.tuple #[.int .i64 (P : Int), .bool Z]), step_move (.tmp 25) (by kernel_rfl) (wanted_none (by kernel_rfl)) (stable_val _) (knows_new (V := isVal (.tuple #[.int .i64 (P : Int), .bool Z])) 25 5 (by kernel_rfl) (by kernel_rfl) (by kernel_rfl)), ?_⟩
  refine ⟨isVal (.int .i64 (P : Int)), step_extract (.tmp 19) 0 _ (.int .i64 (P : Int)) (by kernel_rfl) (wanted_none (by kernel_rfl)) (knows_new (V := isVal (.tuple #[.int .i64 (P : Int), .bool Z])) 19 6 (by kernel_rfl) (by kernel_rfl) (by kernel_rfl)) rfl, ?_⟩
  refine ⟨isVal (.bool Z), step_extract (.tmp 19) 1 _ (.bool Z) (by kernel_rfl) (wanted_none (by kernel_rfl)) (knows_new (V := isVal (.tuple #[.int .i64 (P : Int), .bool Z])) 19 6 (by kernel_rfl) (by kernel_rfl) (by kernel_rfl)) rfl, ?_⟩
  refine ⟨isVal (.int .i64 (P : Int)), step_assign (.tmp 26) (by kernel_rfl) (wanted_none (by kernel_rfl)) (stable_val _) (knows_new (V := isVal (.int .i64 (P : Int))) 26 7 (by kernel_rfl) (by kernel_rfl) (by kernel_rfl)), ?_⟩
  refine ⟨isVal (.bool Z), step_assign (.tmp 27) (by kernel_rfl) (wanted_none (by kernel_rfl)) (stable_val _) (knows_new (V := isVal (.bool Z)) 27 8 (by kernel_rfl) (by kernel_rfl) (by kernel_rfl)), ?_⟩
  intro a w hkp hb hd
  rw [kept_of hkp [some 20, some 21, some 22, some 23, some 24, some 25, some 19, some 26, some 27, some 6, some 7] [20, 21, 22, 23, 24, 25, 19, 26, 27, 6, 7] (by kernel_rfl) (by decide)]
  have d6 := fdone_of (hd 9 (by rw [show jn3Ops.size = 11 by kernel_rfl]; decide)) (t := 6) (V := isVal (.int .i64 (P : Int))) (by kernel_rfl) (by kernel_rfl)
  have d7 := fdone_of (hd 10 (by rw [show jn3Ops.size = 11 by kernel_rfl]; decide)) (t := 7) (V := isVal (.bool Z)) (by kernel_rfl) (by kernel_rfl)
  exact hQ (fun s => a.tmps.getD s undef) w d6 d7 hb

theorem put_kept3 {Q : Exit → Act → World → Prop} {a : Act} {d1 d2 d3 : Tmp} {v1 v2 v3 : Value} {t : Array Value} {ds : List Deferred} {w : World} (e : a = { tmps := t, defers := ds }) (h : Q .normal { tmps := ((t.setIfInBounds d1 v1).setIfInBounds d2 v2).setIfInBounds d3 v3, defers := ds } w) : Q .normal (((a.put (some d1) v1).put (some d2) v2).put (some d3) v3) w := by
  subst e; exact h
noncomputable def jn5Ops : Array Oper := regionOf Tryz.f48 5
set_option maxRecDepth 100000 in
set_option maxHeartbeats 2000000 in
theorem jn5_region (Q : Exit → Act → World → Prop) (a0 : Act) (w0 : World) (hsz : a0.tmps.size = 83) (A : Ar) (g h P q bi oi ci n : Nat) (Y : En) (vs yp ym : Value) (e0 : a0.tmps.getD 0 undef = .pointer (some ⟨g, 0, none⟩)) (e3 : a0.tmps.getD 3 undef = .pointer (some ⟨h, 0, none⟩)) (e6 : a0.tmps.getD 6 undef = .int .i64 (P : Int)) (HG : Blk w0 g [.int .i64 A.cap, vs, .slice (some ⟨bi, oi, none⟩) n ci]) (HE : Blk w0 h [.string ⟨Y.key.toArray⟩, .int .i64 Y.val.kind, .int .i64 Y.val.time, .int .i64 Y.val.node, .bool Y.val.dead, .string ⟨Y.val.text.toArray⟩, yp, ym, .int .u64 (Y.val.flags.toNat : Int)]) (hPn : P < n) (hci : w0.cell? ⟨bi, oi + P, none⟩ = some (.int .i64 (q : Int))) (hbi : bi < w0.heap.size)
    (hC : ∀ (y : Nat → Value) (w : World), Below w0.heap.size w0 w → Calls Tryz.prog 76 #[.pointer (some ⟨g, 0, none⟩), .int .i64 (q : Int), .agg #[.string ⟨Y.key.toArray⟩, .int .i64 Y.val.kind, .int .i64 Y.val.time, .int .i64 Y.val.node, .bool Y.val.dead, .string ⟨Y.val.text.toArray⟩, yp, ym, .int .u64 (Y.val.flags.toNat : Int)]] w fun e w' => ∃ z, e = .returned (.bool z) ∧ Q .normal { tmps := ((([29, 30, 31, 32, 33, 34, 35, 36, 37, 38, 39, 4, 5].foldl (fun t s => t.setIfInBounds s (y s)) a0.tmps).setIfInBounds 39 (.bool z)).setIfInBounds 4 (.bool z)).setIfInBounds 5 (.int .i64 0), defers := a0.defers } w') :
    (Code.region 5 jn5Ops true).wp Tryz.prog Q a0 w0 := by
  refine wp_region_cov 10 mixed (by rw [hsz]; kernel_rfl) (by kernel_rfl) ?_
  rw [show jn5Ops.size - 10 = 3 by kernel_rfl]
  refine ⟨isVal (.pointer (some ⟨g, 0, none⟩)), step_move (.tmp 0) (by kernel_rfl) (wanted_none (by kernel_rfl)) (stable_val _) (knows_old 0 (.pointer (some ⟨g, 0, none⟩)) (by kernel_rfl) e0), ?_⟩
  refine ⟨isVal (.pointer (some ⟨g, 0, none⟩)), step_move (.tmp 0) (by kernel_rfl) (wanted_none (by kernel_rfl)) (stable_val _) (knows_old 0 (.pointer (some ⟨g, 0, none⟩)) (by kernel_rfl) e0), ?_⟩
  refine ⟨isVal (.pointer (some ⟨g, 0, none⟩)), step_nilA (.tmp 30) ⟨g, 0, none⟩ (by kernel_rfl) (wanted_none (by kernel_rfl)) (knows_new (V := isVal (.pointer (some ⟨g, 0, none⟩))) 30 1 (by kernel_rfl) (by kernel_rfl) (by kernel_rfl)), ?_⟩
  refine ⟨isVal (.pointer (some ⟨g, 0, none⟩)), step_field 78 (.tmp 31) 0 ⟨g, 0, none⟩ ⟨g, 0, none⟩ (by kernel_rfl) (wanted_none (by kernel_rfl)) (knows_new (V := isVal (.pointer (some ⟨g, 0, none⟩))) 31 2 (by kernel_rfl) (by kernel_rfl) (by kernel_rfl)) (f_ch_0_0 (g)), ?_⟩
  refine ⟨isVal (.pointer (some ⟨g, 2, none⟩)), step_field 25 (.tmp 32) 2 ⟨g, 0, none⟩ ⟨g, 2, none⟩ (by kernel_rfl) (wanted_none (by kernel_rfl)) (knows_new (V := isVal (.pointer (some ⟨g, 0, none⟩))) 32 3 (by kernel_rfl) (by kernel_rfl) (by kernel_rfl)) (f_ar_0_2 (g)), ?_⟩
  refine ⟨isVal (.slice (some ⟨bi, oi, none⟩) n ci), step_read 23 (.tmp 33) ⟨g, 2, none⟩ (.slice (some ⟨bi, oi, none⟩) n ci) (by kernel_rfl) (wanted_none (by kernel_rfl)) (knows_new (V := isVal (.pointer (some ⟨g, 2, none⟩))) 33 4 (by kernel_rfl) (by kernel_rfl) (by kernel_rfl)) (HG.cells.2 2 _ rfl) (HG.lt) (agg_noI), ?_⟩
  refine ⟨isVal (.int .i64 (P : Int)), step_move (.tmp 6) (by kernel_rfl) (wanted_none (by kernel_rfl)) (stable_val _) (knows_old 6 (.int .i64 (P : Int)) (by kernel_rfl) e6), ?_⟩
  refine ⟨isVal (.pointer (some ⟨bi, oi + P, none⟩)), step_place 23 3 (.tmp 34) (.tmp 35) bi (oi) (n) (ci) (P) (by kernel_rfl) (wanted_none (by kernel_rfl)) (knows_new (V := isVal (.slice (some ⟨bi, oi, none⟩) n ci)) 34 5 (by kernel_rfl) (by kernel_rfl) (by kernel_rfl)) (knows_new (V := isVal (.int .i64 (P : Int))) 35 6 (by kernel_rfl) (by kernel_rfl) (by kernel_rfl)) Tryz.underlying23 (by kernel_rfl) (hPn), ?_⟩
  refine ⟨isVal (.int .i64 (q : Int)), step_read 3 (.tmp 36) ⟨bi, oi + P, none⟩ (.int .i64 (q : Int)) (by kernel_rfl) (wanted_none (by kernel_rfl)) (knows_new (V := isVal (.pointer (some ⟨bi, oi + P, none⟩))) 36 7 (by kernel_rfl) (by kernel_rfl) (by kernel_rfl)) (hci) (hbi) (agg_noZ), ?_⟩
  refine ⟨isVal (.agg #[.string ⟨Y.key.toArray⟩, .int .i64 Y.val.kind, .int .i64 Y.val.time, .int .i64 Y.val.node, .bool Y.val.dead, .string ⟨Y.val.text.toArray⟩, yp, ym, .int .u64 (Y.val.flags.toNat : Int)]), step_loadA 48 (.tmp 3) (h) (0) [.string ⟨Y.key.toArray⟩, .int .i64 Y.val.kind, .int .i64 Y.val.time, .int .i64 Y.val.node, .bool Y.val.dead, .string ⟨Y.val.text.toArray⟩, yp, ym, .int .u64 (Y.val.flags.toNat : Int)] (by kernel_rfl) (wanted_none (by kernel_rfl)) (knows_old 3 (.pointer (some ⟨h, 0, none⟩)) (by kernel_rfl) e3) size_en agg_en (⟨HE.lt, fun j x hx => by rw [Nat.zero_add]; exact HE.cells.2 j x hx⟩), ?_⟩
  intro a w hkp hb hd
  have d29 : a.eval (.tmp 29) = _ := fdone_of (hd 0 (by decide)) (t := 29) (V := isVal (.pointer (some ⟨g, 0, none⟩))) (by kernel_rfl) (by kernel_rfl)
  have d37 : a.eval (.tmp 37) = _ := fdone_of (hd 8 (by decide)) (t := 37) (V := isVal (.int .i64 (q : Int))) (by kernel_rfl) (by kernel_rfl)
  have d38 : a.eval (.tmp 38) = _ := fdone_of (hd 9 (by decide)) (t := 38) (V := isVal (.agg #[.string ⟨Y.key.toArray⟩, .int .i64 Y.val.kind, .int .i64 Y.val.time, .int .i64 Y.val.node, .bool Y.val.dead, .string ⟨Y.val.text.toArray⟩, yp, ym, .int .u64 (Y.val.flags.toNat : Int)])) (by kernel_rfl) (by kernel_rfl)
  refine tail_call 76 #[.tmp 29, .tmp 37, .tmp 38] #[73, 3, 48] #[.pointer (some ⟨g, 0, none⟩), .int .i64 (q : Int), .agg #[.string ⟨Y.key.toArray⟩, .int .i64 Y.val.kind, .int .i64 Y.val.time, .int .i64 Y.val.node, .bool Y.val.dead, .string ⟨Y.val.text.toArray⟩, yp, ym, .int .u64 (Y.val.flags.toNat : Int)]] 39 (by kernel_rfl) (by kernel_rfl) (by simp only [List.map_toArray, List.map_cons, List.map_nil, d29, d37, d38]) (enters_of Tryz.func76 (by kernel_rfl) rfl) ?_
  obtain ⟨y, ey⟩ := kept_ex hkp [some 29, some 30, some 31, some 32, some 33, some 34, some 35, some 36, some 37, some 38, some 39, some 4, some 5] [29, 30, 31, 32, 33, 34, 35, 36, 37, 38, 39, 4, 5] (by kernel_rfl) (by decide)
  have hs : a.tmps.size = 83 := hkp.2.1.trans hsz
  refine (hC y w hb).mono ?_
  rintro e w' ⟨z, rfl, hq⟩
  refine ⟨_, rfl, ?_⟩
  refine tail_assignA (.tmp 39) 4 (.bool z) (by kernel_rfl) (by kernel_rfl) (getD_put_self (by rw [hs]; decide)) ?_
  refine tail_assignA (.const (.int .i64 0)) 5 (.int .i64 0) (by kernel_rfl) (by kernel_rfl) rfl ?_
  exact put_kept3 ey hq
/-- A slice of just this number, in a new block of its own. -/
def isLit1 (N : Nat) (x : Int) : VP := fun v w => ∃ b, v = .slice (some ⟨b, 0, none⟩) 1 1 ∧ N ≤ b ∧ w.heap[b]? = some (.cells #[intC x] 3 (0, 0))
theorem stable_lit1 (N : Nat) (x : Int) : Stable (isLit1 N x) := fun v w w' ⟨b, e, hN, h⟩ hb => ⟨b, e, hN, (hb.block b (Array.getElem?_eq_some_iff.1 h).1).trans h⟩
theorem lit1_R {N : Nat} {r : Option Nat} (hr : ∀ s, r = some s → s < N) (x : Int) : StableR (GB r) (isLit1 N x) := fun v w w' ⟨b, e, hN, h⟩ hb => ⟨b, e, hN, (hb.block b (Array.getElem?_eq_some_iff.1 h).1 (fun e => by have := hr b e.symm; omega)).trans h⟩
theorem step_lit1 {ops : Array Oper} {base : World} {a0 : Act} {Q : Exit → Act → World → Prop} {kn : Nat → VP} {i : Nat} (N : Nat) (x : Operand) (a1 : Int) (hop : (ops[i]?).map (·.op) = some (.buildSlice 23 1 #[(0, x)])) (hw : Wanted ops a0 kn i) (h0 : Knows ops a0 kn i x (isVal (.int .i64 a1))) (hN : N ≤ base.heap.size) : FStep Tryz.prog ops base a0 Q kn i (isLit1 N a1) :=
  step_mk (stable_lit1 _ _) hw fun o ho a w hk hb hd => by
    have e0 : a.eval x = intC a1 := h0 a w hk hd
    obtain ⟨ie, hie, h2⟩ := Option.map_eq_some_iff.1 Tryz.infoInt
    simp only [Prod.mk.injEq] at h2
    obtain ⟨hz, hsz, _⟩ := h2
    have hf : Instr.fill (fun i => some (i * ie.size, ie.size)) ((Array.range (1 * ie.size)).map ((Value.int .i64 0).cells[· % (Value.int .i64 0).cells.size]!)) ((#[(0, x)] : Array (Nat × Operand)).map fun (i, x) => (i, a.eval x)).toList = some #[intC a1] := by
      have e1 : ((#[(0, x)] : Array (Nat × Operand)).map fun (i, x) => (i, a.eval x)).toList = (([intC a1] : List Value).zipIdx 0).map fun x => (x.2, x.1) := by simp [e0]
      rw [e1, hsz, Great.fill_flat _ _ (fun v hv => by simp only [List.mem_cons, List.not_mem_nil, or_false] at hv; subst hv; rfl) (by simp)]
    refine wp_buildSlice 23 3 1 _ (op_of hop ho) _ ie (.int .i64 0) Tryz.underlying23 hie hz (by rw [hsz]; omega) (by rw [hsz]; omega) hf ?_
    exact ⟨_, rfl, ⟨w.heap.size, rfl, Nat.le_trans hN hb.size, heap_alloc_new w _⟩, (Below.refl _ _).alloc (Nat.le_refl _) _⟩
/-- The row with one number more. -/
def isIns (B N : Nat) (r : Option Nat) (l : List Int) (P : Nat) (x : Int) : VP := fun v w => w.ownsRow B 3 1 v (l.length + 1) ((insL l P x).map intC) ∧ (v.ownBlock = r ∨ NewB N v)
theorem ostep_ins {ops : Array Oper} {base : World} {a0 : Act} {Q : Exit → Act → World → Prop} {kn : Nat → VP} {i : Nat} {k0 : Nat} {ups : List Nat} (B N : Nat) (r : Option Nat) (l : List Int) (P : Nat) (x : Int) (vi : Value) (o1 o2 o3 : Operand) (hop : (ops[i]?).map (fun o => (o.op, o.guard)) = some (.call { callee := .value (.func 77), args := #[o1, o2, o3], argTypes := #[23, 3, 23] }, none))
    (h1 : Knows ops a0 kn i o1 (isVal vi)) (h2 : Knows ops a0 kn i o2 (isVal (.int .i64 (P : Int)))) (h3 : Knows ops a0 kn i o3 (isLit1 N x)) (hP : P ≤ l.length) (hl : l.length ≤ 100) (hB : B ≤ base.heap.size) (hre : vi.ownBlock = r) (hrN : ∀ s, r = some s → s < N) (hdst : ((ops[i]?).bind (·.dst)).isSome = true) (hNb : N = base.heap.size := by rfl) : OStep (GB r) i ups (fun w => w.ownsRow B 3 1 vi l.length (l.map intC)) Tryz.prog ops base a0 Q k0 kn i (isIns B N r l P x) := by
  refine ⟨⟨fun _ => fun v w w' h hb => ⟨own_grow h.1 hb, h.2⟩, fun h => absurd rfl h⟩, fun o ho a w hk0 hb h0 hd => ?_⟩
  have hkf := hk0.f
  have hown := h0 (.inl rfl)
  rw [ho] at hop hdst
  simp only [Option.map_some, Option.some.injEq, Prod.mk.injEq] at hop
  obtain ⟨ho1, ho2⟩ := hop
  have hd' : FDeps ops kn i a w := fun o' ho' e he hbd => rdone_f (hd o' ho' e he hbd)
  have e1 : a.eval o1 = vi := h1 a w hkf hd'
  have e2 : a.eval o2 = .int .i64 (P : Int) := h2 a w hkf hd'
  obtain ⟨vb, e3, hvN, hvb⟩ := h3 a w hkf hd'
  have hne : vi.ownBlock ≠ some vb := by
    intro e
    have := hrN vb (hre.symm.trans e)
    omega
  unfold wpOp
  simp only [ho]
  rw [show Region.wanted o (yielded ops a.tmps) = true by simp [Region.wanted, ho2]]
  refine .inl ?_
  unfold Oper.wp execOp
  rw [ho1]
  have e4 : a.eval (.func 77) = .func (.func 77) #[] #[] := rfl
  simp only [resolve, e4, Deferred.ofValue, Sem.run_bind, Sem.run_pure, Result.andThen_ok, invoke, Array.append_empty, Array.empty_append, List.map_toArray, List.map_cons, List.map_nil, e1, e2, e3]
  rw [enters_of Tryz.func77 (by kernel_rfl) rfl]
  simp only [Oper.upon]
  refine (insert_any B l P vb x vi w hown hP hl (Nat.le_trans hB hb.size) hvb hne).mono ?_
  rintro e w' ⟨v', rfl, q1, q2, q3⟩
  rw [hre] at q2 q3
  refine ⟨v', rfl, fun hn => by simp [hn] at hdst, ⟨q1, q3.imp id (fun e b hb' => ?_)⟩, q2, fun h => absurd rfl h⟩
  have h4 := own_blk_eq e
  rw [hb'] at h4
  injection h4 with h4
  have := hb.size
  omega
noncomputable def jn8Ops : Array Oper := regionOf Tryz.f48 8
set_option maxRecDepth 100000 in
set_option maxHeartbeats 2000000 in
theorem jn8_region (Q : Exit → Act → World → Prop) (a0 : Act) (w0 : World) (hsz : a0.tmps.size = 83) (A : Ar) (B g P m cs : Nat) (sa : Option Addr) (vi : Value) (e0 : a0.tmps.getD 0 undef = .pointer (some ⟨g, 0, none⟩)) (e6 : a0.tmps.getD 6 undef = .int .i64 (P : Int)) (HG : Blk w0 g [.int .i64 A.cap, .slice sa m cs, vi]) (hown : w0.ownsRow B 3 1 vi A.index.length (A.index.map intC)) (hB : B ≤ w0.heap.size) (hP : P ≤ A.index.length) (hl : A.index.length ≤ 100) (hng0 : vi.ownBlock ≠ some g)
    (hQ : ∀ (y : Nat → Value) (v' : Value) (w : World), w.ownsRow B 3 1 v' (A.index.length + 1) ((insL A.index P (m : Int)).map intC) → w0.grownBy w vi.ownBlock → (v'.ownBlock = vi.ownBlock ∨ NewB w0.heap.size v') →
      Q .normal { tmps := [52, 53, 54, 55, 56, 57, 58, 59, 60, 61, 62, 63, 64, 65, 66, 67, 68, 69].foldl (fun t s => t.setIfInBounds s (y s)) a0.tmps, defers := a0.defers } (w.setCell ⟨g, 2, none⟩ v')) :
    (Code.region 8 jn8Ops true).wp Tryz.prog Q a0 w0 := by
  obtain ⟨r, hre⟩ : ∃ r, vi.ownBlock = r := ⟨_, rfl⟩
  have hng : r ≠ some g := by rw [← hre]; exact hng0
  have hrN : ∀ s, r = some s → s < w0.heap.size := fun s e => (hown.lt s (hre.trans e)).2
  have hR := gb_pre r
  refine wp_region_one hR 14 [] (fun w => w.ownsRow B 3 1 vi A.index.length (A.index.map intC)) (by kernel_rfl) (fun _ _ h hb => own_grow h hb) (fun _ h => own_grow h ((Below.refl _ _).drew)) 18 mixed (by rw [hsz]; kernel_rfl) (by kernel_rfl) hown ?_
  rw [show jn8Ops.size - 18 = 1 by kernel_rfl]
  refine ⟨isVal (.pointer (some ⟨g, 0, none⟩)), OStep.of hR (by decide) (stabR_val' _ _) (by kernel_rfl) (by intro w hr; exact step_move (.tmp 0) (by kernel_rfl) (wanted_none (by kernel_rfl)) (stable_val _) (knows_old 0 (.pointer (some ⟨g, 0, none⟩)) (by kernel_rfl) e0)), ?_⟩
  refine ⟨isVal (.pointer (some ⟨g, 0, none⟩)), OStep.of hR (by decide) (stabR_val' _ _) (by kernel_rfl) (by intro w hr; exact step_move (.tmp 0) (by kernel_rfl) (wanted_none (by kernel_rfl)) (stable_val _) (knows_old 0 (.pointer (some ⟨g, 0, none⟩)) (by kernel_rfl) e0)), ?_⟩
  refine ⟨isVal (.pointer (some ⟨g, 0, none⟩)), OStep.of hR (by decide) (stabR_val' _ _) (by kernel_rfl) (by intro w hr; exact step_nilA (.tmp 53) ⟨g, 0, none⟩ (by kernel_rfl) (wanted_none (by kernel_rfl)) (knows_new (V := isVal (.pointer (some ⟨g, 0, none⟩))) 53 1 (by kernel_rfl) (by kernel_rfl) (by kernel_rfl))), ?_⟩
  refine ⟨isVal (.pointer (some ⟨g, 0, none⟩)), OStep.of hR (by decide) (stabR_val' _ _) (by kernel_rfl) (by intro w hr; exact step_field 78 (.tmp 54) 0 ⟨g, 0, none⟩ ⟨g, 0, none⟩ (by kernel_rfl) (wanted_none (by kernel_rfl)) (knows_new (V := isVal (.pointer (some ⟨g, 0, none⟩))) 54 2 (by kernel_rfl) (by kernel_rfl) (by kernel_rfl)) (f_ch_0_0 (g))), ?_⟩
  refine ⟨isVal (.pointer (some ⟨g, 2, none⟩)), OStep.of hR (by decide) (stabR_val' _ _) (by kernel_rfl) (by intro w hr; exact step_field 25 (.tmp 55) 2 ⟨g, 0, none⟩ ⟨g, 2, none⟩ (by kernel_rfl) (wanted_none (by kernel_rfl)) (knows_new (V := isVal (.pointer (some ⟨g, 0, none⟩))) 55 3 (by kernel_rfl) (by kernel_rfl) (by kernel_rfl)) (f_ar_0_2 (g))), ?_⟩
  refine ⟨isVal vi, OStep.of hR (by decide) (stabR_val' _ _) (by kernel_rfl) (by intro w hr; exact step_read 23 (.tmp 56) ⟨g, 2, none⟩ vi (by kernel_rfl) (wanted_none (by kernel_rfl)) (knows_new (V := isVal (.pointer (some ⟨g, 2, none⟩))) 56 4 (by kernel_rfl) (by kernel_rfl) (by kernel_rfl)) ((hr.cell_ (HG.cells.2 2 _ rfl) HG.lt hng)) ((Nat.lt_of_lt_of_le HG.lt hr.size)) (agg_noI)), ?_⟩
  refine ⟨isVal (.int .i64 (P : Int)), OStep.of hR (by decide) (stabR_val' _ _) (by kernel_rfl) (by intro w hr; exact step_move (.tmp 6) (by kernel_rfl) (wanted_none (by kernel_rfl)) (stable_val _) (knows_old 6 (.int .i64 (P : Int)) (by kernel_rfl) e6)), ?_⟩
  refine ⟨isVal (.pointer (some ⟨g, 0, none⟩)), OStep.of hR (by decide) (stabR_val' _ _) (by kernel_rfl) (by intro w hr; exact step_move (.tmp 0) (by kernel_rfl) (wanted_none (by kernel_rfl)) (stable_val _) (knows_old 0 (.pointer (some ⟨g, 0, none⟩)) (by kernel_rfl) e0)), ?_⟩
  refine ⟨isVal (.pointer (some ⟨g, 0, none⟩)), OStep.of hR (by decide) (stabR_val' _ _) (by kernel_rfl) (by intro w hr; exact step_nilA (.tmp 59) ⟨g, 0, none⟩ (by kernel_rfl) (wanted_none (by kernel_rfl)) (knows_new (V := isVal (.pointer (some ⟨g, 0, none⟩))) 59 7 (by kernel_rfl) (by kernel_rfl) (by kernel_rfl))), ?_⟩
  refine ⟨isVal (.pointer (some ⟨g, 0, none⟩)), OStep.of hR (by decide) (stabR_val' _ _) (by kernel_rfl) (by intro w hr; exact step_field 78 (.tmp 60) 0 ⟨g, 0, none⟩ ⟨g, 0, none⟩ (by kernel_rfl) (wanted_none (by kernel_rfl)) (knows_new (V := isVal (.pointer (some ⟨g, 0, none⟩))) 60 8 (by kernel_rfl) (by kernel_rfl) (by kernel_rfl)) (f_ch_0_0 (g))), ?_⟩
  refine ⟨isVal (.pointer (some ⟨g, 1, none⟩)), OStep.of hR (by decide) (stabR_val' _ _) (by kernel_rfl) (by intro w hr; exact step_field 25 (.tmp 61) 1 ⟨g, 0, none⟩ ⟨g, 1, none⟩ (by kernel_rfl) (wanted_none (by kernel_rfl)) (knows_new (V := isVal (.pointer (some ⟨g, 0, none⟩))) 61 9 (by kernel_rfl) (by kernel_rfl) (by kernel_rfl)) (f_ar_0_1 (g))), ?_⟩
  refine ⟨isVal (.slice sa m cs), OStep.of hR (by decide) (stabR_val' _ _) (by kernel_rfl) (by intro w hr; exact step_read 22 (.tmp 62) ⟨g, 1, none⟩ (.slice sa m cs) (by kernel_rfl) (wanted_none (by kernel_rfl)) (knows_new (V := isVal (.pointer (some ⟨g, 1, none⟩))) 62 10 (by kernel_rfl) (by kernel_rfl) (by kernel_rfl)) ((hr.cell_ (HG.cells.2 1 _ rfl) HG.lt hng)) ((Nat.lt_of_lt_of_le HG.lt hr.size)) (agg_noS)), ?_⟩
  refine ⟨isVal (.int .i64 (m : Int)), OStep.of hR (by decide) (stabR_val' _ _) (by kernel_rfl) (by intro w hr; exact step_len 22 (.tmp 63) (.slice sa m cs) (.int .i64 (m : Int)) (by kernel_rfl) (wanted_none (by kernel_rfl)) (knows_new (V := isVal (.slice sa m cs)) 63 11 (by kernel_rfl) (by kernel_rfl) (by kernel_rfl)) (fun ty w => by kernel_rfl)), ?_⟩
  refine ⟨(isLit1 w0.heap.size (m : Int)), OStep.of hR (by decide) (lit1_R hrN _) (by kernel_rfl) (by intro w hr; exact step_lit1 w0.heap.size (.tmp 64) (m : Int) (by kernel_rfl) (wanted_none (by kernel_rfl)) (knows_new (V := isVal (.int .i64 (m : Int))) 64 12 (by kernel_rfl) (by kernel_rfl) (by kernel_rfl)) hr.size), ?_⟩
  refine ⟨isIns B w0.heap.size r A.index P (m : Int), ostep_ins B w0.heap.size r A.index P (m : Int) vi (.tmp 57) (.tmp 58) (.tmp 65) (by kernel_rfl) (knows_new (V := isVal vi) 57 5 (by kernel_rfl) (by kernel_rfl) (by kernel_rfl)) (knows_new (V := isVal (.int .i64 (P : Int))) 58 6 (by kernel_rfl) (by kernel_rfl) (by kernel_rfl)) (knows_new (V := (isLit1 w0.heap.size (m : Int))) 65 13 (by kernel_rfl) (by kernel_rfl) (by kernel_rfl)) hP hl hB hre hrN (by kernel_rfl), ?_⟩
  refine ⟨isVal (.pointer (some ⟨g, 0, none⟩)), OStep.of hR (by decide) (stabR_val' _ _) (by kernel_rfl) (by intro w hr; exact step_nilA (.tmp 52) ⟨g, 0, none⟩ (by kernel_rfl) (wanted_none (by kernel_rfl)) (knows_new (V := isVal (.pointer (some ⟨g, 0, none⟩))) 52 0 (by kernel_rfl) (by kernel_rfl) (by kernel_rfl))), ?_⟩
  refine ⟨isVal (.pointer (some ⟨g, 0, none⟩)), OStep.of hR (by decide) (stabR_val' _ _) (by kernel_rfl) (by intro w hr; exact step_field 78 (.tmp 67) 0 ⟨g, 0, none⟩ ⟨g, 0, none⟩ (by kernel_rfl) (wanted_none (by kernel_rfl)) (knows_new (V := isVal (.pointer (some ⟨g, 0, none⟩))) 67 15 (by kernel_rfl) (by kernel_rfl) (by kernel_rfl)) (f_ch_0_0 (g))), ?_⟩
  refine ⟨isVal (.pointer (some ⟨g, 2, none⟩)), OStep.of hR (by decide) (stabR_val' _ _) (by kernel_rfl) (by intro w hr; exact step_field 25 (.tmp 68) 2 ⟨g, 0, none⟩ ⟨g, 2, none⟩ (by kernel_rfl) (wanted_none (by kernel_rfl)) (knows_new (V := isVal (.pointer (some ⟨g, 0, none⟩))) 68 16 (by kernel_rfl) (by kernel_rfl) (by kernel_rfl)) (f_ar_0_2 (g))), ?_⟩
  intro a w hk0 hb hd
  have d66 := fdone_of (rdone_f (hd 14 (by decide))) (t := 66) (V := isIns B w0.heap.size r A.index P (m : Int)) (by kernel_rfl) (by kernel_rfl)
  have d69 := fdone_of (rdone_f (hd 17 (by decide))) (t := 69) (V := isVal (.pointer (some ⟨g, 2, none⟩))) (by kernel_rfl) (by kernel_rfl)
  generalize hv : a.tmps.getD 66 undef = v' at d66
  obtain ⟨h1, h3⟩ := d66
  have gl : g < w.heap.size := Nat.lt_of_lt_of_le HG.lt hb.size
  have HG3 : Blk w g [.int .i64 A.cap, .slice sa m cs, vi] := ⟨⟨gl, fun j x hx => hb.cell_ (HG.cells.2 j x hx) HG.lt hng⟩, fun j => (hb.frozen_ HG.lt hng).trans (HG.free j)⟩
  refine tail_store 23 (.tmp 69) (.tmp 66) ⟨g, 2, none⟩ v' vi (by kernel_rfl) (by kernel_rfl) d69 hv (by kernel_rfl) (own_one h1).1 (own_one h1).2 (HG3.cells.2 2 _ rfl) (HG3.free 2) ?_
  obtain ⟨y, ey⟩ := kept_ex hk0.f [some 52, some 53, some 54, some 55, some 56, some 57, some 58, some 59, some 60, some 61, some 62, some 63, some 64, some 65, some 66, some 67, some 68, some 69, none] [52, 53, 54, 55, 56, 57, 58, 59, 60, 61, 62, 63, 64, 65, 66, 67, 68, 69] (by kernel_rfl) (by decide)
  rw [ey]
  rw [← hre] at hb h3
  exact hQ y v' w h1 hb h3
end Go.Proofs.YtkjghoomdefbbaaGreatDoor
end
section
namespace Go.Proofs.YtkjghoomdefbbaaGreatDoor
open Go.RowKit
set_option linter.unusedVariables false
set_option linter.unusedSimpArgs false
attribute [local irreducible] setN

theorem join_no {A : Ar} {Y : En} (h : (okA A && okE Y) = false) : joinAE A Y = 2 ∧ joinAB A Y = false ∧ joinAF A Y = A := by
  unfold joinAE joinAB joinAF; rw [h]; exact ⟨rfl, rfl, rfl⟩
theorem join_hit {A : Ar} {Y : En} (h1 : okA A = true) (h2 : okE Y = true) (h3 : hitB (ordA A) Y = true) : joinAE A Y = 0 ∧ joinAB A Y = !decide (slotAt A.slots (placeI A Y) = joinEF (slotAt A.slots (placeI A Y)) Y) ∧ joinAF A Y = ⟨A.cap, meetL A Y, A.index⟩ := by
  unfold joinAE joinAB joinAF; rw [h1, h2, h3]; exact ⟨rfl, rfl, rfl⟩
theorem join_full {A : Ar} {Y : En} (h1 : okA A = true) (h2 : okE Y = true) (h3 : hitB (ordA A) Y = false) (h4 : (A.slots.length : Int) = A.cap) : joinAE A Y = 4 ∧ joinAB A Y = false ∧ joinAF A Y = A := by
  unfold joinAE joinAB joinAF; rw [h1, h2, h3]; simp [h4]
theorem join_new {A : Ar} {Y : En} (h1 : okA A = true) (h2 : okE Y = true) (h3 : hitB (ordA A) Y = false) (h4 : ¬ (A.slots.length : Int) = A.cap) : joinAE A Y = 0 ∧ joinAB A Y = true ∧ joinAF A Y = ⟨A.cap, A.slots ++ [Y], putIdx A Y⟩ := by
  unfold joinAE joinAB joinAF; rw [h1, h2, h3]; simp [h4]
/-- An entry whose rows are older than B. -/
def isEnO (B : Nat) (E : En) : VP := fun v w => ∃ vp vm, v = .agg #[.string ⟨E.key.toArray⟩, .int .i64 E.val.kind, .int .i64 E.val.time, .int .i64 E.val.node, .bool E.val.dead, .string ⟨E.val.text.toArray⟩, vp, vm, .int .u64 (E.val.flags.toNat : Int)] ∧ isCells (E.val.plus.map intC) vp w ∧ isCells (E.val.minus.map intC) vm w ∧ (E.val.plus.map intC = [] ∨ ∀ b, blk vp = some b → b < B) ∧ (E.val.minus.map intC = [] ∨ ∀ b, blk vm = some b → b < B)
theorem enO_of {E : En} {v : Value} {w w' : World} (h : isEn E v w) (hb : Below w.heap.size w w') (B : Nat) (hB : w.heap.size ≤ B) : isEnO B E v w' := by
  obtain ⟨vp, vm, e, hp, hm⟩ := h
  exact ⟨vp, vm, e, stable_cells _ _ _ _ hp hb, stable_cells _ _ _ _ hm hb, (cells_lt hp).imp id (fun h b hb => Nat.lt_of_lt_of_le (h b hb) hB), (cells_lt hm).imp id (fun h b hb => Nat.lt_of_lt_of_le (h b hb) hB)⟩
def JPost (B g : Nat) (A' : Ar) (w : World) : Prop := ∃ vs vi ps, ChA B w g A' vs vi ps
theorem ChA.idxput {B : Nat} {w0 w : World} {g : Nat} {A : Ar} {vs vi : Value} {ps : List (En × Value × Value)} (h : ChA B w0 g A vs vi ps) (l : List Int) (v' : Value) (h1 : w.ownsRow B 3 1 v' l.length (l.map intC)) (h2 : w0.grownBy w vi.ownBlock) (h3 : v'.ownBlock = vi.ownBlock ∨ NewB w0.heap.size v') : ChA B (w.setCell ⟨g, 2, none⟩ v') g ⟨A.cap, A.slots, l⟩ vs v' ps ∧ Bt (fun b => b = g ∨ vi.ownBlock = some b) w0 (w.setCell ⟨g, 2, none⟩ v') := by
  have bt0 : Bt (fun b => b = g ∨ vi.ownBlock = some b) w0 w := gb_bt h2 (fun b e => .inr e)
  have bts := bt_set (S := fun b => b = g ∨ vi.ownBlock = some b) g 2 v' w (.inl rfl)
  have bt := bt0.trans bts
  have hg := h.lt
  have new_v : ∀ b, v'.ownBlock = some b → vi.ownBlock = some b ∨ w0.heap.size ≤ b := fun b hb => h3.imp (fun e => by rw [← e]; exact hb) (fun e => e b (own_blk_eq hb))
  have hst : Blk w g [.int .i64 A.cap, vs, vi] := (gb_bt (S := fun b => vi.ownBlock = some b) h2 (fun b e => e)).blk h.st h.n2
  have vs_lt : ∀ b, vs.ownBlock = some b → b < w0.heap.size := fun b hb => (h.own.lt b hb).2
  have hvg : v'.ownBlock ≠ some g := by
    intro e
    rcases new_v g e with e | e
    · exact h.n2 e
    · omega
  refine ⟨⟨hst.set 2 v' (by simp), h.lo, bt.own h.own (fun b hb e => ?_), h.sl, own_set h1 hvg, fun q hq => ?_, h.n1, hvg, ?_, ?_, h.nw⟩, bt⟩
  · rcases e with e | e
    · exact h.n1 (by rw [hb, e])
    · exact h.n3 b hb e
  · obtain ⟨r1, r2⟩ := h.rows q hq
    have o := h.off q hq
    refine ⟨bt.cells r1 ?_, bt.cells r2 ?_⟩
    · by_cases e : q.1.val.plus.map intC = []
      · exact .inl e
      · exact .inr (fun b hb hS => ((o b (by rcases hS with hS | hS; exact .inl hS; exact .inr (.inr hS))).1.resolve_left e) hb)
    · by_cases e : q.1.val.minus.map intC = []
      · exact .inl e
      · exact .inr (fun b hb hS => ((o b (by rcases hS with hS | hS; exact .inl hS; exact .inr (.inr hS))).2.resolve_left e) hb)
  · intro b hb e
    rcases new_v b e with e | e
    · exact h.n3 b hb e
    · have := vs_lt b hb; omega
  · intro q hq b hb
    have o := h.off q hq
    rcases hb with hb | hb | hb
    · exact o b (.inl hb)
    · exact o b (.inr (.inl hb))
    · rcases new_v b hb with e | e
      · exact o b (.inr (.inr e))
      · refine ⟨(cells_lt (h.rows q hq).1).imp id (fun h3 e3 => ?_), (cells_lt (h.rows q hq).2).imp id (fun h3 e3 => ?_)⟩
        · have := h3 b e3; omega
        · have := h3 b e3; omega
set_option maxRecDepth 100000 in
set_option maxHeartbeats 2000000 in
theorem cjoin_any (B g : Nat) (A : Ar) (Y : En) (vs vi v : Value) (ps : List (En × Value × Value)) (w : World) (h : ChA B w g A vs vi ps) (hv : isEnO B Y v w) (hF : FitA A) (hY : FitE Y) (hBw : B ≤ w.heap.size) :
    Calls Tryz.prog 48 #[.pointer (some ⟨g, 0, none⟩), v] w fun e w' => e = .returned (.tuple #[.bool (joinAB A Y), .int .i64 (joinAE A Y)]) ∧ JPost B g (joinAF A Y) w' ∧ Below B w w' := by
  obtain ⟨yp, ym, rfl, hyp, hym, oyp, oym⟩ := hv
  have OY := Kept.mk (And.intro oyp oym)
  have hvi0 : ∀ b, vi.ownBlock = some b → B ≤ b ∧ b < w.heap.size := fun b hb => h.idx.lt b hb
  have hvs0 : ∀ b, vs.ownBlock = some b → B ≤ b ∧ b < w.heap.size := fun b hb => h.own.lt b hb
  have hb0 := lit_below w (.cells #[.string ⟨Y.key.toArray⟩, .int .i64 Y.val.kind, .int .i64 Y.val.time, .int .i64 Y.val.node, .bool Y.val.dead, .string ⟨Y.val.text.toArray⟩, yp, ym, .int .u64 (Y.val.flags.toNat : Int)] 48)
  have hB := Kept.mk hb0
  have HC := Kept.mk (h.keep hb0)
  have HE := Kept.mk (Blk.new w 48 [.string ⟨Y.key.toArray⟩, .int .i64 Y.val.kind, .int .i64 Y.val.time, .int .i64 Y.val.node, .bool Y.val.dead, .string ⟨Y.val.text.toArray⟩, yp, ym, .int .u64 (Y.val.flags.toNat : Int)] w.heap.size rfl)
  have RY0 := Kept.mk (And.intro (cells_lt hyp) (cells_lt hym))
  have RY := Kept.mk (And.intro (stable_cells _ _ _ _ hyp hb0) (stable_cells _ _ _ _ hym hb0))
  have hgw := h.lt
  have hlo := h.lo
  have hN0 : w.heap.size < (w.alloc (.cells #[.string ⟨Y.key.toArray⟩, .int .i64 Y.val.kind, .int .i64 Y.val.time, .int .i64 Y.val.node, .bool Y.val.dead, .string ⟨Y.val.text.toArray⟩, yp, ym, .int .u64 (Y.val.flags.toNat : Int)] 48)).heap.size := HE.out.lt
  obtain ⟨RB, hRB⟩ : ∃ r, joinAB A Y = r := ⟨_, rfl⟩
  obtain ⟨RE, hRE⟩ : ∃ r, joinAE A Y = r := ⟨_, rfl⟩
  obtain ⟨RF, hRF⟩ : ∃ r, joinAF A Y = r := ⟨_, rfl⟩
  rw [hRB, hRE, hRF]
  have HR := Kept.mk (And.intro hRB (And.intro hRE hRF))
  clear h hyp hym hb0 hRB hRE hRF
  have k0 := HC.out.st.cells.2 0 _ rfl
  have k1 := HC.out.st.cells.2 1 _ rfl
  have k2 := HC.out.st.cells.2 2 _ rfl
  have XA := Kept.mk HC.out.ar
  go_enter Tryz.func48, Tryz.ntmps48
  go_wp2_with fail
  generalize (w.alloc (.cells #[.string ⟨Y.key.toArray⟩, .int .i64 Y.val.kind, .int .i64 Y.val.time, .int .i64 Y.val.node, .bool Y.val.dead, .string ⟨Y.val.text.toArray⟩, yp, ym, .int .u64 (Y.val.flags.toNat : Int)] 48)) = W0 at *
  refine (acheck_any A _ _ XA.out hF).mono ?_
  rintro e W1 ⟨rfl, hb⟩
  have hN1 := hb.size
  replace HC := Kept.mk (HC.out.keep hb)
  replace HE := Kept.mk (HE.out.keep hb)
  replace RY := Kept.mk (And.intro (stable_cells _ _ _ _ RY.out.1 hb) (stable_cells _ _ _ _ RY.out.2 hb))
  replace hB := Kept.mk (hB.out.trans (hb.mono (by omega)))
  clear hb k0 k1 k2 XA
  cases hok : okA A with
  | false =>
    rw [chk_A0 hok]
    obtain ⟨j1, j2, j3⟩ := join_no (A := A) (Y := Y) (by rw [hok]; rfl)
    obtain ⟨r1, r2, r3⟩ := HR.out
    have HP := Kept.mk (show JPost B g RF W1 from ⟨_, _, _, by rw [← r3, j3]; exact HC.out⟩)
    have HQ := Kept.mk (And.intro (r1.symm.trans j2) (r2.symm.trans j1))
    clear j1 j2 j3 r1 r2 r3 HR
    go_wp2
    go_ret2
    exact ⟨by rw [HQ.out.1, HQ.out.2]; rfl, HP.out, hB.out.mono hBw⟩
  | true =>
    rw [chk_A1 hok]
    have HO := Kept.mk hok
    clear hok
    have ke0 := HE.out.cells.2 0 _ rfl
    have ke1 := HE.out.cells.2 1 _ rfl
    have ke2 := HE.out.cells.2 2 _ rfl
    have ke3 := HE.out.cells.2 3 _ rfl
    have ke4 := HE.out.cells.2 4 _ rfl
    have ke5 := HE.out.cells.2 5 _ rfl
    have ke6 := HE.out.cells.2 6 _ rfl
    have ke7 := HE.out.cells.2 7 _ rfl
    have ke8 := HE.out.cells.2 8 _ rfl
    have XE := Kept.mk (show isEn Y (.agg #[.string ⟨Y.key.toArray⟩, .int .i64 Y.val.kind, .int .i64 Y.val.time, .int .i64 Y.val.node, .bool Y.val.dead, .string ⟨Y.val.text.toArray⟩, yp, ym, .int .u64 (Y.val.flags.toNat : Int)]) W1 from ⟨yp, ym, rfl, RY.out.1, RY.out.2⟩)
    go_wp2_with fail
    refine (echeck_any Y _ _ XE.out hY).mono ?_
    rintro e W2 ⟨rfl, hb⟩
    have hN2 := hb.size
    replace HC := Kept.mk (HC.out.keep hb)
    replace HE := Kept.mk (HE.out.keep hb)
    replace RY := Kept.mk (And.intro (stable_cells _ _ _ _ RY.out.1 hb) (stable_cells _ _ _ _ RY.out.2 hb))
    replace hB := Kept.mk (hB.out.trans (hb.mono (by omega)))
    clear hb XE ke0 ke1 ke2 ke3 ke4 ke5 ke6 ke7 ke8
    cases hoe : okE Y with
    | false =>
      rw [chk_no hoe]
      obtain ⟨j1, j2, j3⟩ := join_no (A := A) (Y := Y) (by rw [hoe, Bool.and_false])
      obtain ⟨r1, r2, r3⟩ := HR.out
      have HP := Kept.mk (show JPost B g RF W2 from ⟨_, _, _, by rw [← r3, j3]; exact HC.out⟩)
      have HQ := Kept.mk (And.intro (r1.symm.trans j2) (r2.symm.trans j1))
      clear j1 j2 j3 r1 r2 r3 HR
      go_wp2
      go_ret2
      exact ⟨by rw [HQ.out.1, HQ.out.2]; rfl, HP.out, hB.out.mono hBw⟩
    | true =>
      rw [chk_ok hoe]
      have HOE := Kept.mk hoe
      clear hoe
      have OKA := Kept.mk (okA_iff.1 HO.out)
      obtain ⟨P, hP⟩ : ∃ P, posN (ordA A) Y = P := ⟨_, rfl⟩
      obtain ⟨Z, hZ⟩ : ∃ Z, hitB (ordA A) Y = Z := ⟨_, rfl⟩
      have HPZ := Kept.mk (And.intro hP hZ)
      clear hP hZ
      go_wp2_with fail
      refine jn3_region _ _ _ rfl A g w.heap.size P Z Y _ _ yp ym rfl rfl HC.out.st HE.out OKA.out HC.out.ar RY.out.1 RY.out.2 HPZ.out.1 HPZ.out.2 ?_
      intro f9 W3 d6 d7 hb9
      simp only [List.foldl_cons, List.foldl_nil, d6, d7]
      generalize f9 20 = y20
      generalize f9 21 = y21
      generalize f9 22 = y22
      generalize f9 23 = y23
      generalize f9 24 = y24
      generalize f9 25 = y25
      generalize f9 19 = y19
      generalize f9 26 = y26
      generalize f9 27 = y27
      clear d6 d7
      simp only [List.setIfInBounds_toArray, List.set_cons_succ, List.set_cons_zero]
      have hN3 := hb9.size
      replace HC := Kept.mk (HC.out.keep hb9)
      replace HE := Kept.mk (HE.out.keep hb9)
      replace RY := Kept.mk (And.intro (stable_cells _ _ _ _ RY.out.1 hb9) (stable_cells _ _ _ _ RY.out.2 hb9))
      replace hB := Kept.mk (hB.out.trans (hb9.mono (by omega)))
      clear hb9
      cases Z with
      | true =>
        obtain ⟨pr, pi, _, pn⟩ := place_spec OKA.out HPZ.out.2
        rw [HPZ.out.1] at pi
        obtain ⟨q, hq⟩ : ∃ q : Nat, placeI A Y = (q : Int) := ⟨(placeI A Y).toNat, by omega⟩
        rw [hq] at pr pi pn
        obtain ⟨X, hX⟩ : ∃ X, A.slots[q]? = some X := ⟨_, List.getElem?_eq_getElem (by omega)⟩
        rw [slotAt_some hX] at pn
        have hoX := OKA.out.ents X (List.mem_of_getElem? hX)
        have hjj : joinEE X Y = 0 := by unfold joinEE; rw [hoX, HOE.out, pn]; rfl
        obtain ⟨J, hJ⟩ : ∃ J, joinEF X Y = J := ⟨_, rfl⟩
        obtain ⟨j1, j2, j3⟩ := join_hit HO.out HOE.out HPZ.out.2
        rw [hq, slotAt_some hX, hJ] at j2
        have j4 : meetL A Y = A.slots.set q J := by unfold meetL; rw [hq, slotAt_some hX, hJ]; rfl
        obtain ⟨bi, oi, ci, hvi, hbi, hci⟩ := cells_get HC.out.ints (by intro e; rw [e] at pi; simp at pi)
        have hPn : P < A.index.length := (List.getElem?_eq_some_iff.1 pi).1
        have kq := hci P _ pi
        have KH := Kept.mk (And.intro hX (And.intro hjj (And.intro hJ (And.intro kq (ok_fit' hoX)))))
        obtain ⟨r1, r2, r3⟩ := HR.out
        have HQ := Kept.mk (And.intro (r1.symm.trans j2) (And.intro (r2.symm.trans j1) (r3.symm.trans (by rw [j3, j4]))))
        subst hvi
        clear hX hjj hJ kq hci pr pi pn hoX j1 j2 j3 j4 r1 r2 r3 HR hq
        go_wp2_with fail
        refine jn5_region _ _ _ rfl A g w.heap.size P q bi oi ci A.index.length Y _ yp ym rfl rfl rfl HC.out.st HE.out hPn KH.out.2.2.2.1 hbi ?_
        intro y W4 hb4
        have hN4 := hb4.size
        refine (meet_any B g q A X Y J _ _ _ _ W4 KH.out.2.2.1 (HC.out.keep hb4) KH.out.1 (en_mk RY.out.1 RY.out.2 hb4) KH.out.2.2.2.2 hY KH.out.2.1 (by omega)).mono ?_
        rintro e W5 ⟨ps', rfl, hch, hb5⟩
        have HP := Kept.mk (show JPost B g RF W5 from ⟨_, _, _, by rw [HQ.out.2.2]; exact hch⟩)
        have B5 := Kept.mk (((hB.out.trans (hb4.mono (by omega))).mono hBw).trans hb5)
        clear hch hb5 hb4
        refine ⟨_, rfl, ?_⟩
        simp only [List.foldl_cons, List.foldl_nil]
        generalize y 29 = z29
        generalize y 30 = z30
        generalize y 31 = z31
        generalize y 32 = z32
        generalize y 33 = z33
        generalize y 34 = z34
        generalize y 35 = z35
        generalize y 36 = z36
        generalize y 37 = z37
        generalize y 38 = z38
        generalize y 39 = z39
        generalize y 4 = z4
        generalize y 5 = z5
        simp only [List.setIfInBounds_toArray, List.set_cons_succ, List.set_cons_zero]
        have HQ1 := Kept.mk HQ.out.1
        have HQ2 := Kept.mk HQ.out.2.1
        generalize decide (X = J) = dz at *
        go_wp2
        go_ret2
        exact ⟨by rw [HQ1.out, HQ2.out]; rfl, HP.out, B5.out⟩
      | false =>
        obtain ⟨sa, cs, hvs⟩ := HC.out.ens.len
        subst hvs
        obtain ⟨r1, r2, r3⟩ := HR.out
        have f1 := hF.slots
        have D := (Below.refl W3.heap.size W3).drew
        have hPl : P ≤ A.index.length := by
          have := pos_le (ordA A) Y
          rw [HPZ.out.1] at this
          unfold ordA at this
          rwa [List.length_map] at this
        have f2 := hF.index
        have hix : A.index.length ≤ 100 := by have := OKA.out.len; have := OKA.out.fits; have := OKA.out.room; omega
        by_cases hfull : (A.slots.length : Int) = A.cap
        · obtain ⟨j1, j2, j3⟩ := join_full HO.out HOE.out HPZ.out.2 hfull
          have k0 := HC.out.st.cells.2 0 _ rfl
          have k1 := HC.out.st.cells.2 1 _ rfl
          rw [← hfull] at k0
          have hd : ((A.slots.length : Int) == (A.slots.length : Int)) = true := by simp
          have HP := Kept.mk (show JPost B g RF W3.drew from ⟨_, _, _, by rw [← r3, j3]; exact HC.out.keep D⟩)
          have B5 := Kept.mk ((hB.out.mono hBw).trans (D.mono (by omega)))
          have HQ := Kept.mk (And.intro (r1.symm.trans j2) (r2.symm.trans j1))
          clear j1 j2 j3 r1 r2 r3 HR D hfull
          go_wp2_with fail
          go_region
          all_goals go_wp2
          all_goals go_ret2
          all_goals exact ⟨by rw [HQ.out.1, HQ.out.2]; rfl, HP.out, B5.out⟩
        · obtain ⟨j1, j2, j3⟩ := join_new HO.out HOE.out HPZ.out.2 hfull
          have k0 := HC.out.st.cells.2 0 _ rfl
          have k1 := HC.out.st.cells.2 1 _ rfl
          have hd : ((A.slots.length : Int) == A.cap) = false := by simpa using hfull
          have j4 : putIdx A Y = insL A.index P (A.slots.length : Int) := by unfold putIdx insL; rw [HPZ.out.1]
          have HQ := Kept.mk (And.intro (r1.symm.trans j2) (And.intro (r2.symm.trans j1) (r3.symm.trans (by rw [j3, j4]))))
          have HC4 := Kept.mk (HC.out.keep D)
          have HE4 := Kept.mk (HE.out.keep D)
          have RY4 := Kept.mk (And.intro (stable_cells _ _ _ _ RY.out.1 D) (stable_cells _ _ _ _ RY.out.2 D))
          have B4 := Kept.mk (hB.out.trans (D.mono (by omega)))
          have hN4 : W3.heap.size ≤ W3.drew.heap.size := D.size
          clear j1 j2 j3 j4 r1 r2 r3 HR D hfull HC HE RY hB
          go_wp2_with fail
          go_region
          all_goals go_wp2_with fail
          generalize W3.drew = W4 at *
          clear k0 k1
          refine jn8_region _ _ _ rfl A B g P A.slots.length cs sa vi rfl rfl HC4.out.st HC4.out.idx (by omega) hPl hix HC4.out.n2 ?_
          intro y v' W5 h1 h2 h3
          obtain ⟨hch, bt⟩ := HC4.out.idxput (insL A.index P (A.slots.length : Int)) v' (by rw [insL_length _ _ _ hPl]; exact h1) h2 h3
          simp only [List.foldl_cons, List.foldl_nil]
          generalize y 52 = z52
          generalize y 53 = z53
          generalize y 54 = z54
          generalize y 55 = z55
          generalize y 56 = z56
          generalize y 57 = z57
          generalize y 58 = z58
          generalize y 59 = z59
          generalize y 60 = z60
          generalize y 61 = z61
          generalize y 62 = z62
          generalize y 63 = z63
          generalize y 64 = z64
          generalize y 65 = z65
          generalize y 66 = z66
          generalize y 67 = z67
          generalize y 68 = z68
          generalize y 69 = z69
          simp only [List.setIfInBounds_toArray, List.set_cons_succ, List.set_cons_zero]
          generalize W5.setCell ⟨g, 2, none⟩ v' = W6 at *
          have hN6 := bt.size
          have hE6 := bt.blk HE4.out (show ¬ (w.heap.size = g ∨ vi.ownBlock = some w.heap.size) by rintro (e | e); (· omega); (· have := (hvi0 _ e).2; omega))
          have yoff : ∀ b, B ≤ b → (Y.val.plus.map intC = [] ∨ blk yp ≠ some b) ∧ (Y.val.minus.map intC = [] ∨ blk ym ≠ some b) := fun b hb => ⟨OY.out.1.imp id (fun h e => by have := h b e; omega), OY.out.2.imp id (fun h e => by have := h b e; omega)⟩
          have lowS : ∀ b, (b = g ∨ vi.ownBlock = some b) → B ≤ b := fun b hb => by rcases hb with rfl | hb; (· exact hlo); (· exact (hvi0 b hb).1)
          have ry6 : isCells (Y.val.plus.map intC) yp W6 := bt.cells RY4.out.1 (OY.out.1.imp id (fun h b hb hS => by have := h b hb; have := lowS b hS; omega))
          have rm6 : isCells (Y.val.minus.map intC) ym W6 := bt.cells RY4.out.2 (OY.out.2.imp id (fun h b hb hS => by have := h b hb; have := lowS b hS; omega))
          have hps : ps.length ≤ 1000 := by rw [hch.len]; exact f1
          have K6 := Kept.mk (And.intro hch (And.intro hE6 (And.intro ry6 rm6)))
          have B6 := Kept.mk ((B4.out.mono hBw).trans (bt.below lowS (by omega)))
          clear h1 h2 h3 hch bt hE6 ry6 rm6 lowS
          go_wp2_with fail
          refine jnapp_region _ _ _ rfl g w.heap.size B ps.length _ Y _ yp ym (flatE ps) rfl rfl K6.out.1.st rfl K6.out.2.1 K6.out.2.2.1 K6.out.2.2.2 hY K6.out.1.own hps (by omega) (fun s hs => ⟨fun e => K6.out.1.n1 (by rw [hs, e]), by have := (hvs0 s hs).2; omega, yoff s (hvs0 s hs).1⟩) ?_
          intro y v vp vm W7 h1 h2 h3 h4 h5 h6 h7 h8 h9
          have hch7 := K6.out.1.push Y v vp vm h1 h2 h3 h4 h5 h6 h7 h8 h9
          have HP := Kept.mk (show JPost B g RF W7 from ⟨_, _, _, by rw [HQ.out.2.2]; exact hch7⟩)
          have B7 := Kept.mk (B6.out.trans (h9.below (fun b hb => by rcases hb with rfl | hb; (· exact hlo); (· exact (hvs0 b hb).1)) (by omega)))
          clear h1 h2 h3 h4 h5 h6 h7 h8 h9 hch7 K6
          simp only [List.foldl_cons, List.foldl_nil]
          generalize y 70 = x70
          generalize y 71 = x71
          generalize y 72 = x72
          generalize y 73 = x73
          generalize y 74 = x74
          generalize y 75 = x75
          generalize y 76 = x76
          generalize y 77 = x77
          generalize y 78 = x78
          generalize y 79 = x79
          generalize y 80 = x80
          generalize y 81 = x81
          generalize y 82 = x82
          simp only [List.setIfInBounds_toArray, List.set_cons_succ, List.set_cons_zero]
          go_wp2
          go_ret2
          exact ⟨by rw [HQ.out.1, HQ.out.2.1]; rfl, HP.out, B7.out⟩
end Go.Proofs.YtkjghoomdefbbaaGreatDoor
end
section
namespace Go.Proofs.YtkjghoomdefbbaaGreatDoor
open Go.RowKit
set_option linter.unusedVariables false
set_option linter.unusedSimpArgs false
attribute [local irreducible] setN

theorem resultsN3 {P : Program} {fn : Func} {p u1 u2 : Tmp} {t : TypeId} (h : fn.results = #[.cell p t, .tmp u1, .tmp u2]) (tmps : Array Value) (w : World) (g : Nat) (l : List Value) (x1 x2 : Value) (hs : (P.info? t).map (·.size) = some l.length) (ha : ∀ w, (isAgg t).run P w = .ok true w) (hp : tmps.getD p undef = .pointer (some ⟨g, 0, none⟩)) (h1 : tmps.getD u1 undef = x1) (h2 : tmps.getD u2 undef = x2) (hc : CellsN w g l) :
    (results fn tmps).run P w = .ok (.tuple #[.agg l.toArray, x1, x2]) w := by
  have hp' : tmps[p]?.getD undef = .pointer (some ⟨g, 0, none⟩) := by simpa using hp
  have h1' : tmps[u1]?.getD undef = x1 := by simpa using h1
  have h2' : tmps[u2]?.getD undef = x2 := by simpa using h2
  simp [results, h, hp', h1', h2', asAddr, loadN t g w l hs ha hc]
theorem Blk.keepB {B : Nat} {W W' : World} {b : Nat} {cs : List Value} (h : Blk W b cs) (k : Below B W W') (hb : b < B) : Blk W' b cs := ⟨h.cells.keep k hb, h.free.keep k hb⟩
def newAE (n : Int) : Int := if roomB n = true then 0 else 1
def newAF (n : Int) : Ar := if roomB n = true then ⟨n, [], []⟩ else zeroA
set_option maxRecDepth 100000 in
set_option maxHeartbeats 2000000 in
theorem anew_any (n : Int) (w : World) : Calls Tryz.prog 33 #[.int .i64 n] w fun e w' => ∃ v', e = .returned (.tuple #[v', .int .i64 (newAE n)]) ∧ isAr (newAF n) v' w' ∧ Below w.heap.size w w' := by
  have HR := Kept.mk (Blk.new w 25 [.int .i64 0, .slice none 0 0, .slice none 0 0] w.heap.size rfl)
  have hB := Kept.mk (lit_below w (.cells #[.int .i64 0, .slice none 0 0, .slice none 0 0] 25))
  go_enter Tryz.func33, Tryz.ntmps33
  go_wp2_with fail
  generalize (w.alloc (.cells #[.int .i64 0, .slice none 0 0, .slice none 0 0] 25)) = W0 at *
  refine (room_any n _).mono ?_
  rintro e W1 ⟨rfl, hb⟩
  replace HR := Kept.mk (HR.out.keep hb)
  replace hB := Kept.mk (hB.out.trans (hb.mono hB.out.size))
  clear hb
  cases hr : roomB n with
  | true =>
    have e1 : newAE n = 0 := by unfold newAE; rw [hr]; rfl
    have e2 : newAF n = ⟨n, [], []⟩ := by unfold newAF; rw [hr]; rfl
    have HO : Kept (Ones [.int .i64 n, .slice none 0 0, .slice none 0 0]) := ⟨⟨rfl, rfl, rfl, trivial⟩⟩
    go_wp2_with (have hz0 := HO; refine wpList_storeN 25 rfl (.tmp 2) (.tmp 9) rfl w.heap.size [.int .i64 n, .slice none 0 0, .slice none 0 0] size_ar rfl rfl HR.out.cells rfl HR.out.free HO.out ?_; clear hz0 HO)
    rw [e1, e2]
    exact bodyPost_ret (resultsN2 rfl _ _ w.heap.size [.int .i64 n, .slice none 0 0, .slice none 0 0] (.int .i64 0) size_ar agg_ar rfl rfl (HR.out.all_ (l := [.int .i64 n, .slice none 0 0, .slice none 0 0]) rfl).cells) rfl ⟨_, rfl, ⟨.slice none 0 0, .slice none 0 0, rfl, .inl ⟨rfl, rfl⟩, .inl ⟨rfl, rfl⟩⟩, below_setN (Nat.le_refl _) _ 0 _ hB.out⟩
  | false =>
    have e1 : newAE n = 1 := by unfold newAE; rw [hr]; rfl
    have e2 : newAF n = zeroA := by unfold newAF; rw [hr]; rfl
    have HO : Kept (Ones [.int .i64 0, .slice none 0 0, .slice none 0 0]) := ⟨⟨rfl, rfl, rfl, trivial⟩⟩
    go_wp2_with (have hz0 := HO; refine wpList_storeN 25 rfl (.tmp 2) (.tmp 7) rfl w.heap.size [.int .i64 0, .slice none 0 0, .slice none 0 0] size_ar rfl rfl HR.out.cells rfl HR.out.free HO.out ?_; clear hz0 HO)
    rw [e1, e2]
    exact bodyPost_ret (resultsN2 rfl _ _ w.heap.size [.int .i64 0, .slice none 0 0, .slice none 0 0] (.int .i64 1) size_ar agg_ar rfl rfl (HR.out.all_ rfl).cells) rfl ⟨_, rfl, ⟨.slice none 0 0, .slice none 0 0, rfl, .inl ⟨rfl, rfl⟩, .inl ⟨rfl, rfl⟩⟩, below_setN (Nat.le_refl _) _ 0 _ hB.out⟩
set_option maxRecDepth 100000 in
set_option maxHeartbeats 2000000 in
theorem ajoin_any (A : Ar) (Y : En) (v u : Value) (w : World) (hv : isAr A v w) (hu : isEn Y u w) (hF : FitA A) (hY : FitE Y) : Calls Tryz.prog 29 #[v, u] w fun e w' => ∃ v', e = .returned (.tuple #[v', .bool (joinAB A Y), .int .i64 (joinAE A Y)]) ∧ isAr (joinAF A Y) v' w' ∧ Below w.heap.size w w' := by
  obtain ⟨vs, vi, rfl, hs, hi⟩ := hv
  obtain ⟨yp, ym, rfl, hyp, hym⟩ := hu
  have hb0 : Below w.heap.size w (((w.alloc (.cells #[.int .i64 A.cap, vs, vi] 25)).alloc (.cells #[.string ⟨Y.key.toArray⟩, .int .i64 Y.val.kind, .int .i64 Y.val.time, .int .i64 Y.val.node, .bool Y.val.dead, .string ⟨Y.val.text.toArray⟩, yp, ym, .int .u64 (Y.val.flags.toNat : Int)] 48)).alloc (.cells #[.int .i64 0, .slice none 0 0, .slice none 0 0] 25)) := (((Below.refl _ w).alloc (Nat.le_refl _) _).alloc (by simp) _).alloc (by simp; omega) _
  have hsz : (((w.alloc (.cells #[.int .i64 A.cap, vs, vi] 25)).alloc (.cells #[.string ⟨Y.key.toArray⟩, .int .i64 Y.val.kind, .int .i64 Y.val.time, .int .i64 Y.val.node, .bool Y.val.dead, .string ⟨Y.val.text.toArray⟩, yp, ym, .int .u64 (Y.val.flags.toNat : Int)] 48)).alloc (.cells #[.int .i64 0, .slice none 0 0, .slice none 0 0] 25)).heap.size = w.heap.size + 3 := by simp
  have HA := Kept.mk (show isAr A (.agg #[.int .i64 A.cap, vs, vi]) (((w.alloc (.cells #[.int .i64 A.cap, vs, vi] 25)).alloc (.cells #[.string ⟨Y.key.toArray⟩, .int .i64 Y.val.kind, .int .i64 Y.val.time, .int .i64 Y.val.node, .bool Y.val.dead, .string ⟨Y.val.text.toArray⟩, yp, ym, .int .u64 (Y.val.flags.toNat : Int)] 48)).alloc (.cells #[.int .i64 0, .slice none 0 0, .slice none 0 0] 25)) from stable_ar A _ _ _ ⟨vs, vi, rfl, hs, hi⟩ hb0)
  have HY := Kept.mk (show isEn Y (.agg #[.string ⟨Y.key.toArray⟩, .int .i64 Y.val.kind, .int .i64 Y.val.time, .int .i64 Y.val.node, .bool Y.val.dead, .string ⟨Y.val.text.toArray⟩, yp, ym, .int .u64 (Y.val.flags.toNat : Int)]) w from ⟨yp, ym, rfl, hyp, hym⟩)
  have BA := (((Blk.new w 25 [.int .i64 A.cap, vs, vi] w.heap.size rfl).alloc (.cells #[.string ⟨Y.key.toArray⟩, .int .i64 Y.val.kind, .int .i64 Y.val.time, .int .i64 Y.val.node, .bool Y.val.dead, .string ⟨Y.val.text.toArray⟩, yp, ym, .int .u64 (Y.val.flags.toNat : Int)] 48)).alloc (.cells #[.int .i64 0, .slice none 0 0, .slice none 0 0] 25))
  have BY := Kept.mk ((Blk.new (w.alloc (.cells #[.int .i64 A.cap, vs, vi] 25)) 48 [.string ⟨Y.key.toArray⟩, .int .i64 Y.val.kind, .int .i64 Y.val.time, .int .i64 Y.val.node, .bool Y.val.dead, .string ⟨Y.val.text.toArray⟩, yp, ym, .int .u64 (Y.val.flags.toNat : Int)] (w.heap.size + 1) (by simp)).alloc (.cells #[.int .i64 0, .slice none 0 0, .slice none 0 0] 25))
  have BR := Kept.mk (Blk.new ((w.alloc (.cells #[.int .i64 A.cap, vs, vi] 25)).alloc (.cells #[.string ⟨Y.key.toArray⟩, .int .i64 Y.val.kind, .int .i64 Y.val.time, .int .i64 Y.val.node, .bool Y.val.dead, .string ⟨Y.val.text.toArray⟩, yp, ym, .int .u64 (Y.val.flags.toNat : Int)] 48)) 25 [.int .i64 0, .slice none 0 0, .slice none 0 0] (w.heap.size + 1 + 1) (by simp))
  have ka0 := BA.cells.2 0 _ rfl
  have ka1 := BA.cells.2 1 _ rfl
  have ka2 := BA.cells.2 2 _ rfl
  have hB := Kept.mk hb0
  clear hs hi hyp hym BA hb0
  go_enter Tryz.func29, Tryz.ntmps29
  go_wp2_with fail
  generalize (((w.alloc (.cells #[.int .i64 A.cap, vs, vi] 25)).alloc (.cells #[.string ⟨Y.key.toArray⟩, .int .i64 Y.val.kind, .int .i64 Y.val.time, .int .i64 Y.val.node, .bool Y.val.dead, .string ⟨Y.val.text.toArray⟩, yp, ym, .int .u64 (Y.val.flags.toNat : Int)] 48)).alloc (.cells #[.int .i64 0, .slice none 0 0, .slice none 0 0] 25)) = W0 at *
  refine (change_any A _ _ HA.out hF).mono ?_
  rintro e W1 ⟨c, vs', vi', ps, rfl, hch, hb⟩
  have hN := hb.size
  have HC := Kept.mk hch
  replace BY := Kept.mk (BY.out.keep hb)
  replace BR := Kept.mk (BR.out.keep hb)
  replace hB := Kept.mk (hB.out.trans (hb.mono (by omega)))
  have ky0 := BY.out.cells.2 0 _ rfl
  have ky1 := BY.out.cells.2 1 _ rfl
  have ky2 := BY.out.cells.2 2 _ rfl
  have ky3 := BY.out.cells.2 3 _ rfl
  have ky4 := BY.out.cells.2 4 _ rfl
  have ky5 := BY.out.cells.2 5 _ rfl
  have ky6 := BY.out.cells.2 6 _ rfl
  have ky7 := BY.out.cells.2 7 _ rfl
  have ky8 := BY.out.cells.2 8 _ rfl
  have XY := Kept.mk (enO_of HY.out hB.out W0.heap.size (by omega))
  clear ka0 ka1 ka2 hb hch HA
  go_wp2_with fail
  refine (cjoin_any W0.heap.size c A Y _ _ _ _ W1 HC.out XY.out hF hY hN).mono ?_
  rintro e W2 ⟨rfl, ⟨vs2, vi2, ps2, hch2⟩, hb⟩
  have HC2 := Kept.mk hch2
  have BR2 := Kept.mk (BR.out.keepB hb (by omega))
  have hB2 := Kept.mk (hB.out.trans (hb.mono (by omega)))
  have k0 := HC2.out.st.cells.2 0 _ rfl
  have k1 := HC2.out.st.cells.2 1 _ rfl
  have k2 := HC2.out.st.cells.2 2 _ rfl
  clear hch2 hb BR hB HC BY XY ky0 ky1 ky2 ky3 ky4 ky5 ky6 ky7 ky8
  have HO : Kept (Ones [.int .i64 (joinAF A Y).cap, vs2, vi2]) := ⟨⟨rfl, (own_one HC2.out.own).2, (own_one HC2.out.idx).2, trivial⟩⟩
  go_wp2_with (have hz0 := HO; refine wpList_storeN 25 rfl (.tmp 4) (.tmp 21) rfl (w.heap.size + 1 + 1) [.int .i64 (joinAF A Y).cap, vs2, vi2] size_ar rfl rfl BR2.out.cells rfl BR2.out.free HO.out ?_; clear hz0 HO)
  exact bodyPost_ret (resultsN3 rfl _ _ (w.heap.size + 1 + 1) [.int .i64 (joinAF A Y).cap, vs2, vi2] (.bool (joinAB A Y)) (.int .i64 (joinAE A Y)) size_ar agg_ar rfl rfl rfl (BR2.out.all_ (l := [.int .i64 (joinAF A Y).cap, vs2, vi2]) rfl).cells) rfl ⟨_, rfl, HC2.out.ar_set (by omega) 0 _, below_setN (by omega) _ 0 _ hB2.out⟩
end Go.Proofs.YtkjghoomdefbbaaGreatDoor
end
section
namespace Go.Proofs.YtkjghoomdefbbaaGreatDoor
open Go.RowKit
set_option linter.unusedVariables false
set_option linter.unusedSimpArgs false
attribute [local irreducible] setN

end Go.Proofs.YtkjghoomdefbbaaGreatDoor
end
section
namespace Go.Proofs.YtkjghoomdefbbaaGreatDoor
open Go.RowKit Go.Shelf
set_option linter.unusedVariables false
set_option linter.unusedSimpArgs false
attribute [local irreducible] setN
attribute [local go_sem] Oper.semAt_some

abbrev El := Nat × En × Value × Value
def encE (x : El) : Array Value := #[.int .i64 (x.1 : Int), .agg #[.string ⟨x.2.1.key.toArray⟩, .int .i64 x.2.1.val.kind, .int .i64 x.2.1.val.time, .int .i64 x.2.1.val.node, .bool x.2.1.val.dead, .string ⟨x.2.1.val.text.toArray⟩, x.2.2.1, x.2.2.2, .int .u64 (x.2.1.val.flags.toNat : Int)]]
/-- A slot of the arena, as it stands in w. -/
def OkEl (A : Ar) (w : World) (x : El) : Prop := A.slots[x.1]? = some x.2.1 ∧ isCells (x.2.1.val.plus.map intC) x.2.2.1 w ∧ isCells (x.2.1.val.minus.map intC) x.2.2.2 w
/-- What the iterator wants kept: all that is older than n0, and block Bs. -/
def KpA (n0 Bs : Nat) (W W' : World) : Prop := W.heap.size ≤ W'.heap.size ∧ ∀ b, (b < n0 ∨ b = Bs) → W'.heap[b]? = W.heap[b]?
theorem kpA_t (n0 Bs : Nat) {A B C : World} (h : KpA n0 Bs A B) (k : KpA n0 Bs B C) : KpA n0 Bs A C := ⟨Nat.le_trans h.1 k.1, fun b hb => (k.2 b hb).trans (h.2 b hb)⟩
theorem kpA_below {n0 Bs : Nat} {W W' : World} (h : Below W.heap.size W W') (h1 : n0 ≤ W.heap.size) (h2 : Bs < W.heap.size) : KpA n0 Bs W W' := ⟨h.size, fun b hb => h.block b (by omega)⟩
structure ItA (A : Ar) (vs vi : Value) (w : World) (n0 Bs : Nat) (W : World) : Prop where
  size : n0 ≤ W.heap.size
  lt : Bs < W.heap.size
  old : ∀ b, b < n0 → W.heap[b]? = w.heap[b]?
  box : W.heap[Bs]? = some (.cells #[.int .i64 A.cap, vs, vi] 25 (0, 0))
theorem ItA.kp {A : Ar} {vs vi : Value} {w : World} {n0 Bs : Nat} {W W' : World} (h : ItA A vs vi w n0 Bs W) (k : KpA n0 Bs W W') : ItA A vs vi w n0 Bs W' :=
  ⟨Nat.le_trans h.size k.1, Nat.lt_of_lt_of_le h.lt k.1, fun b hb => (k.2 b (.inl hb)).trans (h.old b hb), (k.2 Bs (.inr rfl)).trans h.box⟩
theorem ItA.up {A : Ar} {vs vi : Value} {w : World} {Bs : Nat} {W : World} (h : ItA A vs vi w w.heap.size Bs W) : Below w.heap.size w { w with heap := W.heap } := ⟨rfl, rfl, rfl, h.size, h.old⟩
theorem ItA.ar {A : Ar} {vs vi : Value} {w : World} {Bs : Nat} {W : World} (h : ItA A vs vi w w.heap.size Bs W) (ha : isAr A (.agg #[.int .i64 A.cap, vs, vi]) w) : isAr A (.agg #[.int .i64 A.cap, vs, vi]) W := by
  have := stable_ar A _ w { w with heap := W.heap } ha h.up
  exact this
theorem ItA.cells_ {A : Ar} {vs vi : Value} {w : World} {Bs : Nat} {W : World} (h : ItA A vs vi w w.heap.size Bs W) {cs : List Value} {v : Value} (hc : isCells cs v w) : isCells cs v W := by
  have := stable_cells cs v w { w with heap := W.heap } hc h.up
  exact this
theorem ItA.cell {A : Ar} {vs vi : Value} {w : World} {n0 Bs : Nat} {W : World} (h : ItA A vs vi w n0 Bs W) (j : Nat) : W.cell? ⟨Bs, j, none⟩ = #[.int .i64 A.cap, vs, vi][j]? := by simp [World.cell?, h.box]
theorem ItA.at_ {A : Ar} {vs vi : Value} {w : World} {n0 Bs : Nat} {W : World} (h : ItA A vs vi w n0 Bs W) {b k : Nat} (hb : b < n0) : W.cell? ⟨b, k, none⟩ = w.cell? ⟨b, k, none⟩ := World.cell?_of_block (a := ⟨b, k, none⟩) (h.old b hb)
theorem abide {J : List El → World → Prop} {B : Nat} (h : AbidesFrom B J) {p : List El} {W W' : World} (hJ : J p W) (hb : Below W.heap.size W W') : J p W' := h p W W' none hJ ⟨hb.os, hb.tape, hb.output, hb.size, fun k hk _ => hb.block k hk⟩ (fun r e => by cases e)
theorem take_el {A : Ar} {p : List El} {k : Nat} {E : En} (hp : p.map (·.1) = List.range k) (hs : p.map (·.2.1) = A.slots.take k) (hE : A.slots[k]? = some E) (ep em : Value) : (p ++ [(k, E, ep, em)]).map (·.1) = List.range (k + 1) ∧ (p ++ [(k, E, ep, em)]).map (·.2.1) = A.slots.take (k + 1) := by
  rw [List.map_append, List.map_append, hp, hs, List.range_succ, List.take_add_one, hE]
  exact ⟨rfl, rfl⟩
section
variable {P : Program} {ops : Array Oper} {rest : List Oper} {o : Oper} {a : Act} {w : World} {Q : Exit → Act → World → Prop} {F : Fence} {n : Nat}
theorem wpListIn_storeN (hFn : ∀ f, F.fn f) (t : TypeId) (hgd : o.guard = none) (x y : Operand) (ho : o.op = .store t x y)
    (g : Nat) (l : List Value) (hs : (P.info? t).map (·.size) = some l.length) (hx : a.eval x = .pointer (some ⟨g, 0, none⟩)) (hy : a.eval y = .agg l.toArray) {old : List Value} (h : CellsN w g old) (hl : old.length = l.length) (hf : Free5 w g) (h1 : Ones l)
    (hr : wpListIn F n P ops Q rest (a.put o.dst undef) (setN w g 0 l)) : wpListIn F n P ops Q (o :: rest) a w :=
  wpListIn_plain hgd fun K hK => by
    unfold Oper.wpIn
    refine ⟨fun f _ => hFn f, ?_⟩
    rw [Oper.semAt_eq _ _ _ (by intro c e; rw [ho] at e; cases e)]
    unfold execOp
    rw [ho]
    simp only [hx, hy, Sem.run_bind, storeN t g w old l hs h hl hf h1, Result.andThen_ok, Sem.run_pure, Oper.uponIn]
    exact hK _ _ hr
end
def PlPost (A : Ar) (w : World) (J Jx : List El → World → Prop) (W' : World) : Prop := (∃ ys, (∀ x ∈ ys, OkEl A w x) ∧ ys.map (·.1) = (if okA A = true then List.range A.slots.length else []) ∧ ys.map (·.2.1) = (if okA A = true then A.slots else []) ∧ J ys W') ∨ (∃ pre, (∀ x ∈ pre, OkEl A w x) ∧ okA A = true ∧ Jx pre W')
set_option maxRecDepth 100000 in
set_option maxHeartbeats 2000000 in
theorem place1_in (m : Nat) (hm : 1 ≤ m) (l Bs : Nat) (A : Ar) (vs vi : Value) (w : World) (hs : isEns A.slots vs w) (hi : isCells (A.index.map intC) vi w) (hF : FitA A) (J Jx : List El → World → Prop) (B0 : Nat) (hJa : AbidesFrom B0 J)
    (hY : ∀ pre x W, J pre W → OkEl A w x → pre.length < A.slots.length → YieldAt Fence.wide (m - 1) Tryz.prog l (encE x) W fun e W' =>
      (e = .returned (.bool true) ∧ J (pre ++ [x]) W' ∧ KpA w.heap.size Bs W W') ∨ (e = .returned (.bool false) ∧ Jx (pre ++ [x]) W'))
    (W : World) (hI : ItA A vs vi w w.heap.size Bs W) (h0 : J [] W) :
    CallsIn Fence.wide m Tryz.prog 104 #[.func (.yield l) #[] #[], .pointer (some ⟨Bs, 0, none⟩)] W fun e W' => (∃ v, e = .returned v) ∧
      PlPost A w J Jx W' := by
  have k0 := hI.cell 0
  have k1 := hI.cell 1
  have k2 := hI.cell 2
  simp only [List.getElem?_toArray, List.getElem?_cons_zero, List.getElem?_cons_succ] at k0 k1 k2
  have XA := Kept.mk (hI.ar ⟨vs, vi, rfl, hs, hi⟩)
  have HI := Kept.mk hI
  have HJ := Kept.mk h0
  have HS := Kept.mk hs
  obtain ⟨sa, cs, e0⟩ := hs.len
  subst e0
  clear hI h0 hs hi
  have f1 := hF.slots
  cases hok : okA A with
  | false =>
    have CK := Kept.mk (chk_A0 hok)
    refine callsIn_of_wp Tryz.func104 rfl trivial ?_ rfl
    simp only [Tryz.ntmps104, List.size_toArray, List.length_cons, List.length_nil, Nat.reduceAdd, Nat.reduceSub, Array.replicate_succ, Array.replicate_zero, List.push_toArray, List.append_toArray, List.nil_append, List.cons_append]
    gi_wp2_with (refine ⟨trivial, (callsIn_wide.2 (acheck_any A _ _ XA.out hF)).mono ?_⟩; rintro e W1 ⟨rfl, hb⟩; rw [CK.out])
    refine bodyPost_ret (results_none rfl _ _ _) rfl ?_
    exact ⟨⟨_, rfl⟩, .inl ⟨[], (fun x hx => by cases hx), by rw [hok]; rfl, by rw [hok]; rfl, abide hJa HJ.out hb⟩⟩
  | true =>
    have CK := Kept.mk (chk_A1 hok)
    generalize hN : A.slots.length = N at *
    have HN := Kept.mk hN
    clear hN
    refine callsIn_of_wp Tryz.func104 rfl trivial ?_ rfl
    simp only [Tryz.ntmps104, List.size_toArray, List.length_cons, List.length_nil, Nat.reduceAdd, Nat.reduceSub, Array.replicate_succ, Array.replicate_zero, List.push_toArray, List.append_toArray, List.nil_append, List.cons_append]
    gi_wp2_with (refine ⟨trivial, (callsIn_wide.2 (acheck_any A _ _ XA.out hF)).mono ?_⟩; rintro e W1 ⟨rfl, hb⟩; rw [CK.out]; have HI1 := Kept.mk (HI.out.kp (kpA_below hb HI.out.size HI.out.lt)); have HJ1 := Kept.mk (abide hJa HJ.out hb); have k3 := HI1.out.cell 1; simp only [List.getElem?_toArray, List.getElem?_cons_zero, List.getElem?_cons_succ] at k3)
    gi_loopw [11] (fun i wr => ∃ k : Nat, k ≤ N ∧ i = .int .i64 (k : Int) ∧ Kept (ItA A (.slice sa N cs) vi w w.heap.size Bs wr) ∧ Kept (∃ p : List El, (∀ x ∈ p, OkEl A w x) ∧ p.map (·.1) = List.range k ∧ p.map (·.2.1) = A.slots.take k ∧ J p wr)) (fun i _ => N - (intOf i).toNat)
    case atStart => exact ⟨0, Nat.zero_le _, rfl, HI1, ⟨[], (fun x hx => by cases hx), rfl, rfl, HJ1.out⟩⟩
    case round =>
      clear HI1 HJ1 k3 HI HJ XA k0 k1 k2
      obtain ⟨k, hk, rfl, HI, HP⟩ := hrel
      by_cases hlt : k < N
      · have hlt' : (k : Int) < (N : Int) := by omega
        obtain ⟨E, hE⟩ : ∃ E, A.slots[k]? = some E := ⟨_, List.getElem?_eq_getElem (by rw [HN.out]; exact hlt)⟩
        obtain ⟨bs, os, cs', hvs, hbs, ep, em, hcell, hp, hm⟩ := HS.out.get hE
        injection hvs with h1 hx1 h2
        clear hx1
        subst h1 h2
        obtain ⟨p, hpo, hp1, hp2, hpJ⟩ := HP.out
        obtain ⟨K1, K2, K3, K4, K5⟩ := enew wr E ep em (HI.out.cells_ hp) (HI.out.cells_ hm) wr.heap.size rfl
        obtain ⟨q1, q2⟩ := take_el hp1 hp2 hE ep em
        have hlen : p.length = k := by have := congrArg List.length hp1; simpa using this
        have hJ2 := abide hJa hpJ K3.out
        obtain ⟨fn, tmps, assign, body, hy, hR⟩ := hY p (k, E, ep, em) _ hJ2 ⟨hE, hp, hm⟩ (by omega)
        simp only [encE] at hy
        have HI2 := Kept.mk (HI.out.kp (kpA_below K3.out HI.out.size HI.out.lt))
        have HQ := Kept.mk (And.intro (show ∀ x ∈ p ++ [(k, E, ep, em)], OkEl A w x from fun x hx => (List.mem_append.1 hx).elim (hpo x) (fun hx => by rw [List.mem_singleton] at hx; subst hx; exact ⟨hE, hp, hm⟩)) (And.intro q1 q2))
        have kc0 : wr.cell? ⟨bs, os + k * 9, none⟩ = _ := (HI.out.at_ (k := os + k * 9 + 0) hbs).trans (hcell 0 _ rfl)
        have kc1 : wr.cell? ⟨bs, os + k * 9 + 1, none⟩ = _ := (HI.out.at_ (k := os + k * 9 + 1) hbs).trans (hcell 1 _ rfl)
        have kc2 : wr.cell? ⟨bs, os + k * 9 + 2, none⟩ = _ := (HI.out.at_ (k := os + k * 9 + 2) hbs).trans (hcell 2 _ rfl)
        have kc3 : wr.cell? ⟨bs, os + k * 9 + 3, none⟩ = _ := (HI.out.at_ (k := os + k * 9 + 3) hbs).trans (hcell 3 _ rfl)
        have kc4 : wr.cell? ⟨bs, os + k * 9 + 4, none⟩ = _ := (HI.out.at_ (k := os + k * 9 + 4) hbs).trans (hcell 4 _ rfl)
        have kc5 : wr.cell? ⟨bs, os + k * 9 + 5, none⟩ = _ := (HI.out.at_ (k := os + k * 9 + 5) hbs).trans (hcell 5 _ rfl)
        have kc6 : wr.cell? ⟨bs, os + k * 9 + 6, none⟩ = _ := (HI.out.at_ (k := os + k * 9 + 6) hbs).trans (hcell 6 _ rfl)
        have kc7 : wr.cell? ⟨bs, os + k * 9 + 7, none⟩ = _ := (HI.out.at_ (k := os + k * 9 + 7) hbs).trans (hcell 7 _ rfl)
        have kc8 : wr.cell? ⟨bs, os + k * 9 + 8, none⟩ = _ := (HI.out.at_ (k := os + k * 9 + 8) hbs).trans (hcell 8 _ rfl)
        clear hcell hp hm hp1 hp2 hpJ hpo q1 q2 hE hJ2
        gi_wp2_with (have hz0 := K1; refine wpListIn_storeN (fun _ => trivial) 48 rfl (.tmp 4) (.tmp 15) rfl wr.heap.size [.string ⟨E.key.toArray⟩, .int .i64 E.val.kind, .int .i64 E.val.time, .int .i64 E.val.node, .bool E.val.dead, .string ⟨E.val.text.toArray⟩, ep, em, .int .u64 (E.val.flags.toNat : Int)] size_en rfl rfl K1.out rfl K2.out K5.out ?_; clear hz0 K1 K2 K5 kc0 kc1 kc2 kc3 kc4 kc5 kc6 kc7 kc8; have kx0 := K4.out.1.2 0 _ rfl; have kx1 := K4.out.1.2 1 _ rfl; have kx2 := K4.out.1.2 2 _ rfl; have kx3 := K4.out.1.2 3 _ rfl; have kx4 := K4.out.1.2 4 _ rfl; have kx5 := K4.out.1.2 5 _ rfl; have kx6 := K4.out.1.2 6 _ rfl; have kx7 := K4.out.1.2 7 _ rfl; have kx8 := K4.out.1.2 8 _ rfl; generalize setN (wr.alloc (.cells #[.string ⟨#[]⟩, .int .i64 0, .int .i64 0, .int .i64 0, .bool false, .string ⟨#[]⟩, .slice none 0 0, .slice none 0 0, .int .u64 0] 48)) wr.heap.size 0 [.string ⟨E.key.toArray⟩, .int .i64 E.val.kind, .int .i64 E.val.time, .int .i64 E.val.node, .bool E.val.dead, .string ⟨E.val.text.toArray⟩, ep, em, .int .u64 (E.val.flags.toNat : Int)] = W2 at *)
        refine hR.mono ?_
        rintro e W3 (⟨rfl, hJ3, hk3⟩ | ⟨rfl, hJx3⟩)
        · have HI3 := Kept.mk (HI2.out.kp hk3)
          have HP3 : Kept (∃ p : List El, (∀ x ∈ p, OkEl A w x) ∧ p.map (·.1) = List.range (k + 1) ∧ p.map (·.2.1) = A.slots.take (k + 1) ∧ J p W3) := ⟨_, HQ.out.1, HQ.out.2.1, HQ.out.2.2, hJ3⟩
          clear hJ3 hk3
          gi_wp2
          go_roundw
          case rel => exact ⟨k + 1, by omega, by go_num, HI3, HP3⟩
          case measure => simp [intOf]; omega
        · have HX := Kept.mk hJx3
          clear hJx3
          gi_wp2
          refine bodyPost_ret (results_none rfl _ _ _) rfl ?_
          exact ⟨⟨_, rfl⟩, .inr ⟨_, HQ.out.1, hok, HX.out⟩⟩
      · have hlt' : ¬ (k : Int) < (N : Int) := by omega
        obtain rfl : k = N := by omega
        obtain ⟨p, hpo, hp1, hp2, hpJ⟩ := HP.out
        have HP2 := Kept.mk (show PlPost A w J Jx wr from .inl ⟨p, hpo, by rw [hok, if_pos rfl, HN.out]; exact hp1, by rw [hok, if_pos rfl, hp2]; exact List.take_of_length_le (by rw [HN.out]; exact Nat.le_refl _), hpJ⟩)
        clear hpo hp1 hp2 hpJ
        gi_wp2
        go_end0
        exact ⟨⟨_, rfl⟩, HP2.out⟩
end Go.Proofs.YtkjghoomdefbbaaGreatDoor
end
section
namespace Go.Proofs.YtkjghoomdefbbaaGreatDoor
open Go.RowKit Go.Shelf
set_option linter.unusedVariables false
set_option linter.unusedSimpArgs false
attribute [local irreducible] setN
attribute [local go_sem] Oper.semAt_some

def NmPost (A : Ar) (w : World) (J Jx : List El → World → Prop) (W' : World) : Prop := (∃ ys, (∀ x ∈ ys, OkEl A w x) ∧ ys.map (·.2.1) = (if okA A = true then ordA A else []) ∧ J ys W') ∨ (∃ pre, (∀ x ∈ pre, OkEl A w x) ∧ okA A = true ∧ Jx pre W')
set_option maxRecDepth 100000 in
set_option maxHeartbeats 2000000 in
theorem placec_call (m : Nat) (A : Ar) (vs vi : Value) (w : World) : CallsIn Fence.wide m Tryz.prog 78 #[.agg #[.int .i64 A.cap, vs, vi]] w fun e w' => e = .returned (.func (.func 104) #[] #[.pointer (some ⟨w.heap.size, 0, none⟩)]) ∧ w' = w.alloc (.cells #[.int .i64 A.cap, vs, vi] 25) := by
  refine callsIn_of_wp Tryz.func78 rfl trivial ?_ rfl
  simp only [Tryz.ntmps78, List.size_toArray, List.length_cons, List.length_nil, Nat.reduceAdd, Nat.reduceSub, Array.replicate_succ, Array.replicate_zero, List.push_toArray, List.append_toArray, List.nil_append, List.cons_append]
  gi_wp2
  go_ret
  exact ⟨by simp, rfl⟩
theorem placec_stops (m : Nat) (hm : 1 ≤ m) (Bs : Nat) (A : Ar) (vs vi : Value) (w w0 : World) (hs : isEns A.slots vs w) (hi : isCells (A.index.map intC) vi w) (hF : FitA A) (hI : ItA A vs vi w w.heap.size Bs w0) :
    SeqStopsK Fence.wide m Tryz.prog 104 #[.pointer (some ⟨Bs, 0, none⟩)] (fun x : { x : El // OkEl A w x } => encE x.1) (KpA w.heap.size Bs) (fun ys => ys.map (·.1.1) = (if okA A = true then List.range A.slots.length else []) ∧ ys.map (·.1.2.1) = (if okA A = true then A.slots else [])) (fun _ => okA A = true) A.slots.length w0 := fun l J Jx W hW hJa _ hY h0 =>
  (place1_in m hm l Bs A vs vi w hs hi hF (fun ns W => ∃ p : List { x : El // OkEl A w x }, p.map (·.1) = ns ∧ J p W) (fun ns W => ∃ p : List { x : El // OkEl A w x }, p.map (·.1) = ns ∧ Jx p W) W.heap.size
    (fun s W W' row ⟨p, hp, hJ⟩ hg hr => ⟨p, hp, hJa p W W' row hJ hg hr⟩)
    (fun pre x W ⟨p, hp, hJ⟩ hx h2 => (hY p ⟨x, hx⟩ W hJ (by rw [← hp, List.length_map] at h2; exact h2)).mono fun e W' h => by
      rcases h with ⟨rfl, h, hk⟩ | ⟨rfl, h⟩
      · exact .inl ⟨rfl, ⟨_, by simp [hp], h⟩, hk⟩
      · exact .inr ⟨rfl, ⟨_, by simp [hp], h⟩⟩) W (hI.kp ⟨hW.size, fun b hb => hW.block b (by have := hI.size; have := hI.lt; omega)⟩) ⟨[], rfl, h0⟩).mono fun e W' ⟨he, h⟩ => by
    refine ⟨he, ?_⟩
    rcases h with ⟨ys, _, h1, h2, p, hp, hJ⟩ | ⟨pre, _, hok, p, hp, hJ⟩
    · exact .inl ⟨p, ⟨by rw [← h1, ← hp, List.map_map]; rfl, by rw [← h2, ← hp, List.map_map]; rfl⟩, hJ⟩
    · exact .inr ⟨p, hok, hJ⟩
end Go.Proofs.YtkjghoomdefbbaaGreatDoor
end
section
namespace Go.Proofs.YtkjghoomdefbbaaGreatDoor
open Go.RowKit Go.Shelf
set_option linter.unusedVariables false
set_option linter.unusedSimpArgs false
attribute [local irreducible] setN
attribute [local go_sem] Oper.semAt_some

/-- The row so far, in the variable of block b1. -/
structure OutS (N0 b1 : Nat) (v : Value) (ps : List (En × Value × Value)) (W : World) : Prop where
  st : Blk W b1 [v]
  own : W.ownsRow N0 48 9 v ps.length (flatE ps)
  rows : RowsOk ps W
  off : ∀ q ∈ ps, ∀ b, v.ownBlock = some b → OffQ b q
  nw : ∀ q ∈ ps, NewB N0 q.2.1 ∧ NewB N0 q.2.2
theorem OutS.bt {N0 b1 : Nat} {v : Value} {ps : List (En × Value × Value)} {S : Nat → Prop} {W W' : World} (h : OutS N0 b1 v ps W) (bt : Bt S W W') (h1 : ¬ S b1) (h2 : ∀ b, N0 ≤ b → (∃ k x, W.cell? ⟨b, k, none⟩ = some x) → ¬ S b) (h3 : ∀ b, v.ownBlock = some b → ¬ S b) : OutS N0 b1 v ps W' := by
  refine ⟨bt.blk h.st h1, bt.own h.own h3, fun q hq => ?_, h.off, h.nw⟩
  have key : ∀ {cs : List Value} {u : Value}, isCells cs u W → NewB N0 u → cs = [] ∨ ∀ b, blk u = some b → ¬ S b := by
    intro cs u hc hn
    by_cases e : cs = []
    · exact .inl e
    · refine .inr (fun b hb => ?_)
      rcases hc with ⟨_, e'⟩ | ⟨_, _, _, e'⟩ | ⟨b', off, cap, eu, hlt, hcc⟩
      · exact absurd e' e
      · exact absurd e' e
      · rw [eu] at hb
        injection hb with hb
        have hbb : b' = b := hb
        subst hbb
        obtain ⟨x, r, rfl⟩ := List.exists_cons_of_ne_nil e
        exact h2 b' (hn b' (by rw [eu]; rfl)) ⟨off + 0, x, hcc 0 x rfl⟩
  exact ⟨bt.cells (h.rows q hq).1 (key (h.rows q hq).1 (h.nw q hq).1), bt.cells (h.rows q hq).2 (key (h.rows q hq).2 (h.nw q hq).2)⟩
theorem OutS.keep {N0 b1 : Nat} {v : Value} {ps : List (En × Value × Value)} {W W' : World} (h : OutS N0 b1 v ps W) (hb : Below W.heap.size W W') : OutS N0 b1 v ps W' :=
  ⟨h.st.keep hb, own_grow h.own hb, fun q hq => ⟨stable_cells _ _ _ _ (h.rows q hq).1 hb, stable_cells _ _ _ _ (h.rows q hq).2 hb⟩, h.off, h.nw⟩
theorem OutS.push {N0 b1 : Nat} {vs : Value} {ps : List (En × Value × Value)} {w w' : World} (h : OutS N0 b1 vs ps w) (hb1 : b1 < N0) (hN : N0 ≤ w.heap.size) (E : En) (v vp vm : Value)
    (h1 : w'.ownsRow N0 48 9 v (ps.length + 1) (flatE ps ++ enL E vp vm)) (h2 : isCells (E.val.plus.map intC) vp w') (h3 : isCells (E.val.minus.map intC) vm w') (h4 : NewB w.heap.size vp) (h5 : NewB w.heap.size vm) (h6 : v.ownBlock = vs.ownBlock ∨ NewB w.heap.size v) (h7 : ∀ b, v.ownBlock = some b → (E.val.plus.map intC = [] ∨ blk vp ≠ some b) ∧ (E.val.minus.map intC = [] ∨ blk vm ≠ some b)) (h8 : Blk w' b1 [v]) (h9 : Bt (fun b => b = b1 ∨ vs.ownBlock = some b) w w') : OutS N0 b1 v (ps ++ [(E, vp, vm)]) w' := by
  refine ⟨h8, by rw [List.length_append, flatE_snoc]; exact h1, fun q hq => ?_, fun q hq b hb => ?_, fun q hq => (List.mem_append.1 hq).elim (h.nw q) (fun hq => by rw [List.mem_singleton] at hq; subst hq; exact ⟨h4.low hN, h5.low hN⟩)⟩
  · rcases List.mem_append.1 hq with hq | hq
    · have o := h.off q hq
      have nw := h.nw q hq
      refine ⟨h9.cells (h.rows q hq).1 ?_, h9.cells (h.rows q hq).2 ?_⟩
      · by_cases e : q.1.val.plus.map intC = []
        · exact .inl e
        · exact .inr (fun b hb hS => by rcases hS with rfl | hS; (· have := nw.1 _ hb; omega); (· exact ((o b hS).1.resolve_left e) hb))
      · by_cases e : q.1.val.minus.map intC = []
        · exact .inl e
        · exact .inr (fun b hb hS => by rcases hS with rfl | hS; (· have := nw.2 _ hb; omega); (· exact ((o b hS).2.resolve_left e) hb))
    · rw [List.mem_singleton] at hq
      subst hq
      exact ⟨h2, h3⟩
  · rcases List.mem_append.1 hq with hq | hq
    · rcases h6 with e | e
      · exact h.off q hq b (by rw [← e]; exact hb)
      · have hbn := e b (own_blk_eq hb)
        refine ⟨(cells_lt (h.rows q hq).1).imp id (fun h3 e3 => ?_), (cells_lt (h.rows q hq).2).imp id (fun h3 e3 => ?_)⟩
        · have := h3 b e3; omega
        · have := h3 b e3; omega
    · rw [List.mem_singleton] at hq
      subst hq
      exact h7 b hb
theorem OutS.ens {N0 b1 : Nat} {v : Value} {ps : List (En × Value × Value)} {W : World} (h : OutS N0 b1 v ps W) : isEns (ps.map (·.1)) v W := own_ens h.own h.rows
theorem cell_cells {W : World} {b k : Nat} {x : Value} (h : W.cell? ⟨b, k, none⟩ = some x) {o : Obj} (ho : W.heap[b]? = some o) : o.isCells = true := by
  cases o <;> first | rfl | (simp [World.cell?, ho] at h)
/-- A step of the loop's own. -/
theorem out_own {B N0 b1 : Nat} (hb : b1 < B) : ∀ {v ps W W' row}, OutS N0 b1 v ps W → W.grownBy W' row → (∀ r, row = some r → B ≤ r ∧ ∃ o : Obj, W.heap[r]? = some o ∧ o.isCells = false) → OutS N0 b1 v ps W' := by
  intro v ps W W' row h hg hr
  have bt : Bt (fun b => row = some b) W W' := gb_bt hg (fun b e => e)
  refine h.bt bt (fun e => by have := (hr _ e).1; omega) (fun b _ ⟨k, x, hx⟩ e => ?_) (fun b hb e => ?_)
  · obtain ⟨_, o, ho, hc⟩ := hr b e
    rw [cell_cells hx ho] at hc; cases hc
  · obtain ⟨_, o, ho, hc⟩ := hr b e
    obtain ⟨_, ⟨rfl, _⟩ | ⟨g, cap, cur, rfl, _, hg', _⟩⟩ := h.own
    · cases hb
    · have : g = b := by injection hb
      subst this
      rw [hg'] at ho
      injection ho with ho
      subst ho
      cases hc
theorem blk_own {B h : Nat} {cs : List Value} (hne : cs ≠ []) {W W' : World} {row : Option Nat} (hb : Blk W h cs) (hg : W.grownBy W' row) (hr : ∀ r, row = some r → B ≤ r ∧ ∃ o : Obj, W.heap[r]? = some o ∧ o.isCells = false) : Blk W' h cs := by
  have bt : Bt (fun b => row = some b) W W' := gb_bt hg (fun b e => e)
  refine bt.blk hb (fun e => ?_)
  obtain ⟨_, o, ho, hc⟩ := hr h e
  obtain ⟨x, r, rfl⟩ := List.exists_cons_of_ne_nil hne
  rw [cell_cells (hb.cells.2 0 x rfl) ho] at hc; cases hc
theorem kpA_put (n0 Bs m : Nat) (h0 : n0 ≤ m) (hb : Bs < m) (W : World) (l : Nat) (o o' : Obj) (h : m ≤ l) (h1 : W.heap[l]? = some o) (h2 : o.isCells = false) (h3 : o.isWalk = false) : KpA n0 Bs W (W.putObj l o') := by
  have hg := grownBy_putObj' W l o'
  exact ⟨hg.size, fun b hb' => hg.block b (by have := (Array.getElem?_eq_some_iff.1 h1).1; omega) (by intro e; injection e with e; omega)⟩
noncomputable def ckappOps : Array Oper := regionOfR Tryz.f71 8
set_option maxRecDepth 100000 in
set_option maxHeartbeats 2000000 in
theorem ckapp_region {lp nn : Nat} (Q : Exit → Act → World → Prop) (a0 : Act) (w0 : World) (hQo : ¬ LetsOut Q) (hsz : a0.tmps.size = 31) (g h B n : Nat) (l : List Value) (E : En) (vs ep em : Value) (xs : List Value) (e1 : a0.tmps.getD 7 undef = .pointer (some ⟨g, 0, none⟩)) (e2 : a0.tmps.getD 9 undef = .pointer (some ⟨h, 0, none⟩))
    (HG : Blk w0 g l) (hl : l[0]? = some vs) (hE : Blk w0 h [.string ⟨E.key.toArray⟩, .int .i64 E.val.kind, .int .i64 E.val.time, .int .i64 E.val.node, .bool E.val.dead, .string ⟨E.val.text.toArray⟩, ep, em, .int .u64 (E.val.flags.toNat : Int)]) (hp : isCells (E.val.plus.map intC) ep w0) (hm : isCells (E.val.minus.map intC) em w0) (hF : FitE E) (hown : w0.ownsRow B 48 9 vs n xs) (hn : n ≤ 1000) (hB : B ≤ w0.heap.size)
    (hap : ∀ s, vs.ownBlock = some s → s ≠ g ∧ s ≠ h ∧ (E.val.plus.map intC = [] ∨ blk ep ≠ some s) ∧ (E.val.minus.map intC = [] ∨ blk em ≠ some s))
    (hQ : ∀ (y : Nat → Value) (v vp vm : Value) (w : World), w.ownsRow B 48 9 v (n + 1) (xs ++ enL E vp vm) → isCells (E.val.plus.map intC) vp w → isCells (E.val.minus.map intC) vm w → NewB w0.heap.size vp → NewB w0.heap.size vm → (v.ownBlock = vs.ownBlock ∨ NewB w0.heap.size v) → (∀ b, v.ownBlock = some b → (E.val.plus.map intC = [] ∨ blk vp ≠ some b) ∧ (E.val.minus.map intC = [] ∨ blk vm ≠ some b)) → Blk w g (l.set 0 v) → Bt (fun b => b = g ∨ vs.ownBlock = some b) w0 w →
      Q .normal { tmps := [25, 26, 27, 28, 29].foldl (fun t s => t.setIfInBounds s (y s)) a0.tmps, defers := a0.defers } w) :
    (Code.region 8 ckappOps true).wpIn (Fence.wide.inRound lp) nn Tryz.prog Q a0 w0 := by
  obtain ⟨r, hr0⟩ : ∃ r, vs.ownBlock = r := ⟨_, rfl⟩
  have hcell : w0.cell? ⟨g, 0, none⟩ = some vs := HG.cells.2 _ _ hl
  have hg := HG.lt
  have hgr : r ≠ some g := by intro e; exact (hap g (hr0.trans e)).1 rfl
  have hhr : r ≠ some h := by intro e; exact (hap h (hr0.trans e)).2.1 rfl
  have opr : E.val.plus.map intC = [] ∨ ∀ s, r = some s → blk ep ≠ some s := by
    cases r with
    | none => exact .inr (fun s e => by cases e)
    | some s => exact (hap s hr0).2.2.1.imp id (fun h s' e => by cases e; exact h)
  have omr : E.val.minus.map intC = [] ∨ ∀ s, r = some s → blk em ≠ some s := by
    cases r with
    | none => exact .inr (fun s e => by cases e)
    | some s => exact (hap s hr0).2.2.2.imp id (fun h s' e => by cases e; exact h)
  have hre : vs.ownBlock = r := hr0
  have hrN : ∀ s, r = some s → s < w0.heap.size := fun s e => (hown.lt s (hr0.trans e)).2
  have hR := gb_pre r
  refine wpIn_region_one (by kernel_rfl) hQo hR 4 [] (fun w => w.ownsRow B 48 9 vs n xs) (by kernel_rfl) (fun _ _ h hb => own_grow h hb) (fun _ h => own_grow h ((Below.refl _ _).drew)) 5 mixed (by rw [hsz]; kernel_rfl) (by kernel_rfl) hown ?_
  rw [show ckappOps.size - 5 = 1 by kernel_rfl]
  refine ⟨isVal vs, OStep.of hR (by decide) (stabR_val' _ _) (by kernel_rfl) (by intro w hr; exact step_read 22 (.tmp 7) ⟨g, 0, none⟩ vs (by kernel_rfl) (wanted_none (by kernel_rfl)) (knows_old 7 (.pointer (some ⟨g, 0, none⟩)) (by kernel_rfl) e1) ((hr.cell_ hcell hg hgr)) ((Nat.lt_of_lt_of_le hg hr.size)) (agg_noS)), ?_⟩
  refine ⟨isVal (.agg #[.string ⟨E.key.toArray⟩, .int .i64 E.val.kind, .int .i64 E.val.time, .int .i64 E.val.node, .bool E.val.dead, .string ⟨E.val.text.toArray⟩, ep, em, .int .u64 (E.val.flags.toNat : Int)]), OStep.of hR (by decide) (stabR_val' _ _) (by kernel_rfl) (by intro w hr; exact step_loadA 48 (.tmp 9) (h) (0) [.string ⟨E.key.toArray⟩, .int .i64 E.val.kind, .int .i64 E.val.time, .int .i64 E.val.node, .bool E.val.dead, .string ⟨E.val.text.toArray⟩, ep, em, .int .u64 (E.val.flags.toNat : Int)] (by kernel_rfl) (wanted_none (by kernel_rfl)) (knows_old 9 (.pointer (some ⟨h, 0, none⟩)) (by kernel_rfl) e2) size_en agg_en (⟨Nat.lt_of_lt_of_le hE.lt hr.size, fun j x hx => by rw [Nat.zero_add]; exact hr.cell_ (hE.cells.2 j x hx) hE.lt hhr⟩)), ?_⟩
  refine ⟨(isEnN w0.heap.size E), OStep.of hR (by decide) (enN_R hrN _) (by kernel_rfl) (by intro w hr; exact step_call 75 #[.tmp 26] #[48] #[.agg #[.string ⟨E.key.toArray⟩, .int .i64 E.val.kind, .int .i64 E.val.time, .int .i64 E.val.node, .bool E.val.dead, .string ⟨E.val.text.toArray⟩, ep, em, .int .u64 (E.val.flags.toNat : Int)]] (by kernel_rfl) (wanted_none (by kernel_rfl)) (stable_enN _ _) (args1 (.tmp 26) (.agg #[.string ⟨E.key.toArray⟩, .int .i64 E.val.kind, .int .i64 E.val.time, .int .i64 E.val.node, .bool E.val.dead, .string ⟨E.val.text.toArray⟩, ep, em, .int .u64 (E.val.flags.toNat : Int)]) (knows_new (V := isVal (.agg #[.string ⟨E.key.toArray⟩, .int .i64 E.val.kind, .int .i64 E.val.time, .int .i64 E.val.node, .bool E.val.dead, .string ⟨E.val.text.toArray⟩, ep, em, .int .u64 (E.val.flags.toNat : Int)])) 26 1 (by kernel_rfl) (by kernel_rfl) (by kernel_rfl))) (enters_of Tryz.func75 (by kernel_rfl) rfl) (by intro w' hb; exact twin_at w0.heap.size E _ w' (en_mk (hr.cells hp opr) (hr.cells hm omr) hb) hF (Nat.le_trans hr.size hb.size))), ?_⟩
  refine ⟨(isEn1 w0.heap.size E), OStep.of hR (by decide) (en1_R hrN _) (by kernel_rfl) (by intro w hr; exact step_ent1 w0.heap.size (.tmp 27) E (by kernel_rfl) (wanted_none (by kernel_rfl)) (knows_new (V := (isEnN w0.heap.size E)) 27 2 (by kernel_rfl) (by kernel_rfl) (by kernel_rfl)) (hr.size)), ?_⟩
  refine ⟨isApp B w0.heap.size r E n xs, ostep_app B w0.heap.size r E vs n xs (.tmp 25) (.tmp 28) (by kernel_rfl) (knows_new (V := isVal vs) 25 0 (by kernel_rfl) (by kernel_rfl) (by kernel_rfl)) (knows_new (V := (isEn1 w0.heap.size E)) 28 3 (by kernel_rfl) (by kernel_rfl) (by kernel_rfl)) hn hB hre hrN (Nat.le_refl _) (by kernel_rfl), ?_⟩
  intro a w hk0 hb hd
  have da := fdone_of (rdone_f (hd 4 (by decide))) (t := 29) (V := isApp B w0.heap.size r E n xs) (by kernel_rfl) (by kernel_rfl)
  have dp : a.tmps.getD 7 undef = .pointer (some ⟨g, 0, none⟩) := (hk0.2.2 7 (by kernel_rfl)).trans e1
  generalize hv : a.tmps.getD 29 undef = v at da
  obtain ⟨vp, vm, h1, h2, h3, h4, h5, h6, h7⟩ := da
  have hgw : g < w.heap.size := Nat.lt_of_lt_of_le hg hb.size
  have hvg : v.ownBlock ≠ some g := by
    rcases h6 with h6 | h6
    · rw [h6]; exact hgr
    · intro e; have := h6 g (own_blk_eq e); omega
  have ng : ∀ {cs : List Value} {u : Value}, NewB w0.heap.size u → cs = [] ∨ blk u ≠ some g := fun h => .inr (h.ne hg)
  have HG' : Blk w g l := ⟨⟨hgw, fun j x hx => hb.cell_ (HG.cells.2 j x hx) hg hgr⟩, fun j => (hb.frozen_ hg hgr).trans (HG.free j)⟩
  refine tail_store 22 (.tmp 7) (.tmp 29) ⟨g, 0, none⟩ v vs (by kernel_rfl) (by kernel_rfl) dp hv (by kernel_rfl) (own_one h1).1 (own_one h1).2 (HG'.cells.2 _ _ hl) (HG'.free 0) ?_
  obtain ⟨y, ey⟩ := kept_ex hk0.f [some 25, some 26, some 27, some 28, some 29, none] [25, 26, 27, 28, 29] (by kernel_rfl) (by decide)
  rw [ey]
  have hll : 0 < l.length := (List.getElem?_eq_some_iff.1 hl).1
  exact hQ y v vp vm _ (own_set h1 hvg) (cells_set h2 (ng h4)) (cells_set h3 (ng h5)) h4 h5 (h6.imp (fun e => e.trans hr0.symm) id) h7 (HG'.set 0 v hll) ((gb_bt hb (fun b e => .inr (hr0.trans e))).trans (bt_set g 0 v w (.inl rfl)))
end Go.Proofs.YtkjghoomdefbbaaGreatDoor
end
section
namespace Go.Proofs.YtkjghoomdefbbaaGreatDoor
open Go.RowKit Go.Shelf
set_option linter.unusedVariables false
set_option linter.unusedSimpArgs false
attribute [local irreducible] setN
attribute [local go_sem] Oper.semAt_some

def IAll (A : Ar) (w : World) (pre : List { x : El // OkEl A w x }) (W : World) : Prop := ∃ v ps, OutS (w.heap.size + 3) (w.heap.size + 1) v ps W ∧ ps.map (·.1) = pre.map (·.1.2.1) ∧ Below w.heap.size w W ∧ w.heap.size + 3 ≤ W.heap.size
theorem keeps_below {B : Nat} {W W' : World} (hb : Below W.heap.size W W') : KeepsFrom B W W' := ⟨hb.size, fun k o _ hk _ => (hb.block k (Array.getElem?_eq_some_iff.1 hk).1).trans hk⟩
theorem iall_b1 {b B : Nat} {W W' : World} {row : Option Nat} (hg : W.grownBy W' row) (hr : ∀ r, row = some r → B ≤ r ∧ ∃ o : Obj, W.heap[r]? = some o ∧ o.isCells = false) {h : Nat} {cs : List Value} (hb : Blk W h cs) (hlt : b < B ∧ b < W.heap.size) : W'.heap[b]? = W.heap[b]? := hg.block b hlt.2 (fun e => by have := (hr b e.symm).1; omega)
end Go.Proofs.YtkjghoomdefbbaaGreatDoor
end
section
namespace Go.Proofs.YtkjghoomdefbbaaGreatDoor
open Go.RowKit Go.Shelf
set_option linter.unusedVariables false
set_option linter.unusedSimpArgs false
attribute [local irreducible] setN
attribute [local go_sem] Oper.semAt_some

def ckStep (at_ n : Int) (o : List En) (x : El) : List En := if at_ ≤ (x.1 : Int) ∧ (o.length : Int) < n then o ++ [x.2.1] else o
def ckL (at_ n : Int) (l : List El) : List En := l.foldl (ckStep at_ n) []
theorem ckL_snoc (at_ n : Int) (l : List El) (x : El) : ckL at_ n (l ++ [x]) = ckStep at_ n (ckL at_ n l) x := by unfold ckL; rw [List.foldl_append]; rfl
theorem ckL_le (at_ n : Int) (l : List El) : (ckL at_ n l).length ≤ l.length := by
  suffices h : ∀ (l : List El) (o : List En), (l.foldl (ckStep at_ n) o).length ≤ o.length + l.length by have := h l []; simpa [ckL] using this
  intro l
  induction l with
  | nil => intro o; simp
  | cons x r ih =>
    intro o
    rw [List.foldl_cons]
    refine Nat.le_trans (ih _) ?_
    unfold ckStep
    split
    · rw [List.length_append, List.length_cons, List.length_cons]; simp only [List.length_nil]; omega
    · rw [List.length_cons]; omega
theorem ckL_spec (at_ n : Int) (hat : 0 ≤ at_) (L : List En) : ∀ (k : Nat) (l : List El), k ≤ L.length → l.map (·.1) = List.range k → l.map (·.2.1) = L.take k → ckL at_ n l = ((L.take k).drop at_.toNat).take n.toNat := by
  intro k
  induction k with
  | zero =>
    intro l _ h1 h2
    have : l = [] := by have := congrArg List.length h1; simpa using this
    subst this
    simp [ckL]
  | succ k ih =>
    intro l hk h1 h2
    have hl : l.length = k + 1 := by have := congrArg List.length h1; simpa using this
    obtain ⟨r, x, rfl⟩ : ∃ r x, l = r ++ [x] := ⟨l.dropLast, l.getLast (by intro e; rw [e] at hl; simp at hl), (List.dropLast_concat_getLast _).symm⟩
    have hr : r.length = k := by simpa using hl
    rw [List.map_append, List.range_succ] at h1
    rw [List.map_append, List.take_add_one] at h2
    obtain ⟨E, hE⟩ : ∃ E, L[k]? = some E := ⟨_, List.getElem?_eq_getElem (by omega)⟩
    rw [hE] at h2
    have a1 := List.append_inj h1 (by simp [hr])
    have a2 := List.append_inj h2 (by simp; omega)
    have x1 : x.1 = k := by simpa using a1.2
    have x2 : x.2.1 = E := by simpa using a2.2
    rw [ckL_snoc, ih r (by omega) a1.1 a2.1, ckStep, x1, x2, List.take_add_one, hE]
    have hlk : (L.take k).length = k := by simp; omega
    by_cases h3 : at_ ≤ (k : Int)
    · have e1 : (L.take k ++ [E]).drop at_.toNat = (L.take k).drop at_.toNat ++ [E] := List.drop_append_of_le_length (by omega)
      show (if at_ ≤ (k : Int) ∧ _ then _ else _) = ((L.take k ++ [E]).drop at_.toNat).take n.toNat
      rw [e1]
      by_cases h4 : k - at_.toNat < n.toNat
      · have d1 : ((L.take k).drop at_.toNat).length = k - at_.toNat := by rw [List.length_drop, hlk]
        have t1 : ((L.take k).drop at_.toNat).take n.toNat = (L.take k).drop at_.toNat := List.take_of_length_le (by omega)
        have t2 : ((L.take k).drop at_.toNat ++ [E]).take n.toNat = (L.take k).drop at_.toNat ++ [E] := List.take_of_length_le (by rw [List.length_append, d1]; simp; omega)
        rw [t1, t2, if_pos ⟨h3, by rw [d1]; omega⟩]
      · have d1 : ((L.take k).drop at_.toNat).length = k - at_.toNat := by rw [List.length_drop, hlk]
        rw [if_neg (by rintro ⟨_, h5⟩; rw [List.length_take, d1] at h5; omega), List.take_append_of_le_length (by rw [d1]; omega)]
    · show (if at_ ≤ (k : Int) ∧ _ then _ else _) = ((L.take k ++ [E]).drop at_.toNat).take n.toNat
      have z1 : (L.take k).drop at_.toNat = [] := List.drop_eq_nil_of_le (by omega)
      have z2 : (L.take k ++ [E]).drop at_.toNat = [] := List.drop_eq_nil_of_le (by rw [List.length_append, hlk]; simp; omega)
      rw [if_neg (by rintro ⟨h5, _⟩; exact h3 h5), z1, z2]
def ICk (A : Ar) (at_ n : Int) (w : World) (pre : List { x : El // OkEl A w x }) (W : World) : Prop := ∃ v ps, OutS (w.heap.size + 5) (w.heap.size + 1 + 1 + 1) v ps W ∧ ps.map (·.1) = ckL at_ n (pre.map (·.1)) ∧ Below w.heap.size w W ∧ w.heap.size + 5 ≤ W.heap.size ∧ Blk W (w.heap.size + 1) [.int .i64 at_] ∧ Blk W (w.heap.size + 1 + 1) [.int .i64 n]
theorem ick_own (A : Ar) (at_ n : Int) (w : World) (B : Nat) (hB : w.heap.size + 5 ≤ B) : OwnFrom B (ICk A at_ n w) := by
  intro s W W' row ⟨v, ps, h1, h2, h3, h4, h5, h6⟩ hg hr
  exact ⟨v, ps, out_own (B := B) (by omega) h1 hg hr, h2, h3.grown hg (by omega) (fun k e => by have := (hr k e).1; omega), Nat.le_trans h4 hg.size, blk_own (by simp) h5 hg hr, blk_own (by simp) h6 hg hr⟩
theorem ick_keep {A : Ar} {at_ n : Int} {w : World} {pre : List { x : El // OkEl A w x }} {W W' : World} (h : ICk A at_ n w pre W) (hb : Below W.heap.size W W') : ICk A at_ n w pre W' := by
  obtain ⟨v, ps, h1, h2, h3, h4, h5, h6⟩ := h
  exact ⟨v, ps, h1.keep hb, h2, h3.trans (hb.mono (by omega)), Nat.le_trans h4 hb.size, h5.keep hb, h6.keep hb⟩
def AxCk (A : Ar) (at_ n : Int) (vs vi : Value) (w : World) (x : { x : El // OkEl A w x }) (a' : Act) (W : World) : Prop := ∃ h, a' = { tmps := #[.agg #[.int .i64 A.cap, vs, vi], .int .i64 at_, .int .i64 n, .pointer (some ⟨w.heap.size, 0, none⟩), .pointer (some ⟨w.heap.size + 1, 0, none⟩), .pointer (some ⟨w.heap.size + 1 + 1, 0, none⟩), .slice none 0 0, .pointer (some ⟨w.heap.size + 1 + 1 + 1, 0, none⟩), .int .i64 (x.1.1 : Int), .pointer (some ⟨h, 0, none⟩), .int .i64 at_, .bool false, .agg #[.int .i64 A.cap, vs, vi], .func (.func 104) #[] #[.pointer (some ⟨w.heap.size + 1 + 1 + 1 + 1, 0, none⟩)], .int .i64 (x.1.1 : Int), .agg #[.string ⟨x.1.2.1.key.toArray⟩, .int .i64 x.1.2.1.val.kind, .int .i64 x.1.2.1.val.time, .int .i64 x.1.2.1.val.node, .bool x.1.2.1.val.dead, .string ⟨x.1.2.1.val.text.toArray⟩, x.1.2.2.1, x.1.2.2.2, .int .u64 (x.1.2.1.val.flags.toNat : Int)], undef, undef, undef, undef, undef, undef, undef, undef, undef, undef, undef, undef, undef, undef, undef], defers := [] } ∧ Blk W h [.string ⟨x.1.2.1.key.toArray⟩, .int .i64 x.1.2.1.val.kind, .int .i64 x.1.2.1.val.time, .int .i64 x.1.2.1.val.node, .bool x.1.2.1.val.dead, .string ⟨x.1.2.1.val.text.toArray⟩, x.1.2.2.1, x.1.2.2.2, .int .u64 (x.1.2.1.val.flags.toNat : Int)] ∧ w.heap.size + 5 ≤ h ∧ ∀ u, W.cell? ⟨w.heap.size + 1 + 1 + 1, 0, none⟩ = some u → u.ownBlock ≠ some h
end Go.Proofs.YtkjghoomdefbbaaGreatDoor
end
section
namespace Go.Proofs.YtkjghoomdefbbaaGreatDoor
open Go.RowKit
set_option linter.unusedVariables false
set_option linter.unusedSimpArgs false
attribute [local irreducible] setN

noncomputable def blw1Ops : Array Oper := regionOfR Tryz.f49 6
noncomputable def blw2Ops : Array Oper := regionOfR Tryz.f49 6
end Go.Proofs.YtkjghoomdefbbaaGreatDoor
end
section
namespace Go.Proofs.YtkjghoomdefbbaaGreatDoor
open Go.RowKit Go.Shelf
set_option linter.unusedVariables false
set_option linter.unusedSimpArgs false
attribute [local irreducible] setN
attribute [local go_sem] Oper.semAt_some

theorem find_name {C : Ar} {X Y : En} (h : nameB X Y = true) : findI C X = findI C Y := by
  have e1 : posN (ordA C) X = posN (ordA C) Y := by unfold posN; congr 1; funext y; exact less_right h
  have e2 : hitB (ordA C) X = hitB (ordA C) Y := by
    unfold hitB
    rw [e1]
    cases (ordA C)[posN (ordA C) Y]? with
    | none => rfl
    | some y =>
      show nameB y X = nameB y Y
      rw [Bool.eq_iff_iff]
      exact ⟨fun h2 => name_trans h2 h, fun h2 => name_trans h2 (name_symm h)⟩
  unfold findI placeI
  rw [e1, e2]
structure IBl (A C : Ar) (us ui : Value) (w : World) (N0 : Nat) (W : World) : Prop where
  rb : Blk W (w.heap.size + 1 + 1) [.bool false]
  cb : Blk W (w.heap.size + 1) [.int .i64 C.cap, us, ui]
  lo : Below w.heap.size w W
  sz : N0 ≤ W.heap.size
def IB (A C : Ar) (us ui : Value) (w : World) (N0 : Nat) (pre : List { x : El // OkEl A w x }) (W : World) : Prop := IBl A C us ui w N0 W ∧ ∀ x ∈ pre, inB C x.1.2.1 = true
def IBx (A C : Ar) (w : World) (c : Code) (pre : List { x : El // OkEl A w x }) (W : World) : Prop := c = .ret ∧ Blk W (w.heap.size + 1 + 1) [.bool false] ∧ Below w.heap.size w W ∧ ∃ x ∈ pre, inB C x.1.2.1 = false
theorem IBl.keep {A C : Ar} {us ui : Value} {w : World} {N0 : Nat} {W W' : World} (h : IBl A C us ui w N0 W) (hN : w.heap.size ≤ N0) (hb : Below W.heap.size W W') : IBl A C us ui w N0 W' :=
  ⟨h.rb.keep hb, h.cb.keep hb, h.lo.trans (hb.mono (Nat.le_trans hN h.sz)), Nat.le_trans h.sz hb.size⟩
def AxB (A C : Ar) (vs vi us ui : Value) (w : World) (g3 N0 : Nat) (x : { x : El // OkEl A w x }) (a' : Act) (W : World) : Prop := ∃ h, a' = { tmps := #[.agg #[.int .i64 A.cap, vs, vi], .agg #[.int .i64 C.cap, us, ui], .pointer (some ⟨w.heap.size, 0, none⟩), .pointer (some ⟨w.heap.size + 1, 0, none⟩), .pointer (some ⟨w.heap.size + 1 + 1, 0, none⟩), undef, .pointer (some ⟨h, 0, none⟩), undef, .agg #[.int .i64 A.cap, vs, vi], .int .i64 0, .bool false, .bool false, .agg #[.int .i64 C.cap, us, ui], .int .i64 0, .bool false, .bool false, .agg #[.int .i64 A.cap, vs, vi], .func (.func 104) #[] #[.pointer (some ⟨g3, 0, none⟩)], .int .i64 (x.1.1 : Int), .agg #[.string ⟨x.1.2.1.key.toArray⟩, .int .i64 x.1.2.1.val.kind, .int .i64 x.1.2.1.val.time, .int .i64 x.1.2.1.val.node, .bool x.1.2.1.val.dead, .string ⟨x.1.2.1.val.text.toArray⟩, x.1.2.2.1, x.1.2.2.2, .int .u64 (x.1.2.1.val.flags.toNat : Int)], undef, undef, undef, undef, undef, undef, undef, undef, undef, undef, undef, undef, undef, undef, undef, undef, undef, undef, undef], defers := [] } ∧ Blk W h [.string ⟨x.1.2.1.key.toArray⟩, .int .i64 x.1.2.1.val.kind, .int .i64 x.1.2.1.val.time, .int .i64 x.1.2.1.val.node, .bool x.1.2.1.val.dead, .string ⟨x.1.2.1.val.text.toArray⟩, x.1.2.2.1, x.1.2.2.2, .int .u64 (x.1.2.1.val.flags.toNat : Int)] ∧ N0 ≤ h
end Go.Proofs.YtkjghoomdefbbaaGreatDoor
end
section
namespace Go.Proofs.YtkjghoomdefbbaaGreatDoor
set_option linter.unusedVariables false
set_option linter.unusedSimpArgs false

/-! ### Entries below each other -/
theorem joinEE_mk {a b : En} (ha : okE a = true) (hb : okE b = true) (hn : nameB a b = true) : joinEE a b = 0 := by
  unfold joinEE; rw [ha, hb, hn]; rfl
theorem belowE_iff {a b : En} (h : joinEE a b = 0) : belowE a b = true ↔ belowB a.val b.val = true := by
  obtain ⟨e1, e2, e3⟩ := joinE_val h
  unfold belowE
  rw [decide_eq_true_eq, joinEF_some h, below_iff]
  constructor
  · intro e; exact ⟨e1, by rw [← e, ]; exact congrArg (fun z : En => joinF a.val z.val) e⟩
  · rintro ⟨_, e⟩; rw [e, e3]
theorem belowE_self {a : En} (h : okE a = true) : belowE a a = true := by
  have h0 := joinEE_mk h h (name_self a)
  rw [belowE_iff h0, below_iff]
  exact join_self (okE_val h)
theorem name_joinEF {a b : En} (h : joinEE a b = 0) : nameB (joinEF a b) a = true := by
  rw [joinEF_some h, name_iff]
  exact ⟨(join_ok (joinE_val h).1).2, rfl⟩
theorem belowE_join {a b : En} (h : joinEE a b = 0) : belowE a (joinEF a b) = true ∧ belowE b (joinEF a b) = true := by
  obtain ⟨h1, h2, h3⟩ := joinEE_zero h
  have hn := name_joinEF h
  have hok := joinEF_ok h
  have e := joinEF_some h
  rw [belowE_iff (joinEE_mk h1 hok (name_symm hn)), belowE_iff (joinEE_mk h2 hok (name_symm (name_trans hn h3))), e]
  exact ⟨below_join (joinE_val h).1, below_join2 (joinE_val h).1⟩
theorem slotAt_nat (l : List En) (p : Int) (h : 0 ≤ p ∧ p < l.length) : l[p.toNat]? = some (slotAt l p) := by
  unfold slotAt
  rw [List.getElem?_eq_getElem (by omega)]; rfl
theorem asc_names {α : Type} {l : List α} {f g : α → En} (h : ∀ p ∈ l, nameB (f p) (g p) = true) (ha : Asc (l.map g)) : Asc (l.map f) := by
  unfold Asc at *
  rw [List.pairwise_map] at *
  refine ha.imp_of_mem ?_
  intro a b h1 h2 hr
  rw [less_left (h a h1), less_right (h b h2)]
  exact hr
theorem slot_set {l : List En} {k : Nat} {J : En} {p : Int} (hp : 0 ≤ p ∧ p < l.length) : slotAt (l.set k J) p = if k = p.toNat then J else slotAt l p := by
  unfold slotAt
  rw [List.getElem?_set]
  by_cases h : k = p.toNat
  · rw [if_pos h, if_pos h, if_pos (by omega)]; rfl
  · rw [if_neg h, if_neg h]
/-- The slot of that name, where there is one. -/
def slotOf (A : Ar) (x : En) : En := slotAt A.slots (placeI A x)
theorem slot_spec {A : Ar} (h : OkA A) {x : En} (hh : hitB (ordA A) x = true) : slotOf A x ∈ A.slots ∧ okE (slotOf A x) = true ∧ nameB (slotOf A x) x = true ∧ A.slots[(placeI A x).toNat]? = some (slotOf A x) := by
  obtain ⟨h1, _, _, h4⟩ := place_spec h hh
  exact ⟨slotAt_mem h1, h.ents _ (slotAt_mem h1), h4, slotAt_nat _ _ h1⟩
theorem slot_one {A : Ar} (h : OkA A) {x e : En} (hh : hitB (ordA A) x = true) (he : e ∈ A.slots) (hn : nameB e x = true) : e = slotOf A x := by
  obtain ⟨h1, _, h3, _⟩ := slot_spec h hh
  exact one_name h he h1 (name_trans hn (name_symm h3))
theorem ok_hit {A : Ar} (h : OkA A) {x : En} (hx : okE x = true) (hh : hitB (ordA A) x = true) : OkA ⟨A.cap, meetL A x, A.index⟩ := by
  obtain ⟨p1, _, _, p4⟩ := place_spec h hh
  obtain ⟨s1, s2, s3, s4⟩ := slot_spec h hh
  have hj := joinEE_mk s2 hx s3
  refine ⟨h.room, ?_, ?_, ?_, ?_, ?_⟩
  · show ((meetL A x).length : Int) ≤ A.cap
    unfold meetL; rw [List.length_set]; exact h.fits
  · intro e he
    rcases List.mem_or_eq_of_mem_set he with he | he
    · exact h.ents e he
    · rw [he]; exact joinEF_ok hj
  · show A.index.length = (meetL A x).length
    unfold meetL; rw [List.length_set]; exact h.len
  · intro p hp
    show 0 ≤ p ∧ p < (meetL A x).length
    unfold meetL; rw [List.length_set]; exact h.rng p hp
  · show Asc (A.index.map (slotAt (meetL A x)))
    refine asc_names (g := slotAt A.slots) ?_ h.asc
    intro p hp
    unfold meetL
    rw [slot_set (h.rng p hp)]
    split
    · rename_i e
      have : p = placeI A x := by have := (h.rng p hp).1; omega
      rw [this]
      exact name_joinEF hj
    · exact name_self _
theorem ord_new {A : Ar} (h : OkA A) (x : En) : ordA ⟨A.cap, A.slots ++ [x], putIdx A x⟩ = insE (ordA A) x := by
  have e1 : ∀ l : List Int, (∀ p ∈ l, p ∈ A.index) → l.map (slotAt (A.slots ++ [x])) = l.map (slotAt A.slots) := by
    intro l hl
    refine List.map_congr_left ?_
    intro p hp
    have := h.rng p (hl p hp)
    unfold slotAt
    rw [List.getElem?_append_left (by omega)]
  unfold ordA putIdx insE
  rw [List.map_append, List.map_cons, e1 _ (fun p hp => List.mem_of_mem_take hp), e1 _ (fun p hp => List.mem_of_mem_drop hp), List.map_take, List.map_drop]
  congr 2
  unfold slotAt
  simp
theorem ok_new {A : Ar} (h : OkA A) {x : En} (hx : okE x = true) (hh : hitB (ordA A) x = false) (hc : ¬ (A.slots.length : Int) = A.cap) : OkA ⟨A.cap, A.slots ++ [x], putIdx A x⟩ := by
  have hp : posN (ordA A) x ≤ A.index.length := by have := pos_le (ordA A) x; rw [ord_length h, ← h.len] at this; exact this
  refine ⟨h.room, ?_, ?_, ?_, ?_, ?_⟩
  · show ((A.slots ++ [x]).length : Int) ≤ A.cap
    have := h.fits
    rw [List.length_append, List.length_singleton]; omega
  · intro e he
    rcases List.mem_append.1 he with he | he
    · exact h.ents e he
    · rw [List.mem_singleton.1 he]; exact hx
  · show (putIdx A x).length = (A.slots ++ [x]).length
    unfold putIdx
    have := h.len
    simp only [List.length_append, List.length_cons, List.length_take, List.length_drop, List.length_nil]
    omega
  · intro p hp
    show 0 ≤ p ∧ p < (A.slots ++ [x]).length
    rw [List.length_append, List.length_singleton]
    unfold putIdx at hp
    rcases List.mem_append.1 hp with hp | hp
    · have := h.rng p (List.mem_of_mem_take hp); omega
    · rcases List.mem_cons.1 hp with hp | hp
      · omega
      · have := h.rng p (List.mem_of_mem_drop hp); omega
  · rw [ord_new h]; exact asc_ins h.asc hh
/-- The three ways of a join. -/
theorem join_ways (A : Ar) (x : En) (h : OkA A) : (¬ joinAE A x = 0 ∧ joinAB A x = false ∧ joinAF A x = A ∧ (okE x = false ∨ (hitB (ordA A) x = false ∧ (A.slots.length : Int) = A.cap))) ∨
    (okE x = true ∧ hitB (ordA A) x = true ∧ joinAE A x = 0 ∧ joinAB A x = !decide (slotOf A x = joinEF (slotOf A x) x) ∧ joinAF A x = ⟨A.cap, meetL A x, A.index⟩) ∨
    (okE x = true ∧ hitB (ordA A) x = false ∧ ¬ (A.slots.length : Int) = A.cap ∧ joinAE A x = 0 ∧ joinAB A x = true ∧ joinAF A x = ⟨A.cap, A.slots ++ [x], putIdx A x⟩) := by
  have hA := okA_iff.2 h
  cases hx : okE x with
  | false => obtain ⟨a, b, c⟩ := join_no (A := A) (Y := x) (by rw [hA, hx]; rfl); exact .inl ⟨by rw [a]; decide, b, c, .inl rfl⟩
  | true =>
    cases hh : hitB (ordA A) x with
    | true => obtain ⟨a, b, c⟩ := join_hit hA hx hh; exact .inr (.inl ⟨rfl, rfl, a, b, c⟩)
    | false =>
      by_cases hc : (A.slots.length : Int) = A.cap
      · obtain ⟨a, b, c⟩ := join_full hA hx hh hc; exact .inl ⟨by rw [a]; decide, b, c, .inr ⟨rfl, hc⟩⟩
      · obtain ⟨a, b, c⟩ := join_new hA hx hh hc; exact .inr (.inr ⟨rfl, rfl, hc, a, b, c⟩)
theorem join_okA {A : Ar} (h : OkA A) (x : En) : OkA (joinAF A x) := by
  rcases join_ways A x h with ⟨_, _, e, _⟩ | ⟨hx, hh, _, _, e⟩ | ⟨hx, hh, hc, _, _, e⟩
  · rw [e]; exact h
  · rw [e]; exact ok_hit h hx hh
  · rw [e]; exact ok_new h hx hh hc
def InE (C : Ar) (x : En) : Prop := ∃ f ∈ C.slots, nameB f x = true ∧ belowE x f = true
def Named (C : Ar) (x : En) : Prop := ∃ f ∈ C.slots, nameB f x = true
theorem InE.named {C : Ar} {x : En} (h : InE C x) : Named C x := by obtain ⟨f, hf, hn, _⟩ := h; exact ⟨f, hf, hn⟩
/-- J2: what is joined is below it. -/
theorem join_in1 {A : Ar} (h : OkA A) {x : En} (h0 : joinAE A x = 0) : okE x = true ∧ InE (joinAF A x) x := by
  rcases join_ways A x h with ⟨e, _⟩ | ⟨hx, hh, _, _, e0⟩ | ⟨hx, hh, hc, _, _, e0⟩
  · exact absurd h0 e
  · obtain ⟨s1, s2, s3, s4⟩ := slot_spec h hh
    have hj := joinEE_mk s2 hx s3
    have hlt : (placeI A x).toNat < A.slots.length := (List.getElem?_eq_some_iff.1 s4).1
    rw [e0]
    exact ⟨hx, joinEF (slotOf A x) x, List.mem_set hlt _, name_trans (name_joinEF hj) s3, (belowE_join hj).2⟩
  · rw [e0]; exact ⟨hx, x, List.mem_append_right _ (by simp), name_self x, belowE_self hx⟩
/-- Names in their order, none twice. -/
def nmE (e : En) : Int × List UInt8 := (e.val.kind, e.key)
theorem find_nameE (A : Ar) (x : En) : findI A (nameE x.val.kind x.key) = findI A x := find_name (name_iff.2 ⟨rfl, rfl⟩)
theorem find_hit {A : Ar} (h : OkA A) {x : En} (hh : hitB (ordA A) x = true) : findI A x = placeI A x := by unfold findI; rw [if_pos (okA_iff.2 h), if_pos hh]
theorem find_no {A : Ar} (h : OkA A) {x : En} (hh : hitB (ordA A) x = false) : findI A x = -1 := (find_ne h).2 hh
end Go.Proofs.YtkjghoomdefbbaaGreatDoor
end
section
namespace Go.Proofs.YtkjghoomdefbbaaGreatDoor
set_option linter.unusedVariables false
set_option linter.unusedSimpArgs false

/-- How many of the first are ahead of x. -/
def rankN (l : List En) (x : En) : Nat := (l.takeWhile (fun y => lessE y x)).length
def idxStep (l : List En) (out : List Int) (i : Nat) : List Int :=
  out.take (rankN (out.map (slotAt l)) (slotAt l i)) ++ ((i : Int) :: out.drop (rankN (out.map (slotAt l)) (slotAt l i)))
def idxP (l : List En) : Nat → List Int
  | 0 => []
  | i + 1 => idxStep l (idxP l i) i
def idxM (l : List En) : List Int := idxP l l.length
def apartB (l : List En) : Bool := decide (l.Pairwise (fun a b => nameB b a = false))
def slotsB (l : List En) : Bool := l.all okE && apartB l

end Go.Proofs.YtkjghoomdefbbaaGreatDoor
end
section
namespace Go.Proofs.YtkjghoomdefbbaaGreatDoor
set_option linter.unusedVariables false
set_option linter.unusedSimpArgs false

def firstE : List Int → Int
  | [] => 0
  | e :: r => if e = 0 then firstE r else e
def heldB (A : Ar) (kind : Int) (key : List UInt8) : Bool := decide (0 ≤ findI A (nameE kind key))
def heldV (A : Ar) (kind : Int) (key : List UInt8) : Va := if 0 ≤ findI A (nameE kind key) then (slotAt A.slots (findI A (nameE kind key))).val else leastF kind
def nodeE (node : Int) : Int := if node < 0 ∨ 8 ≤ node then 10 else 0
def keyE (key : List UInt8) : Int := if key.length = 0 ∨ 8 < key.length then 6 else 0
def longE (text : List UInt8) : Int := if 8 < text.length then 6 else 0
def roomE (A : Ar) (is : Bool) : Int := if is = false ∧ (A.slots.length : Int) = A.cap then 4 else 0
def timeE (v : Va) : Int := if v.time = 2147483647 then 5 else 0
def goneE (is : Bool) (v : Va) : Int := if is = false ∨ v.dead = true then 9 else 0
def argE (n : Int) : Int := if n = 0 ∨ 65535 < n ∨ n < -65535 then 1 else 0
def absI (n : Int) : Int := if n < 0 then -n else n
def sideL (v : Va) (n : Int) : List Int := if n < 0 then v.minus else v.plus
def togI (v : Va) (node n : Int) : Int := ((sideL v n)[node.toNat]?).getD 0 + absI n
def overE (v : Va) (node n : Int) : Int := if 65535 < togI v node n then 5 else 0
def putDE (A : Ar) (node : Int) (key text : List UInt8) : Int := firstE [chkA A, nodeE node, keyE key, longE text, roomE A (heldB A 1 key), timeE (heldV A 1 key)]
def delDE (A : Ar) (node : Int) (key : List UInt8) : Int := firstE [chkA A, nodeE node, keyE key, goneE (heldB A 1 key) (heldV A 1 key), timeE (heldV A 1 key)]
def addDE (A : Ar) (node : Int) (key : List UInt8) (n : Int) : Int := firstE [chkA A, nodeE node, keyE key, argE n, roomE A (heldB A 2 key), overE (heldV A 2 key) node n]
def setDE (A : Ar) (key : List UInt8) : Int := firstE [chkA A, keyE key, roomE A (heldB A 3 key)]
def regE (key : List UInt8) (time node : Int) (dead : Bool) (text : List UInt8) : En := ⟨key, ⟨1, time, node, dead, text, [], [], 0⟩⟩
def onlyI (node x : Int) : List Int := (List.replicate 8 (0 : Int)).set node.toNat x
def cntE (key : List UInt8) (node n x : Int) : En := ⟨key, ⟨2, 0, 0, false, [], if n < 0 then List.replicate 8 0 else onlyI node x, if n < 0 then onlyI node x else List.replicate 8 0, 0⟩⟩
def flgE (key : List UInt8) (flags : UInt64) : En := ⟨key, ⟨3, 0, 0, false, [], [], [], flags⟩⟩
def putDF (A : Ar) (node : Int) (key text : List UInt8) : En := if putDE A node key text = 0 then regE key ((heldV A 1 key).time + 1) node false text else zeroE
def delDF (A : Ar) (node : Int) (key : List UInt8) : En := if delDE A node key = 0 then regE key ((heldV A 1 key).time + 1) node true [] else zeroE
def addDF (A : Ar) (node : Int) (key : List UInt8) (n : Int) : En := if addDE A node key n = 0 then cntE key node n (togI (heldV A 2 key) node n) else zeroE
def setDF (A : Ar) (key : List UInt8) (flags : UInt64) : En := if setDE A key = 0 then flgE key flags else zeroE
def textT (A : Ar) (key : List UInt8) : List UInt8 := if heldB A 1 key = true then (heldV A 1 key).text else []
def textB (A : Ar) (key : List UInt8) : Bool := heldB A 1 key && !(heldV A 1 key).dead
def sumT (A : Ar) (key : List UInt8) : Int := if heldB A 2 key = true then sumN (heldV A 2 key) else 0
def flagT (A : Ar) (key : List UInt8) : UInt64 := if heldB A 3 key = true then (heldV A 3 key).flags else 0
def scanA (A : Ar) : List En := (allA A).filter (fun e => !e.val.dead)

/-- What is there of its name, when it was joined. -/
theorem join_slot {A : Ar} (h : OkA A) {x : En} (h0 : joinAE A x = 0) : hitB (ordA (joinAF A x)) x = true ∧ slotOf (joinAF A x) x = if hitB (ordA A) x = true then joinEF (slotOf A x) x else x := by
  have hok := join_okA h x
  have hin := (join_in1 h h0).2.named
  have hh := (hit_iff hok).2 hin
  refine ⟨hh, ?_⟩
  rcases join_ways A x h with ⟨e, _⟩ | ⟨hx, h1, _, _, e0⟩ | ⟨hx, h1, hc, _, _, e0⟩
  · exact absurd h0 e
  · obtain ⟨s1, s2, s3, s4⟩ := slot_spec h h1
    have hj := joinEE_mk s2 hx s3
    have hlt : (placeI A x).toNat < A.slots.length := (List.getElem?_eq_some_iff.1 s4).1
    rw [if_pos h1]
    exact (slot_one hok hh (by rw [e0]; exact List.mem_set hlt _) (name_trans (name_joinEF hj) s3)).symm
  · rw [h1, if_neg (by decide)]
    exact (slot_one hok hh (by rw [e0]; exact List.mem_append_right _ (by simp)) (name_self x)).symm
end Go.Proofs.YtkjghoomdefbbaaGreatDoor
end
section
namespace Go.Proofs.YtkjghoomdefbbaaGreatDoor
set_option linter.unusedVariables false
set_option linter.unusedSimpArgs false

/-- An entry's own sum, and its bucket. -/
def sumE (E : En) : Nat := crcN (putEn E)
def bkE (E : En) : Nat := bucketN E.val.kind E.key
theorem bk_name {a b : En} (h : nameB a b = true) : bkE a = bkE b := by
  rw [name_iff] at h; unfold bkE; rw [h.1, h.2]
/-- The sum of bucket k. -/
def sumK (k : Nat) : List En → Nat
  | [] => 0
  | E :: r => (if bkE E = k then sumE E else 0) ^^^ sumK k r
theorem sumE_lt (E : En) : sumE E < 4294967296 := sumN_lt _
theorem sumK_lt (k : Nat) : ∀ l : List En, sumK k l < 4294967296
  | [] => by show 0 < 4294967296; decide
  | E :: r => by
    unfold sumK
    exact x32 (by split; exact sumE_lt E; decide) (sumK_lt k r)
theorem sumK_append (k : Nat) : ∀ l m : List En, sumK k (l ++ m) = sumK k l ^^^ sumK k m
  | [], m => by rw [List.nil_append]; simp [sumK]
  | E :: r, m => by rw [List.cons_append, sumK, sumK, sumK_append k r m, Nat.xor_assoc]
theorem sumK_snoc (k : Nat) (l : List En) (E : En) : sumK k (l ++ [E]) = sumK k l ^^^ (if bkE E = k then sumE E else 0) := by
  rw [sumK_append]; simp [sumK]
/-- A slot in another one's place. -/
theorem sumK_set (k : Nat) : ∀ (l : List En) (i : Nat) (x y : En), l[i]? = some x → sumK k (l.set i y) = (sumK k l ^^^ (if bkE x = k then sumE x else 0)) ^^^ (if bkE y = k then sumE y else 0)
  | [], i, x, y, h => by simp at h
  | a :: r, 0, x, y, h => by
    simp only [List.getElem?_cons_zero, Option.some.injEq] at h
    subst h
    rw [List.set_cons_zero, sumK, sumK]
    generalize (if bkE a = k then sumE a else 0) = p
    generalize (if bkE y = k then sumE y else 0) = q
    generalize sumK k r = s
    rw [Nat.xor_comm p s, Nat.xor_assoc s p p, Nat.xor_self, Nat.xor_zero, Nat.xor_comm]
  | a :: r, i + 1, x, y, h => by
    rw [List.getElem?_cons_succ] at h
    rw [List.set_cons_succ, sumK, sumK, sumK_set k r i x y h, Nat.xor_assoc, Nat.xor_assoc, Nat.xor_assoc]
/-- An arena's sums. -/
def sumA (A : Ar) (k : Nat) : Nat := if okA A = true then sumK k A.slots else 0
theorem sumA_lt (A : Ar) (k : Nat) : sumA A k < 4294967296 := by unfold sumA; split; exact sumK_lt k _; decide
theorem sumA_ok {A : Ar} (h : OkA A) (k : Nat) : sumA A k = sumK k A.slots := by unfold sumA; rw [if_pos (okA_iff.2 h)]
/-- What joining changes of a bucket's sum. -/
theorem join_sums {A : Ar} (h : OkA A) {x : En} (h0 : joinAE A x = 0) (k : Nat) : (joinAB A x = false → sumA (joinAF A x) k = sumA A k) ∧ (bkE x ≠ k → sumA (joinAF A x) k = sumA A k) ∧
    (hitB (ordA A) x = false → joinAB A x = true ∧ slotOf (joinAF A x) x = x ∧ sumA (joinAF A x) (bkE x) = sumA A (bkE x) ^^^ sumE x) ∧
    (hitB (ordA A) x = true → sumA (joinAF A x) (bkE x) = (sumA A (bkE x) ^^^ sumE (slotOf (joinAF A x) x)) ^^^ sumE (slotOf A x)) := by
  have hok := join_okA h x
  have hsl := (join_slot h h0).2
  rcases join_ways A x h with ⟨e, _⟩ | ⟨hx, hh, _, hb, e⟩ | ⟨hx, hh, _, _, hb, e⟩
  · exact absurd h0 e
  · obtain ⟨s1, s2, s3, s4⟩ := slot_spec h hh
    have hj := joinEE_mk s2 hx s3
    have hbk : bkE (slotOf A x) = bkE x := bk_name s3
    have hbj : bkE (joinEF (slotOf A x) x) = bkE x := (bk_name (name_joinEF hj)).trans hbk
    have hset : ∀ k, sumA (joinAF A x) k = (sumA A k ^^^ (if bkE x = k then sumE (slotOf A x) else 0)) ^^^ (if bkE x = k then sumE (joinEF (slotOf A x) x) else 0) := fun k => by
      rw [sumA_ok hok, sumA_ok h, e]
      show sumK k (meetL A x) = _
      unfold meetL
      rw [show slotAt A.slots (placeI A x) = slotOf A x from rfl, sumK_set k A.slots _ _ _ s4, hbk, hbj]
    refine ⟨fun hf => ?_, fun hne => ?_, fun hf => (by rw [hh] at hf; cases hf), fun _ => ?_⟩
    · rw [hb, Bool.not_eq_false', decide_eq_true_eq] at hf
      rw [hset, ← hf, Nat.xor_assoc, Nat.xor_self, Nat.xor_zero]
    · rw [hset, if_neg hne, if_neg hne, Nat.xor_zero, Nat.xor_zero]
    · rw [hset, if_pos rfl, if_pos rfl, hsl, if_pos hh, Nat.xor_assoc, Nat.xor_assoc, Nat.xor_comm (sumE (slotOf A x))]
  · have hset : ∀ k, sumA (joinAF A x) k = sumA A k ^^^ (if bkE x = k then sumE x else 0) := fun k => by
      rw [sumA_ok hok, sumA_ok h, e]
      exact sumK_snoc k A.slots x
    refine ⟨fun hf => (by rw [hb] at hf; cases hf), fun hne => ?_, fun _ => ⟨hb, ?_, ?_⟩, fun hf => (by rw [hh] at hf; cases hf)⟩
    · rw [hset, if_neg hne, Nat.xor_zero]
    · rw [hsl, if_neg (by rw [hh]; decide)]
    · rw [hset, if_pos rfl]
/-! ### The slots of buckets -/
def askB (mask : Int) (E : En) : Bool := maskB mask && decide (mask.toNat &&& 2 ^ bkE E ≠ 0)
def inL (mask most : Int) (l : List En) : List En := (l.filter (askB mask)).take most.toNat
def inA (A : Ar) (mask most : Int) : List En := if okA A = true then inL mask most A.slots else []
/-- A slot more. -/
def inStep (mask most : Int) (o : List En) (E : En) : List En := if (o.length : Int) < most ∧ askB mask E = true then o ++ [E] else o
theorem inL_nil (mask most : Int) : inL mask most [] = [] := by simp [inL]
theorem inL_snoc (mask most : Int) (l : List En) (E : En) : inL mask most (l ++ [E]) = inStep mask most (inL mask most l) E := by
  unfold inStep inL
  rw [List.filter_append]
  generalize l.filter (askB mask) = m
  cases hE : askB mask E with
  | false => simp [hE]
  | true =>
    rw [show List.filter (askB mask) [E] = [E] by simp [hE]]
    by_cases hc : m.length < most.toNat
    · rw [if_pos ⟨by rw [List.length_take]; omega, rfl⟩, List.take_of_length_le (by simp; omega), List.take_of_length_le (by omega)]
    · rw [if_neg (by rintro ⟨h, _⟩; rw [List.length_take] at h; omega), List.take_append_of_le_length (by omega)]
/-- Behind as many as are asked for nothing more comes. -/
theorem inL_full (mask most : Int) (l r : List En) (h : most ≤ ((inL mask most l).length : Int)) : inL mask most (l ++ r) = inL mask most l := by
  induction r generalizing l with
  | nil => rw [List.append_nil]
  | cons a r ih =>
    have e : inL mask most (l ++ [a]) = inL mask most l := by rw [inL_snoc]; unfold inStep; rw [if_neg (by omega)]
    rw [show l ++ a :: r = (l ++ [a]) ++ r by simp, ih (l ++ [a]) (by rw [e]; exact h), e]
end Go.Proofs.YtkjghoomdefbbaaGreatDoor
end
section
namespace Go.Proofs.YtkjghoomdefbbaaGreatDoor
open Go.RowKit Go.Shelf
set_option linter.unusedVariables false
set_option linter.unusedSimpArgs false

abbrev RowE := List (En × Value × Value)
structure OutV (N : Nat) (v : Value) (ps : RowE) (W : World) : Prop where
  own : W.ownsRow N 48 9 v ps.length (flatE ps)
  rows : RowsOk ps W
  off : ∀ q ∈ ps, ∀ b, v.ownBlock = some b → OffQ b q
theorem outV_nil (N : Nat) (W : World) : OutV N (.slice none 0 0) [] W := ⟨World.ownsRow_nil _ _ _ _, (fun q hq => by cases hq), (fun q hq => by cases hq)⟩
theorem OutV.keep {N : Nat} {v : Value} {ps : RowE} {W W' : World} (h : OutV N v ps W) (hb : Below W.heap.size W W') : OutV N v ps W' :=
  ⟨own_grow h.own hb, fun q hq => ⟨stable_cells _ _ _ _ (h.rows q hq).1 hb, stable_cells _ _ _ _ (h.rows q hq).2 hb⟩, h.off⟩
theorem OutV.ens {N : Nat} {v : Value} {ps : RowE} {W : World} (h : OutV N v ps W) : isEns (ps.map (·.1)) v W := own_ens h.own h.rows
theorem OutV.low {N N' : Nat} {v : Value} {ps : RowE} {W : World} (h : OutV N v ps W) (hN : N' ≤ N) : OutV N' v ps W := ⟨own_low h.own hN, h.rows, h.off⟩
theorem OutV.len {N : Nat} {v : Value} {ps : RowE} {W : World} (h : OutV N v ps W) : ∃ a c, v = .slice a ps.length c := by
  obtain ⟨_, ⟨rfl, h0⟩ | ⟨g, cap, cur, rfl, _⟩⟩ := h.own
  · exact ⟨_, _, by rw [h0]⟩
  · exact ⟨_, _, rfl⟩
/-- A row of entries as append reads it. -/
def SrcE (u : Value) (ps : RowE) (w : World) : Prop := (u = .slice none 0 0 ∧ ps = []) ∨ ∃ (a : Addr) (c : Nat), u = .slice (some a) ps.length c ∧ ∀ (j : Nat) (x : Value), (flatE ps)[j]? = some x → w.cell? (a.add j) = some x
theorem add_at (b off j : Nat) : (⟨b, off, none⟩ : Addr).add j = ⟨b, off + j, none⟩ := by
  by_cases e : j = 0
  · subst e; simp [Addr.add]
  · simp [Addr.add, e]
theorem flatE_at : ∀ {ps : RowE} {j : Nat} {x : Value}, (flatE ps)[j]? = some x → ∃ q, ps[j / 9]? = some q ∧ (enL q.1 q.2.1 q.2.2)[j % 9]? = some x
  | [], j, x, h => by simp [flatE] at h
  | p :: ps, j, x, h => by
    rw [flatE_cons] at h
    by_cases hj : j < 9
    · rw [List.getElem?_append_left (show j < (enL p.1 p.2.1 p.2.2).length from hj)] at h
      rw [Nat.div_eq_of_lt hj, Nat.mod_eq_of_lt hj]
      exact ⟨p, rfl, h⟩
    · rw [List.getElem?_append_right (show (enL p.1 p.2.1 p.2.2).length ≤ j from by show 9 ≤ j; omega)] at h
      have h' : (flatE ps)[j - 9]? = some x := h
      obtain ⟨q, h1, h2⟩ := flatE_at h'
      have e1 : j / 9 = (j - 9) / 9 + 1 := by omega
      have e2 : j % 9 = (j - 9) % 9 := by omega
      rw [e1, e2, List.getElem?_cons_succ]
      exact ⟨q, h1, h2⟩
theorem ens_rows : ∀ (l : List En) (b off : Nat) (w : World), (∀ (j : Nat) (E : En), l[j]? = some E → EnAt w b (off + j * 9) E) → ∃ ps : RowE, ps.map (·.1) = l ∧ RowsOk ps w ∧ ∀ (j : Nat) (q : En × Value × Value), ps[j]? = some q → ∀ (i : Nat) (x : Value), (enL q.1 q.2.1 q.2.2)[i]? = some x → w.cell? ⟨b, off + j * 9 + i, none⟩ = some x
  | [], b, off, w, h => ⟨[], rfl, (fun q hq => by cases hq), fun j q hq => by simp at hq⟩
  | E :: l, b, off, w, h => by
    obtain ⟨vp, vm, hc, hp, hm⟩ := h 0 E rfl
    obtain ⟨ps, h1, h2, h3⟩ := ens_rows l b (off + 9) w (fun j F hF => by
      have := h (j + 1) F (by rw [List.getElem?_cons_succ]; exact hF)
      rwa [show off + (j + 1) * 9 = off + 9 + j * 9 by omega] at this)
    refine ⟨(E, vp, vm) :: ps, by rw [List.map_cons, h1], fun q hq => ?_, fun j q hq i x hx => ?_⟩
    · rcases List.mem_cons.1 hq with rfl | hq
      · exact ⟨hp, hm⟩
      · exact h2 q hq
    · cases j with
      | zero =>
        simp only [List.getElem?_cons_zero, Option.some.injEq] at hq
        subst hq
        exact hc i x hx
      | succ j =>
        rw [List.getElem?_cons_succ] at hq
        have := h3 j q hq i x hx
        rwa [show off + 9 + j * 9 + i = off + (j + 1) * 9 + i by omega] at this
theorem isEns.src {l : List En} {u : Value} {w : World} (h : isEns l u w) : ∃ ps : RowE, ps.map (·.1) = l ∧ RowsOk ps w ∧ SrcE u ps w := by
  rcases h with ⟨rfl, rfl⟩ | ⟨a, cap, rfl, rfl⟩ | ⟨b, off, cap, rfl, hlt, hc⟩
  · exact ⟨[], rfl, (fun q hq => by cases hq), .inl ⟨rfl, rfl⟩⟩
  · exact ⟨[], rfl, (fun q hq => by cases hq), .inr ⟨a, cap, rfl, fun j x hx => by simp [flatE] at hx⟩⟩
  · obtain ⟨ps, h1, h2, h3⟩ := ens_rows l b off w hc
    refine ⟨ps, h1, h2, .inr ⟨⟨b, off, none⟩, cap, by rw [← h1, List.length_map], fun j x hx => ?_⟩⟩
    obtain ⟨q, hq, hx⟩ := flatE_at hx
    have := h3 _ q hq _ x hx
    rw [add_at]
    rwa [show off + j / 9 * 9 + j % 9 = off + j by omega] at this
/-- Rows of entries stand elsewhere. -/
theorem off_old {w0 : World} {ps : RowE} (h : RowsOk ps w0) {b : Nat} (hb : w0.heap.size ≤ b) : ∀ q ∈ ps, OffQ b q := fun q hq =>
  ⟨(cells_lt (h q hq).1).imp id (fun h3 e => by have := h3 b e; omega), (cells_lt (h q hq).2).imp id (fun h3 e => by have := h3 b e; omega)⟩
theorem ones_flat {ps : RowE} {w : World} (h : RowsOk ps w) : ∀ u ∈ flatE ps, u.oneCell' = true := by
  intro u hu
  unfold flatE at hu
  obtain ⟨q, hq, hu⟩ := List.mem_flatMap.1 hu
  exact ones_en (h q hq).1.one (h q hq).2.one u hu
/-- A row of entries that is new, with new rows. -/
def isEnsN (N : Nat) (l : List En) : VP := fun v w => ∃ ps : RowE, ps.map (·.1) = l ∧ OutV N v ps w ∧ ∀ q ∈ ps, NewB N q.2.1 ∧ NewB N q.2.2
theorem ensN_nil (N : Nat) (w : World) : isEnsN N [] (.slice none 0 0) w := ⟨[], rfl, outV_nil _ _, fun q hq => by cases hq⟩
theorem OutS.ensN {N N0 b1 : Nat} {v : Value} {ps : RowE} {W : World} (h : OutS N0 b1 v ps W) (hN : N ≤ N0) : isEnsN N (ps.map (·.1)) v W :=
  ⟨ps, rfl, ⟨own_low h.own hN, h.rows, h.off⟩, fun q hq => ⟨(h.nw q hq).1.low hN, (h.nw q hq).2.low hN⟩⟩
theorem isEnsN.ens {N : Nat} {l : List En} {v : Value} {w : World} (h : isEnsN N l v w) : isEns l v w := by
  obtain ⟨ps, rfl, h1, _⟩ := h
  exact h1.ens
end Go.Proofs.YtkjghoomdefbbaaGreatDoor
end
section
namespace Go.Proofs.YtkjghoomdefbbaaGreatDoor
open Go.RowKit Go.Shelf
set_option linter.unusedVariables false
set_option linter.unusedSimpArgs false
attribute [local irreducible] setN
attribute [local go_sem] Oper.semAt_some

set_option maxRecDepth 100000 in
set_option maxHeartbeats 2000000 in
theorem chunk_new (A : Ar) (at_ n : Int) (v : Value) (w : World) (hv : isAr A v w) (hF : FitA A) : Calls Tryz.prog 71 #[v, .int .i64 at_, .int .i64 n] w fun e W' => ∃ v', e = .returned v' ∧ isEnsN w.heap.size (chunkA A at_ n) v' W' ∧ Below w.heap.size w W' := by
  obtain ⟨vs, vi, rfl, hs, hi⟩ := hv
  by_cases hneg : at_ < 0
  · have e0 : chunkA A at_ n = [] := by unfold chunkA; rw [if_pos hneg]
    have HB := Kept.mk (Blk.new (w.alloc (.cells #[.int .i64 A.cap, vs, vi] 25)) 3 [.int .i64 at_] (w.heap.size + 1) (by simp))
    have HB2 := Kept.mk (HB.out.alloc (.cells #[.int .i64 n] 3))
    have ka := HB2.out.cells.2 0 _ rfl
    have hB0 := Kept.mk (show Below w.heap.size w (((w.alloc (.cells #[.int .i64 A.cap, vs, vi] 25)).alloc (.cells #[.int .i64 at_] 3)).alloc (.cells #[.int .i64 n] 3)) from (((Below.refl _ w).alloc (Nat.le_refl _) _).alloc (by simp) _).alloc (by simp; omega) _)
    clear HB HB2
    rw [e0]
    go_enter Tryz.func71, Tryz.ntmps71
    go_wp2
    go_ret
    first
    | exact ⟨_, rfl, ensN_nil _ _, hB0.out⟩
    | exact ⟨ensN_nil _ _, hB0.out⟩
  have hat : ¬ at_ < 0 := hneg
  refine (callsIn_wide (n := 5)).1 ?_
  refine callsIn_of_wp_marks Tryz.func71 rfl trivial ?_ rfl
  simp only [Tryz.ntmps71, List.size_toArray, List.length_cons, List.length_nil, Nat.reduceAdd, Nat.reduceSub, Array.replicate_succ, Array.replicate_zero, List.push_toArray, List.append_toArray, List.nil_append, List.cons_append]
  gi_wp2_with (refine ⟨trivial, (placec_call _ A vs vi _).mono ?_⟩; rintro e w' ⟨rfl, rfl⟩)
  have f1 := hF.slots
  have hB0 : Below w.heap.size w (((((w.alloc (.cells #[.int .i64 A.cap, vs, vi] 25)).alloc (.cells #[.int .i64 at_] 3)).alloc (.cells #[.int .i64 n] 3)).alloc (.cells #[.slice none 0 0] 22)).alloc (.cells #[.int .i64 A.cap, vs, vi] 25)) := (((((Below.refl _ w).alloc (Nat.le_refl _) _).alloc (by simp) _).alloc (by simp; omega) _).alloc (by simp; omega) _).alloc (by simp; omega) _
  have hIt : ItA A vs vi w w.heap.size (w.heap.size + 1 + 1 + 1 + 1) (((((w.alloc (.cells #[.int .i64 A.cap, vs, vi] 25)).alloc (.cells #[.int .i64 at_] 3)).alloc (.cells #[.int .i64 n] 3)).alloc (.cells #[.slice none 0 0] 22)).alloc (.cells #[.int .i64 A.cap, vs, vi] 25)) := ⟨by simp; omega, by simp, fun b hb => hB0.block b hb, by
    have := heap_alloc_new ((((w.alloc (.cells #[.int .i64 A.cap, vs, vi] 25)).alloc (.cells #[.int .i64 at_] 3)).alloc (.cells #[.int .i64 n] 3)).alloc (.cells #[.slice none 0 0] 22)) (.cells #[.int .i64 A.cap, vs, vi] 25)
    simpa using this⟩
  have hst : Blk (((((w.alloc (.cells #[.int .i64 A.cap, vs, vi] 25)).alloc (.cells #[.int .i64 at_] 3)).alloc (.cells #[.int .i64 n] 3)).alloc (.cells #[.slice none 0 0] 22)).alloc (.cells #[.int .i64 A.cap, vs, vi] 25)) (w.heap.size + 1 + 1 + 1) [.slice none 0 0] := (Blk.new (((w.alloc (.cells #[.int .i64 A.cap, vs, vi] 25)).alloc (.cells #[.int .i64 at_] 3)).alloc (.cells #[.int .i64 n] 3)) 22 [.slice none 0 0] (w.heap.size + 1 + 1 + 1) (by simp)).alloc _
  have hba : Blk (((((w.alloc (.cells #[.int .i64 A.cap, vs, vi] 25)).alloc (.cells #[.int .i64 at_] 3)).alloc (.cells #[.int .i64 n] 3)).alloc (.cells #[.slice none 0 0] 22)).alloc (.cells #[.int .i64 A.cap, vs, vi] 25)) (w.heap.size + 1) [.int .i64 at_] := (((Blk.new (w.alloc (.cells #[.int .i64 A.cap, vs, vi] 25)) 3 [.int .i64 at_] (w.heap.size + 1) (by simp)).alloc _).alloc _).alloc _
  have hbn : Blk (((((w.alloc (.cells #[.int .i64 A.cap, vs, vi] 25)).alloc (.cells #[.int .i64 at_] 3)).alloc (.cells #[.int .i64 n] 3)).alloc (.cells #[.slice none 0 0] 22)).alloc (.cells #[.int .i64 A.cap, vs, vi] 25)) (w.heap.size + 1 + 1) [.int .i64 n] := ((Blk.new ((w.alloc (.cells #[.int .i64 A.cap, vs, vi] 25)).alloc (.cells #[.int .i64 at_] 3)) 3 [.int .i64 n] (w.heap.size + 1 + 1) (by simp)).alloc _).alloc _
  have hI0 : ICk A at_ n w [] (((((w.alloc (.cells #[.int .i64 A.cap, vs, vi] 25)).alloc (.cells #[.int .i64 at_] 3)).alloc (.cells #[.int .i64 n] 3)).alloc (.cells #[.slice none 0 0] 22)).alloc (.cells #[.int .i64 A.cap, vs, vi] 25)) := ⟨.slice none 0 0, [], ⟨hst, World.ownsRow_nil _ _ _ _, (fun q hq => by cases hq), (fun q hq => by cases hq), (fun q hq => by cases hq)⟩, rfl, hB0, by simp, hba, hbn⟩
  have hsz : (((((w.alloc (.cells #[.int .i64 A.cap, vs, vi] 25)).alloc (.cells #[.int .i64 at_] 3)).alloc (.cells #[.int .i64 n] 3)).alloc (.cells #[.slice none 0 0] 22)).alloc (.cells #[.int .i64 A.cap, vs, vi] 25)).heap.size = w.heap.size + 5 := by simp
  try simp only [World.size_alloc] at hIt
  try simp only [World.size_alloc]
  generalize (((((w.alloc (.cells #[.int .i64 A.cap, vs, vi] 25)).alloc (.cells #[.int .i64 at_] 3)).alloc (.cells #[.int .i64 n] 3)).alloc (.cells #[.slice none 0 0] 22)).alloc (.cells #[.int .i64 A.cap, vs, vi] 25)) = W0 at *
  refine wpIn_rangeFunc_ownH rfl (by decide) (gf := 104) (lb := #[.pointer (some ⟨w.heap.size + 1 + 1 + 1 + 1, 0, none⟩)]) rfl trivial (enters_of Tryz.func104 (by kernel_rfl) rfl)
    (placec_stops 4 (by omega) (w.heap.size + 1 + 1 + 1 + 1) A vs vi w W0 hs hi hF hIt) (kpA_t _ _) (kpA_put _ _ _ (by omega) (by omega)) (Below.refl _ _) (fun _ => rfl)
    (ICk A at_ n w) (fun _ _ _ => False) (ick_own A at_ n w _ (by omega)) (fun _ _ _ _ _ hs _ _ => hs) hI0 (AxCk A at_ n vs vi w)
    (fun x a' _ W W' row ⟨h, e, hb, hh, hu⟩ hg hr => ⟨h, e, blk_own (by simp) hb hg hr, hh, fun u hc => hu u (by rw [← hc]; exact (World.cell?_of_block (a := ⟨w.heap.size + 1 + 1 + 1, 0, none⟩) (iall_b1 (b := w.heap.size + 1 + 1 + 1) hg hr hb (by have := hb.lt; omega))).symm)⟩) ?assign ?body ?done ?stop
  case assign =>
    intro l pre x W K hIp hK
    have hp := x.2.2.1
    have hm := x.2.2.2
    obtain ⟨v0, ps0, hO0, _, hBw, hNw, _, _⟩ := id hIp
    obtain ⟨K1, K2, K3, K4, K5⟩ := enew W x.1.2.1 x.1.2.2.1 x.1.2.2.2 (stable_cells _ _ _ _ hp hBw) (stable_cells _ _ _ _ hm hBw) W.heap.size rfl
    have HH := Kept.mk ((Blk.new W 48 [.string ⟨#[]⟩, .int .i64 0, .int .i64 0, .int .i64 0, .bool false, .string ⟨#[]⟩, .slice none 0 0, .slice none 0 0, .int .u64 0] W.heap.size rfl).all_ (l := [.string ⟨x.1.2.1.key.toArray⟩, .int .i64 x.1.2.1.val.kind, .int .i64 x.1.2.1.val.time, .int .i64 x.1.2.1.val.node, .bool x.1.2.1.val.dead, .string ⟨x.1.2.1.val.text.toArray⟩, x.1.2.2.1, x.1.2.2.2, .int .u64 (x.1.2.1.val.flags.toNat : Int)]) rfl)
    have hun : ∀ u, (setN (W.alloc (.cells #[.string ⟨#[]⟩, .int .i64 0, .int .i64 0, .int .i64 0, .bool false, .string ⟨#[]⟩, .slice none 0 0, .slice none 0 0, .int .u64 0] 48)) W.heap.size 0 [.string ⟨x.1.2.1.key.toArray⟩, .int .i64 x.1.2.1.val.kind, .int .i64 x.1.2.1.val.time, .int .i64 x.1.2.1.val.node, .bool x.1.2.1.val.dead, .string ⟨x.1.2.1.val.text.toArray⟩, x.1.2.2.1, x.1.2.2.2, .int .u64 (x.1.2.1.val.flags.toNat : Int)]).cell? ⟨w.heap.size + 1 + 1 + 1, 0, none⟩ = some u → u.ownBlock ≠ some W.heap.size := fun u hc e => by
      have h1 := (K3.out.cell (p := ⟨w.heap.size + 1 + 1 + 1, 0, none⟩) (show w.heap.size + 1 + 1 + 1 < W.heap.size by omega)).symm.trans hc
      rw [hO0.st.cells.2 0 _ rfl] at h1
      injection h1 with h1
      subst h1
      have := (hO0.own.lt _ e).2
      omega
    have hK2 := hK _ _ (keeps_below K3.out) (kpA_below K3.out (by omega) (by omega)) (ick_keep hIp K3.out) ⟨W.heap.size, rfl, HH.out, hNw, hun⟩
    have HK := Kept.mk hK2
    clear hK2 hK hp hm
    simp only [encE]
    gi_wp2_with (have hz0 := K1; refine wpListIn_storeN (fun _ => trivial) 48 rfl (.tmp 9) (.tmp 15) rfl W.heap.size [.string ⟨x.1.2.1.key.toArray⟩, .int .i64 x.1.2.1.val.kind, .int .i64 x.1.2.1.val.time, .int .i64 x.1.2.1.val.node, .bool x.1.2.1.val.dead, .string ⟨x.1.2.1.val.text.toArray⟩, x.1.2.2.1, x.1.2.2.2, .int .u64 (x.1.2.1.val.flags.toNat : Int)] size_en rfl rfl K1.out rfl K2.out K5.out ?_; clear hz0 K1 K2 K5)
    exact HK.out
  case body =>
    rintro l pre x a' W hl _ hIp ⟨h, rfl, hbl, hh, hu⟩ hlt
    obtain ⟨v, ps, hO, hpm, hBw, hNw, hba1, hbn1⟩ := hIp
    obtain ⟨hx1, hx2, hx3⟩ := x.2
    have hps : ps.length ≤ 1000 := by
      have h1 := congrArg List.length hpm
      have h2 := ckL_le at_ n (pre.map (·.1))
      rw [List.length_map] at h1 h2
      omega
    have FE := hF.ents _ (List.mem_of_getElem? hx1)
    have hp := stable_cells _ _ _ _ hx2 hBw
    have hm := stable_cells _ _ _ _ hx3 hBw
    have op := cells_lt hx2
    have om := cells_lt hx3
    have hvs : ∀ s, v.ownBlock = some s → w.heap.size + 5 ≤ s ∧ s < W.heap.size := hO.own.lt
    have hob : ∀ s, v.ownBlock = some s → ∀ o : Obj, W.heap[s]? = some o → o.isCells = true := by
      intro s hs o ho
      obtain ⟨_, ⟨rfl, _⟩ | ⟨g, cap, cur, rfl, _, hg', _⟩⟩ := hO.own
      · cases hs
      · have : g = s := by injection hs
        subst this
        rw [hg'] at ho
        injection ho with ho
        subst ho
        rfl
    have kat := hba1.cells.2 0 _ rfl
    have kn := hbn1.cells.2 0 _ rfl
    have kv := hO.st.cells.2 0 _ rfl
    obtain ⟨va, vc, hve⟩ : ∃ a c, v = .slice a ps.length c := by
      obtain ⟨_, ⟨rfl, h0⟩ | ⟨g, cap, cur, rfl, _⟩⟩ := hO.own
      · exact ⟨_, _, by rw [h0]⟩
      · exact ⟨_, _, rfl⟩
    rw [hve] at kv
    have hpl : (ps.length : Int) = ((ckL at_ n (pre.map (·.1))).length : Int) := by have h1 := congrArg List.length hpm; rw [List.length_map] at h1; omega
    have no : ¬ (at_ ≤ (x.1.1 : Int) ∧ (ps.length : Int) < n) → KeepsFrom (w.heap.size + 5) W W ∧ KpA w.heap.size (w.heap.size + 1 + 1 + 1 + 1) W W ∧ ICk A at_ n w (pre ++ [x]) W := fun hc => ⟨⟨Nat.le_refl _, fun k o _ hk _ => hk⟩, ⟨Nat.le_refl _, fun _ _ => rfl⟩, ⟨v, ps, hO, by rw [hpm, List.map_append]; exact (show ckL at_ n (pre.map (·.1)) = ckL at_ n (pre.map (·.1) ++ [x.1]) by rw [ckL_snoc, ckStep, if_neg (by rw [← hpl]; exact hc)]), hBw, hNw, hba1, hbn1⟩⟩
    by_cases hc1 : at_ ≤ (x.1.1 : Int)
    · by_cases hc2 : (ps.length : Int) < n
      · have hcond : at_ ≤ (x.1.1 : Int) ∧ ((ckL at_ n (pre.map (·.1))).length : Int) < n := ⟨hc1, by rw [← hpl]; exact hc2⟩
        clear no
        gi_wp2_with fail
        refine ckapp_region _ _ _ ?hout rfl (w.heap.size + 1 + 1 + 1) h (w.heap.size + 5) ps.length [v] x.1.2.1 v x.1.2.2.1 x.1.2.2.2 (flatE ps) rfl rfl hO.st rfl hbl hp hm FE hO.own hps hNw (fun s hs => ⟨by have := (hvs s hs).1; omega, fun e => ?hne, op.imp id (fun h2 e => by have := h2 s e; have := (hvs s hs).1; omega), om.imp id (fun h2 e => by have := h2 s e; have := (hvs s hs).1; omega)⟩) ?hfin
        case hout => rintro ⟨a2, w2, hh2⟩; first | exact hh2 | exact hh2.elim | (simp [ownPostG] at hh2) | exact True.intro
        case hne => exact hu v (hO.st.cells.2 0 _ rfl) (by rw [hs, e])
        case hfin =>
          intro y v2 vp vm W2 h1 h2 h3 h4 h5 h6 h7 h8 h9
          have hO2 := hO.push (by omega) hNw x.1.2.1 v2 vp vm h1 h2 h3 h4 h5 h6 h7 h8 h9
          have hB2 := hBw.trans (h9.below (fun b hb => by rcases hb with rfl | hb; (· omega); (· have := (hvs b hb).1; omega)) (by omega))
          have hpost : KeepsFrom W0.heap.size W W2 ∧ KpA w.heap.size (w.heap.size + 1 + 1 + 1 + 1) W W2 ∧ ICk A at_ n w (pre ++ [x]) W2 := by
            refine ⟨⟨h9.size, fun k o hB hk ho => (h9.block k (Array.getElem?_eq_some_iff.1 hk).1 (fun e => ?_)).trans hk⟩, ⟨h9.size, fun b hb => h9.block b (by omega) (fun e => ?_)⟩, ⟨v2, _, hO2, by rw [List.map_append, hpm, List.map_append]; exact (show ckL at_ n (pre.map (·.1)) ++ [x.1.2.1] = ckL at_ n (pre.map (·.1) ++ [x.1]) by rw [ckL_snoc, ckStep, if_pos hcond]), hB2, Nat.le_trans hNw h9.size, h9.blk hba1 (by rintro (e | e); (· omega); (· have := (hvs _ e).1; omega)), h9.blk hbn1 (by rintro (e | e); (· omega); (· have := (hvs _ e).1; omega))⟩⟩
            · rcases e with rfl | e
              · omega
              · rw [hob k e o hk] at ho; cases ho
            · rcases e with e | e
              · omega
              · have := (hvs b e).1; omega
          first | exact hpost | (gi_wp2; exact hpost) | exact True.intro
      · have hpost := no (fun h => hc2 h.2)
        gi_wp2
        exact hpost
    · have hpost := no (fun h => hc1 h.1)
      gi_wp2
      exact hpost
  case done =>
    rintro D ys W hD hys ⟨v, ps, hO, hpm, hBw, hNw, hba1, hbn1⟩ hK
    have hc := hO.st.cells.2 0 _ rfl
    have hen := Kept.mk (show isEnsN w.heap.size (chunkA A at_ n) v (W.putObj D (.deferred none)) by
      have h2 := (out_own (B := W0.heap.size) (by omega) hO (grownBy_putObj' W D (.deferred none)) (fun r e => by cases e; exact ⟨hD, _, hK, rfl⟩)).ensN (N := w.heap.size) (by omega)
      rw [hpm] at h2
      obtain ⟨y1, y2⟩ := hys
      unfold chunkA
      rw [if_neg (by omega)]
      cases hok : okA A with
      | true =>
        rw [hok, if_pos rfl] at y1 y2
        rw [ckL_spec at_ n (by omega) A.slots A.slots.length (ys.map (·.1)) (Nat.le_refl _) (by rw [List.map_map]; exact y1) (by rw [List.map_map, List.take_of_length_le (Nat.le_refl _)]; exact y2), List.take_of_length_le (Nat.le_refl _)] at h2
        exact h2
      | false =>
        rw [hok, if_neg (by decide)] at y1
        have : ys = [] := by have := congrArg List.length y1; simpa using this
        subst this
        exact h2)
    have hbl := Kept.mk (hBw.trans (belowK_b (w := w) (Nat.le_refl _) W D _ (.deferred none) (by omega) hK rfl rfl))
    gi_wp2
    refine ⟨by simp, .inl ⟨_, _, rfl, run_takeDeferred hK, ?_⟩⟩
    exact ⟨_, results_tmp rfl _ _ _, v, rfl, hen.out, hbl.out⟩
  case stop =>
    rintro D c pre W _ _ h _
    exact h.elim
end Go.Proofs.YtkjghoomdefbbaaGreatDoor
end
section
namespace Go.Proofs.YtkjghoomdefbbaaGreatDoor
open Go.RowKit
set_option linter.unusedVariables false
set_option linter.unusedSimpArgs false

section
variable {P : Program} {ops : Array Oper} {base : World} {a0 : Act} {Q : Exit → Act → World → Prop} {s0 : Nat} {ups : List Nat} {kn0 kn1 : Nat → VP}

/-- What is known where: ahead of operation s0, and behind it. -/
def PhaseInv (ops : Array Oper) (base : World) (s0 : Nat) (kn0 kn1 : Nat → VP) (listed : Array Bool) (a : Act) (w : World) : Prop :=
  (listed.getD s0 false = false ∧ Below base.heap.size base w ∧ ∀ j, listed.getD j false = true → FDone ops kn0 a w j) ∨
  (listed.getD s0 false = true ∧ ∃ w1, Below base.heap.size base w1 ∧ Below w1.heap.size w1 w ∧ ∀ j, listed.getD j false = true → FDone ops kn1 a w j)

end
end Go.Proofs.YtkjghoomdefbbaaGreatDoor
end
section
namespace Go.Proofs.YtkjghoomdefbbaaGreatDoor
open Go.RowKit
set_option linter.unusedVariables false
set_option linter.unusedSimpArgs false

def anyV : VP := fun _ _ => True
/-- A new variable of type T, as it was laid down. -/
def isNewS (T : TypeId) (z : List Value) (B : Nat) : VP := fun v w => ∃ g, v = .pointer (some ⟨g, 0, none⟩) ∧ B ≤ g ∧ w.heap[g]? = some (.cells z.toArray T (0, 0))
def isTup2 (K : VP) (e : Value) : VP := fun v w => ∃ x, v = .tuple #[x, e] ∧ K x w
def isTup3 (K : VP) (e f : Value) : VP := fun v w => ∃ x, v = .tuple #[x, e, f] ∧ K x w
section
variable {P : Program} {ops : Array Oper} {base : World} {a0 : Act} {Q : Exit → Act → World → Prop} {kn : Nat → VP} {i : Nat} {K : VP}
end
section
variable {P : Program} {ops : Array Oper} {base : World} {a0 : Act} {Q : Exit → Act → World → Prop} {s0 : Nat} {kn0 kn1 : Nat → VP}
end
end Go.Proofs.YtkjghoomdefbbaaGreatDoor
end
section
namespace Go.Proofs.YtkjghoomdefbbaaGreatDoor
open Go.RowKit
set_option linter.unusedVariables false
set_option linter.unusedSimpArgs false

/-- An arena whose rows are of their types. -/
def isArT (N : Nat) (A : Ar) : VP := fun v w => ∃ vs vi ps, v = .agg #[.int .i64 A.cap, vs, vi] ∧ w.ownsRow N 48 9 vs ps.length (flatE ps) ∧ ps.map (·.1) = A.slots ∧ w.ownsRow N 3 1 vi A.index.length (A.index.map intC) ∧ RowsOk ps w
theorem isArT.ar {N : Nat} {A : Ar} {v : Value} {w : World} (h : isArT N A v w) : isAr A v w := by
  obtain ⟨vs, vi, ps, rfl, h1, h2, h3, h4⟩ := h
  refine ⟨vs, vi, rfl, by rw [← h2]; exact own_ens h1 h4, isOwn.cells (B := N) (e := 3) ?_⟩
  unfold isOwn
  rw [List.length_map]
  exact h3
end Go.Proofs.YtkjghoomdefbbaaGreatDoor
end
section
namespace Go.Proofs.YtkjghoomdefbbaaGreatDoor
open Go.RowKit Go.ChangeShapes Go.WideShapes
set_option linter.unusedVariables false
set_option linter.unusedSimpArgs false

theorem spot_none {w : World} {a : Addr} {v : Value} (h : w.cell? a = some v) : a = ⟨a.block, a.off, none⟩ := by
  obtain ⟨b, o, s⟩ := a
  cases s with
  | none => rfl
  | some s =>
    simp only [World.cell?] at h
    split at h <;> simp at h
theorem add_plain (b o i : Nat) : (⟨b, o, none⟩ : Addr).add i = ⟨b, o + i, none⟩ := by
  by_cases e : i = 0
  · subst e; simp [Addr.add]
  · simp [Addr.add, e]
/-- A row that came in. -/
theorem cells_came {w : World} {a : Addr} {len cap : Nat} (cs : List Value) (hl : cs.length = len) (hc : ∀ (i : Nat) (x : Value), cs[i]? = some x → w.cell? (a.add i) = some x) : isCells cs (.slice (some a) len cap) w := by
  cases cs with
  | nil => subst hl; exact .inr (.inl ⟨a, cap, rfl, rfl⟩)
  | cons x cs =>
    have h0 := hc 0 x rfl
    have e0 : a.add 0 = a := by simp [Addr.add]
    rw [e0] at h0
    have ha := spot_none h0
    rw [ha] at hc ⊢
    subst hl
    refine .inr (.inr ⟨a.block, a.off, cap, rfl, ?_, fun j y hy => ?_⟩)
    · simp only [World.cell?] at h0
      split at h0
      · rename_i h; exact (Array.getElem?_eq_some_iff.1 h).1
      · simp at h0
    · have := hc j y hy
      rwa [add_plain] at this
section
variable {W : World} {H : Type} {enc : TypeId × Value → H} {base : Nat} {spare : Nat → Bool} {held : Bool} {n : Nat}
theorem open_row {v : Value} {y : DataW H × List MemPlace} (g : DataW.trod enc Tryz.prog W base spare held n 23 [v] = some y) :
    ∃ l : List Int, isCells (l.map intC) v W ∧ l.length ≤ maxLen ∧ (∀ x ∈ l, (Lit.int .i64 x).wf = true) := by
  rcases open_ints Tryz.underlying23 Tryz.underlying3 (by kernel_rfl) g with ⟨hc, _⟩ | ⟨a, len, cap, zs, hc, _, hl, hm, hz, hx0, hcell, hs⟩
  · injection hc with hc _
    subst hc
    exact ⟨[], .inl ⟨rfl, rfl⟩, Nat.zero_le _, (fun s hs => by simp at hs)⟩
  · injection hc with hc _
    subst hc
    have hle : len ≤ zs.length := by rw [hz]; split <;> omega
    refine ⟨zs.take len, cells_came _ (by simp; omega) (fun i x hx => ?_), by simp; omega, (fun s h => hs s (List.mem_of_mem_take h))⟩
    have hi : i < len := by have := (List.getElem?_eq_some_iff.1 hx).1; simp at this; omega
    rw [hcell i (by omega)]
    rw [List.getElem?_map, List.getElem?_take, if_pos hi, List.getElem?_eq_getElem (by omega : i < zs.length)] at hx
    simp only [Option.map_some, Option.some.injEq] at hx
    rw [← hx]
    simp [List.getD_eq_getElem?_getD, show i < zs.length by omega, intC]
end
theorem wf_u64 {x : Int} (h : (Lit.int .u64 x).wf = true) : 0 ≤ x ∧ x ≤ 18446744073709551615 := by
  unfold Lit.wf at h
  rw [Bool.and_eq_true] at h
  exact ⟨of_decide_eq_true h.1, of_decide_eq_true h.2⟩
/-- What a value that came in is. -/
structure CameV (A : Va) : Prop where
  kind : (Lit.int .i64 A.kind).wf = true
  time : (Lit.int .i64 A.time).wf = true
  node : (Lit.int .i64 A.node).wf = true
  text : A.text.length ≤ maxLen
  plus : ∀ x ∈ A.plus, (Lit.int .i64 x).wf = true
  minus : ∀ x ∈ A.minus, (Lit.int .i64 x).wf = true
  np : A.plus.length ≤ maxLen
  nm : A.minus.length ≤ maxLen
end Go.Proofs.YtkjghoomdefbbaaGreatDoor
end
section
namespace Go.Proofs.YtkjghoomdefbbaaGreatDoor
open Go.RowKit
set_option linter.unusedVariables false
set_option linter.unusedSimpArgs false
attribute [local irreducible] setN

def noCountB (A : Va) : Bool := decide (A.plus.length + A.minus.length = 0)
def noRegB (A : Va) : Bool := (A.time == 0) && (A.node == 0) && !A.dead && A.text.isEmpty
end Go.Proofs.YtkjghoomdefbbaaGreatDoor
end
section
namespace Go.Proofs.YtkjghoomdefbbaaGreatDoor
open Go.RowKit
set_option linter.unusedVariables false
set_option linter.unusedSimpArgs false

noncomputable def refIntsops : Array Oper := regionOf Tryz.f63 6
set_option maxRecDepth 100000 in
theorem refInts_region (Q : Exit → Act → World → Prop) (a0 : Act) (w0 : World) (hsz : a0.tmps.size = 26) (b1 o1 c1 b2 o2 c2 n j : Nat) (x y : Int) (z : Bool)
    (e0 : a0.tmps.getD 0 undef = .slice (some ⟨b1, o1, none⟩) n c1) (e1 : a0.tmps.getD 1 undef = .slice (some ⟨b2, o2, none⟩) n c2) (e5 : a0.tmps.getD 5 undef = .int .i64 (j : Int)) (hj : j < n)
    (p1 : w0.cell? ⟨b1, o1 + j, none⟩ = some (.int .i64 x)) (l1 : b1 < w0.heap.size) (p2 : w0.cell? ⟨b2, o2 + j, none⟩ = some (.int .i64 y)) (l2 : b2 < w0.heap.size) (hz : (x != y) = z)
    (hQ : ∀ (f : Nat → Value) (w : World), f 25 = .bool z → Below w0.heap.size w0 w → Q .normal { tmps := [17, 18, 19, 20, 21, 22, 23, 24, 25].foldl (fun t s => t.setIfInBounds s (f s)) a0.tmps, defers := a0.defers } w) :
    (Code.region 6 refIntsops true).wp Tryz.prog Q a0 w0 := by
  refine wp_region_flow mixed (by rw [hsz]; kernel_rfl) ?_
  rw [show refIntsops.size = 9 by kernel_rfl]
  refine ⟨isVal (.slice (some ⟨b1, o1, none⟩) n c1), step_move (.tmp 0) (by kernel_rfl) (wanted_none (by kernel_rfl)) (stable_val _) (knows_old 0 (.slice (some ⟨b1, o1, none⟩) n c1) (by kernel_rfl) e0), ?_⟩
  refine ⟨isVal (.int .i64 (j : Int)), step_move (.tmp 5) (by kernel_rfl) (wanted_none (by kernel_rfl)) (stable_val _) (knows_old 5 (.int .i64 (j : Int)) (by kernel_rfl) e5), ?_⟩
  refine ⟨isVal (.pointer (some ⟨b1, o1 + j, none⟩)), step_place 23 3 (.tmp 17) (.tmp 18) b1 o1 n c1 j (by kernel_rfl) (wanted_none (by kernel_rfl)) (knows_new (V := isVal (.slice (some ⟨b1, o1, none⟩) n c1)) 17 0 (by kernel_rfl) (by kernel_rfl) (by kernel_rfl)) (knows_new (V := isVal (.int .i64 (j : Int))) 18 1 (by kernel_rfl) (by kernel_rfl) (by kernel_rfl)) Tryz.underlying23 (by kernel_rfl) hj, ?_⟩
  refine ⟨isVal (.int .i64 x), step_read 3 (.tmp 19) ⟨b1, o1 + j, none⟩ (.int .i64 x) (by kernel_rfl) (wanted_none (by kernel_rfl)) (knows_new (V := isVal (.pointer (some ⟨b1, o1 + j, none⟩))) 19 2 (by kernel_rfl) (by kernel_rfl) (by kernel_rfl)) p1 l1 agg_int, ?_⟩
  refine ⟨isVal (.slice (some ⟨b2, o2, none⟩) n c2), step_move (.tmp 1) (by kernel_rfl) (wanted_none (by kernel_rfl)) (stable_val _) (knows_old 1 (.slice (some ⟨b2, o2, none⟩) n c2) (by kernel_rfl) e1), ?_⟩
  refine ⟨isVal (.int .i64 (j : Int)), step_move (.tmp 5) (by kernel_rfl) (wanted_none (by kernel_rfl)) (stable_val _) (knows_old 5 (.int .i64 (j : Int)) (by kernel_rfl) e5), ?_⟩
  refine ⟨isVal (.pointer (some ⟨b2, o2 + j, none⟩)), step_place 23 3 (.tmp 21) (.tmp 22) b2 o2 n c2 j (by kernel_rfl) (wanted_none (by kernel_rfl)) (knows_new (V := isVal (.slice (some ⟨b2, o2, none⟩) n c2)) 21 4 (by kernel_rfl) (by kernel_rfl) (by kernel_rfl)) (knows_new (V := isVal (.int .i64 (j : Int))) 22 5 (by kernel_rfl) (by kernel_rfl) (by kernel_rfl)) Tryz.underlying23 (by kernel_rfl) hj, ?_⟩
  refine ⟨isVal (.int .i64 y), step_read 3 (.tmp 23) ⟨b2, o2 + j, none⟩ (.int .i64 y) (by kernel_rfl) (wanted_none (by kernel_rfl)) (knows_new (V := isVal (.pointer (some ⟨b2, o2 + j, none⟩))) 23 6 (by kernel_rfl) (by kernel_rfl) (by kernel_rfl)) p2 l2 agg_int, ?_⟩
  refine ⟨isVal (.bool z), step_bin .neq 3 3 (.tmp 20) (.tmp 24) (.int .i64 x) (.int .i64 y) (.bool z) (by kernel_rfl) (wanted_none (by kernel_rfl)) (knows_new (V := isVal (.int .i64 x)) 20 3 (by kernel_rfl) (by kernel_rfl) (by kernel_rfl)) (knows_new (V := isVal (.int .i64 y)) 24 7 (by kernel_rfl) (by kernel_rfl) (by kernel_rfl)) (fun _ => rfl) (neq_int _ _ _ _ _ hz), ?_⟩
  intro a w hkp hb hd
  rw [kept_of hkp ((List.range 9).map fun i => some (i + 17)) [17, 18, 19, 20, 21, 22, 23, 24, 25] (by kernel_rfl) (by decide)]
  exact hQ (fun s => a.tmps.getD s undef) w (fdone_of (hd 8 (by rw [show refIntsops.size = 9 by kernel_rfl]; decide)) (t := 25) (V := isVal (.bool z)) (by kernel_rfl) (by kernel_rfl)) hb
set_option maxRecDepth 20000 in
set_option maxHeartbeats 1000000 in
theorem refInts_any (l m : List (Int)) (v u : Value) (w : World) (hv : isCells (l.map intC) v w) (hu : isCells (m.map intC) u w) (h1 : l.length ≤ 1000000000) (h2 : m.length ≤ 1000000000) :
    Calls Tryz.prog 63 #[v, u] w fun e w' => e = .returned (.bool (decide (l = m))) ∧ Below w.heap.size w w' := by
  by_cases hlen : l.length = m.length
  case neg =>
    obtain ⟨a, cap, rfl⟩ := hv.len
    obtain ⟨b, cap2, rfl⟩ := hu.len
    rw [List.length_map, List.length_map]
    have HN := Kept.mk (show decide (l = m) = false by simp; rintro rfl; exact hlen rfl)
    have d1 : ((l.length : Int) != (m.length : Int)) = true := by simp [bne]; omega
    clear hv hu hlen
    go_enter Tryz.func63, Tryz.ntmps63
    go_wp2
    go_ret
    exact ⟨by rw [HN.out]; rfl, Below.refl _ _⟩
  by_cases h0 : l = []
  · subst h0
    obtain rfl : m = [] := List.eq_nil_of_length_eq_zero (by simpa using hlen.symm)
    obtain ⟨a, cap, rfl⟩ := hv.len
    obtain ⟨b, cap2, rfl⟩ := hu.len
    clear hv hu
    simp only [List.map_nil, List.length_nil]
    go_enter Tryz.func63, Tryz.ntmps63
    go_wp2
    go_loop [5] (fun i => i = .int .i64 0) (fun _ => 0)
    case atStart => rfl
    case round =>
      subst hrel
      go_wp2
      go_ret
      exact ⟨by simp, Below.refl _ _⟩
  · have hl0 : 0 < l.length := List.length_pos_iff.2 h0
    obtain ⟨b1, o1, c1, hv', l1, hc1⟩ := hv.some_ (by simpa using hl0)
    obtain ⟨b2, o2, c2, hu', l2, hc2⟩ := hu.some_ (by rw [List.length_map]; omega)
    rw [List.length_map] at hv' hu'
    subst hv' hu'
    have HM := Kept.mk hlen
    have hmn : m.length = l.length := hlen.symm
    rw [hmn]
    obtain ⟨n, hn⟩ : ∃ n, n = l.length := ⟨_, rfl⟩
    have HN := Kept.mk hn
    rw [← hn] at h1 hl0 ⊢
    have HC1 := Kept.mk hc1
    have HC2 := Kept.mk hc2
    have hB : Below w.heap.size w w := Below.refl _ _
    clear hv hu hlen hmn hn hc1 hc2 h0
    go_enter Tryz.func63, Tryz.ntmps63
    go_wp2
    go_loopw [5] (fun i wr => ∃ j : Nat, j ≤ n ∧ i = .int .i64 (j : Int) ∧ Kept (l.take j = m.take j) ∧ Below w.heap.size w wr) (fun i _ => n - (intOf i).toNat)
    case atStart => exact ⟨0, Nat.zero_le _, rfl, ⟨rfl⟩, hB⟩
    case round =>
      clear hB
      obtain ⟨j, hj, rfl, HT, hB⟩ := hrel
      by_cases hlt : j < n
      · have d1 : decide ((j : Int) < (n : Int)) = true := by simpa using hlt
        have HA := Kept.mk (show j < l.length by rw [← HN.out]; exact hlt)
        have HB := Kept.mk (show j < m.length by rw [← HM.out, ← HN.out]; exact hlt)
        have q1 := Kept.mk ((hB.cell (p := ⟨b1, o1 + j, none⟩) l1).trans (HC1.out j _ (get_map intC l j HA.out)))
        have q2 := Kept.mk ((hB.cell (p := ⟨b2, o2 + j, none⟩) l2).trans (HC2.out j _ (get_map intC m j HB.out)))
        cases hz : (l[j]'HA.out != m[j]'HB.out) with
        | true =>
          have HR := Kept.mk (show decide (l = m) = false by
            simp only [decide_eq_false_iff_not]
            rintro rfl
            simp at hz)
          have HZ := Kept.mk hz
          clear hz
          go_wp2_with fail
          refine refInts_region _ _ _ rfl b1 o1 c1 b2 o2 c2 n j _ _ true rfl rfl rfl hlt q1.out (Nat.lt_of_lt_of_le l1 hB.size) q2.out (Nat.lt_of_lt_of_le l2 hB.size) HZ.out ?_
          clear q1 q2 HZ
          intro f9 W9 hg hb9
          replace hB := hB.trans (hb9.mono hB.size)
          clear hb9
          simp only [List.foldl_cons, List.foldl_nil, hg]
          generalize f9 17 = y17
          generalize f9 18 = y18
          generalize f9 19 = y19
          generalize f9 20 = y20
          generalize f9 21 = y21
          generalize f9 22 = y22
          generalize f9 23 = y23
          generalize f9 24 = y24
          clear hg
          simp only [List.setIfInBounds_toArray, List.set_cons_succ, List.set_cons_zero]
          go_wp2
          go_ret
          exact ⟨by rw [HR.out]; rfl, hB⟩
        | false =>
          have HR := Kept.mk (show l.take (j + 1) = m.take (j + 1) by
            rw [List.take_succ_eq_append_getElem HA.out, List.take_succ_eq_append_getElem HB.out, HT.out]
            simp at hz
            rw [hz])
          have HZ := Kept.mk hz
          clear hz HT
          go_wp2_with fail
          refine refInts_region _ _ _ rfl b1 o1 c1 b2 o2 c2 n j _ _ false rfl rfl rfl hlt q1.out (Nat.lt_of_lt_of_le l1 hB.size) q2.out (Nat.lt_of_lt_of_le l2 hB.size) HZ.out ?_
          clear q1 q2 HZ
          intro f9 W9 hg hb9
          replace hB := hB.trans (hb9.mono hB.size)
          clear hb9
          simp only [List.foldl_cons, List.foldl_nil, hg]
          generalize f9 17 = y17
          generalize f9 18 = y18
          generalize f9 19 = y19
          generalize f9 20 = y20
          generalize f9 21 = y21
          generalize f9 22 = y22
          generalize f9 23 = y23
          generalize f9 24 = y24
          clear hg
          simp only [List.setIfInBounds_toArray, List.set_cons_succ, List.set_cons_zero]
          go_wp2
          go_roundw
          case rel => exact ⟨j + 1, by omega, by go_num, HR, hB⟩
          case measure => simp [intOf]; omega
      · have d1 : decide ((j : Int) < (n : Int)) = false := by simp; omega
        have HR := Kept.mk (show decide (l = m) = true by
          have h := HT.out
          rw [List.take_of_length_le (by rw [← HN.out]; omega), List.take_of_length_le (by rw [← HM.out, ← HN.out]; omega)] at h
          simpa using h)
        go_wp2
        go_ret
        exact ⟨by rw [HR.out]; rfl, hB⟩
end Go.Proofs.YtkjghoomdefbbaaGreatDoor
end
section
namespace Go.Proofs.YtkjghoomdefbbaaGreatDoor
open Go.RowKit
set_option linter.unusedVariables false
set_option linter.unusedSimpArgs false
attribute [local irreducible] setN

theorem same_split2 (A B : Va) : decide (A = B) = ((A.kind == B.kind) && (A.time == B.time) && (A.node == B.node) && (A.dead == B.dead) && (A.text == B.text) && ((A.flags.toNat : Int) == (B.flags.toNat : Int)) && decide (A.plus = B.plus) && decide (A.minus = B.minus)) := by
  rw [same_split]
  generalize (A.kind == B.kind) = a
  generalize (A.time == B.time) = b
  generalize (A.node == B.node) = c
  generalize (A.dead == B.dead) = d
  generalize (A.text == B.text) = e
  generalize decide (A.plus = B.plus) = f
  generalize decide (A.minus = B.minus) = g
  generalize ((A.flags.toNat : Int) == (B.flags.toNat : Int)) = h
  cases a <;> cases b <;> cases c <;> cases d <;> cases e <;> cases f <;> cases g <;> cases h <;> rfl
set_option maxRecDepth 20000 in
set_option maxHeartbeats 2000000 in
theorem rsame_any (A B : Va) (v u : Value) (w : World) (hv : isVa A v w) (hu : isVa B u w) (hA : Fit A) (hC : Fit B) :
    Calls Tryz.prog 69 #[v, u] w fun e w' => e = .returned (.bool (decide (A = B))) ∧ Below w.heap.size w w' := by
  have hv0 := hv
  have hu0 := hu
  obtain ⟨pa, ma, rfl, hpa, hma⟩ := hv
  obtain ⟨pb, mb, rfl, hpb, hmb⟩ := hu
  obtain ⟨hB, Va⟩ := vbox w A pa ma hpa hma (w.heap.size) (by simp)
  obtain ⟨hBn, Vb⟩ := vbox (w.alloc (.cells #[.int .i64 A.kind, .int .i64 A.time, .int .i64 A.node, .bool A.dead, .string ⟨A.text.toArray⟩, pa, ma, .int .u64 (A.flags.toNat : Int)] 46)) B pb mb (stable_cells _ _ _ _ hpb hB.out) (stable_cells _ _ _ _ hmb hB.out) (w.heap.size + 1) (by simp)
  replace Va := Kept.mk (Va.out.keep hBn.out)
  replace hB := Kept.mk (hB.out.trans (hBn.out.mono hB.out.size))
  clear hBn
  clear hpa hma hpb hmb
  have HS := Kept.mk (same_split2 A B)
  have HA0 := Kept.mk (va_grow hv0 hB.out)
  have HU0 := Kept.mk (va_grow hu0 hB.out)
  clear hv0 hu0
  cases d0 : (A.kind == B.kind) with
  | false =>
    go_enter Tryz.func69, Tryz.ntmps69
    go_wp2
    all_goals go_ret
    all_goals exact ⟨by rw [HS.out, d0]; rfl, hB.out⟩
  | true =>
    cases d1 : (A.time == B.time) with
    | false =>
      go_enter Tryz.func69, Tryz.ntmps69
      go_wp2
      all_goals go_ret
      all_goals exact ⟨by rw [HS.out, d0, d1]; rfl, hB.out⟩
    | true =>
      cases d2 : (A.node == B.node) with
      | false =>
        go_enter Tryz.func69, Tryz.ntmps69
        go_wp2
        all_goals go_ret
        all_goals exact ⟨by rw [HS.out, d0, d1, d2]; rfl, hB.out⟩
      | true =>
        cases d3 : (A.dead == B.dead) with
        | false =>
          go_enter Tryz.func69, Tryz.ntmps69
          go_wp2
          all_goals go_ret
          all_goals exact ⟨by rw [HS.out, d0, d1, d2, d3]; rfl, hB.out⟩
        | true =>
          cases d4 : (A.text == B.text) with
          | false =>
            go_enter Tryz.func69, Tryz.ntmps69
            go_wp2
            all_goals go_ret
            all_goals exact ⟨by rw [HS.out, d0, d1, d2, d3, d4]; rfl, hB.out⟩
          | true =>
            cases d5 : ((A.flags.toNat : Int) == (B.flags.toNat : Int)) with
            | false =>
              go_enter Tryz.func69, Tryz.ntmps69
              go_wp2
              all_goals go_ret
              all_goals exact ⟨by rw [HS.out, d0, d1, d2, d3, d4, d5]; rfl, hB.out⟩
            | true =>
              go_enter Tryz.func69, Tryz.ntmps69
              go_wp2_with fail
              generalize (w.alloc (.cells #[.int .i64 A.kind, .int .i64 A.time, .int .i64 A.node, .bool A.dead, .string ⟨A.text.toArray⟩, pa, ma, .int .u64 (A.flags.toNat : Int)] 46)).alloc (.cells #[.int .i64 B.kind, .int .i64 B.time, .int .i64 B.node, .bool B.dead, .string ⟨B.text.toArray⟩, pb, mb, .int .u64 (B.flags.toNat : Int)] 46) = W0 at *
              obtain ⟨_, _, e1, e2, e3⟩ := HA0.out
              obtain ⟨_, _, e4, e5, e6⟩ := HU0.out
              cases e1
              cases e4
              ((with_reducible refine (refInts_any A.plus B.plus _ _ _ e2 e5 (by have := hA.plus; omega) (by have := hC.plus; omega)).mono ?_); rintro e W1 ⟨rfl, hb1⟩)
              replace hB := Kept.mk (hB.out.trans ((hb1).mono hB.out.size))
              replace Va := Kept.mk (Va.out.keep (hb1))
              replace Vb := Kept.mk (Vb.out.keep (hb1))
              clear hb1 e2 e3 e5 e6 HA0 HU0
              cases d6 : decide (A.plus = B.plus) with
              | false =>
                go_wp2
                all_goals go_ret
                all_goals exact ⟨by rw [HS.out, d0, d1, d2, d3, d4, d5, d6]; rfl, hB.out⟩
              | true =>
                obtain ⟨qa, ra, -, -, ma2, ka0, ka1, ka2, ka3, ka4, ka5, ka6, ka7⟩ := Va.out.open_
                obtain ⟨qb, rb, -, -, mb2, kb0, kb1, kb2, kb3, kb4, kb5, kb6, kb7⟩ := Vb.out.open_
                go_wp2_with fail
                ((with_reducible refine (refInts_any A.minus B.minus _ _ _ ma2.out mb2.out (by have := hA.minus; omega) (by have := hC.minus; omega)).mono ?_); rintro e W2 ⟨rfl, hb1⟩)
                clear ma2 mb2 ka0 ka1 ka2 ka3 ka4 ka5 ka6 ka7 kb0 kb1 kb2 kb3 kb4 kb5 kb6 kb7
                replace hB := Kept.mk (hB.out.trans ((hb1).mono hB.out.size))
                replace Va := Kept.mk (Va.out.keep (hb1))
                replace Vb := Kept.mk (Vb.out.keep (hb1))
                clear hb1
                obtain ⟨z, hz⟩ : ∃ z, z = decide (A.minus = B.minus) := ⟨_, rfl⟩
                rw [← hz] at HS ⊢
                clear hz
                go_wp2
                all_goals go_ret
                all_goals exact ⟨by rw [HS.out, d0, d1, d2, d3, d4, d5, d6]; rfl, hB.out⟩
end Go.Proofs.YtkjghoomdefbbaaGreatDoor
end
section
namespace Go.Proofs.YtkjghoomdefbbaaGreatDoor
open Go.RowKit
set_option linter.unusedVariables false
set_option linter.unusedSimpArgs false
attribute [local irreducible] setN

set_option maxRecDepth 100000 in
set_option maxHeartbeats 2000000 in
theorem resame_any (A B : En) (v u : Value) (w : World) (hv : isEn A v w) (hu : isEn B u w) (hA : Fit A.val) (hF : Fit B.val) : Calls Tryz.prog 38 #[v, u] w fun e w' => e = .returned (.bool (decide (A = B))) ∧ Below w.heap.size w w' := by
  have HS := Kept.mk (same_en A B)
  obtain ⟨pa, ma, rfl, hpa, hma⟩ := hv
  obtain ⟨pb, mb, rfl, hpb, hmb⟩ := hu
  obtain ⟨hB, Va⟩ := ebox w A pa ma hpa hma (w.heap.size) (by simp)
  obtain ⟨hBn, Vb⟩ := ebox (w.alloc (.cells #[.string ⟨A.key.toArray⟩, .int .i64 A.val.kind, .int .i64 A.val.time, .int .i64 A.val.node, .bool A.val.dead, .string ⟨A.val.text.toArray⟩, pa, ma, .int .u64 (A.val.flags.toNat : Int)] 48)) B pb mb (stable_cells _ _ _ _ hpb hB.out) (stable_cells _ _ _ _ hmb hB.out) (w.heap.size + 1) (by simp)
  replace Va := Kept.mk (Va.out.keep hBn.out)
  replace hB := Kept.mk (hB.out.trans (hBn.out.mono hB.out.size))
  clear hBn
  clear hpa hma hpb hmb
  obtain ⟨qa, ra, xa, ya, ka0, ka1, ka2, ka3, ka4, ka5, ka6, ka7, ka8⟩ := Va.out.open_
  have Xa := Kept.mk xa
  have Ya := Kept.mk ya
  clear xa ya
  obtain ⟨qb, rb, xb, yb, kb0, kb1, kb2, kb3, kb4, kb5, kb6, kb7, kb8⟩ := Vb.out.open_
  have Xb := Kept.mk xb
  have Yb := Kept.mk yb
  clear xb yb
  cases hk : (A.key == B.key) with
  | false =>
    go_enter Tryz.func38, Tryz.ntmps38
    go_wp2
    go_ret
    exact ⟨by rw [HS.out, hk]; rfl, hB.out⟩
  | true =>
    have HK := Kept.mk hk
    go_enter Tryz.func38, Tryz.ntmps38
    go_wp2_with fail
    refine (rsame_any A.val B.val _ _ _ Ya.out Yb.out hA hF).mono ?_
    rintro e W1 ⟨rfl, hb1⟩
    replace hB := Kept.mk (hB.out.trans (hb1.mono hB.out.size))
    clear hb1 Xa Xb Ya Yb Va Vb ka0 ka1 ka2 ka3 ka4 ka5 ka6 ka7 ka8 kb0 kb1 kb2 kb3 kb4 kb5 kb6 kb7 kb8
    generalize hz : decide (A.val = B.val) = z
    have HV := Kept.mk hz
    clear hz
    go_wp2
    go_ret
    exact ⟨by rw [HS.out, HK.out, HV.out]; rfl, hB.out⟩
end Go.Proofs.YtkjghoomdefbbaaGreatDoor
end
section
namespace Go.Proofs.YtkjghoomdefbbaaGreatDoor
open Go.RowKit
set_option linter.unusedVariables false
set_option linter.unusedSimpArgs false
attribute [local irreducible] setN

/-- An entry whose rows, if it has any, are new. -/
def isEnR (B : Nat) (E : En) : VP := fun v w => ∃ vp vm, v = .agg #[.string ⟨E.key.toArray⟩, .int .i64 E.val.kind, .int .i64 E.val.time, .int .i64 E.val.node, .bool E.val.dead, .string ⟨E.val.text.toArray⟩, vp, vm, .int .u64 (E.val.flags.toNat : Int)] ∧ isCells (E.val.plus.map intC) vp w ∧ isCells (E.val.minus.map intC) vm w ∧ (E.val.plus ≠ [] → NewB B vp) ∧ (E.val.minus ≠ [] → NewB B vm)
theorem isEnR.en {B : Nat} {E : En} {v : Value} {w : World} (h : isEnR B E v w) : isEn E v w := let ⟨p, m, e, h1, h2, _, _⟩ := h; ⟨p, m, e, h1, h2⟩
theorem isEnR.low {B B' : Nat} {E : En} {v : Value} {w : World} (h : isEnR B E v w) (hB : B' ≤ B) : isEnR B' E v w := let ⟨p, m, e, h1, h2, h3, h4⟩ := h; ⟨p, m, e, h1, h2, fun x => (h3 x).low hB, fun x => (h4 x).low hB⟩
structure JS3 (w W : World) (A B : En) (pa ma pb mb : Value) : Prop where
  hb : Below w.heap.size w W
  a : Blk W w.heap.size [.string ⟨A.key.toArray⟩, .int .i64 A.val.kind, .int .i64 A.val.time, .int .i64 A.val.node, .bool A.val.dead, .string ⟨A.val.text.toArray⟩, pa, ma, .int .u64 (A.val.flags.toNat : Int)]
  b : Blk W (w.heap.size + 1) [.string ⟨B.key.toArray⟩, .int .i64 B.val.kind, .int .i64 B.val.time, .int .i64 B.val.node, .bool B.val.dead, .string ⟨B.val.text.toArray⟩, pb, mb, .int .u64 (B.val.flags.toNat : Int)]
  r : Blk W (w.heap.size + 1 + 1) [.string ⟨#[]⟩, .int .i64 0, .int .i64 0, .int .i64 0, .bool false, .string ⟨#[]⟩, .slice none 0 0, .slice none 0 0, .int .u64 0]
theorem JS3.keep {w W W' : World} {A B : En} {pa ma pb mb : Value} (h : JS3 w W A B pa ma pb mb) (k : Below W.heap.size W W') : JS3 w W' A B pa ma pb mb :=
  ⟨h.hb.trans (k.mono h.hb.size), h.a.keep k, h.b.keep k, h.r.keep k⟩
end Go.Proofs.YtkjghoomdefbbaaGreatDoor
end
section
namespace Go.Proofs.YtkjghoomdefbbaaGreatDoor
open Go.RowKit
set_option linter.unusedVariables false
set_option linter.unusedSimpArgs false
attribute [local irreducible] setN

def VarR (B : Nat) (w : World) (g : Nat) (J : En) : Prop := ∃ vp vm, CellsN w g [.string ⟨J.key.toArray⟩, .int .i64 J.val.kind, .int .i64 J.val.time, .int .i64 J.val.node, .bool J.val.dead, .string ⟨J.val.text.toArray⟩, vp, vm, .int .u64 (J.val.flags.toNat : Int)] ∧ isCells (J.val.plus.map intC) vp w ∧ isCells (J.val.minus.map intC) vm w ∧ (J.val.plus ≠ [] → NewB B vp) ∧ (J.val.minus ≠ [] → NewB B vm)
theorem VarR.keep {B : Nat} {w w' : World} {g : Nat} {J : En} (h : VarR B w g J) (hb : Below w.heap.size w w') : VarR B w' g J :=
  let ⟨vp, vm, hc, hp, hm, np, nm⟩ := h; ⟨vp, vm, hc.keep hb hc.1, stable_cells _ _ _ _ hp hb, stable_cells _ _ _ _ hm hb, np, nm⟩
theorem OutV.slot {N : Nat} {v : Value} {ps : RowE} {w : World} (h : OutV N v ps w) {q : Nat} (hq : q < ps.length) : ∃ s cap cur, v = .slice (some ⟨s, 0, none⟩) ps.length cap ∧ w.heap[s]? = some (.cells cur 48 (0, 0)) ∧ cur.size = cap * 9 ∧ ps.length ≤ cap ∧ cap ≤ maxLen ∧ cur.toList.take (ps.length * 9) = flatE ps ∧ N ≤ s ∧ s < w.heap.size := by
  obtain ⟨_, ⟨_, h0⟩ | ⟨s, cap, cur, hv, hB, hg, hn, hc, hcs, ht⟩⟩ := h.own
  · omega
  · exact ⟨s, cap, cur, hv, hg, hcs, hn, hc, ht, hB, (Array.getElem?_eq_some_iff.1 hg).1⟩
set_option maxHeartbeats 1000000 in
theorem OutV.set {N : Nat} {w : World} {ps : RowE} {s cap q : Nat} {cur : Array Value} (J : En) (jp jm : Value) (h : OutV N (.slice (some ⟨s, 0, none⟩) ps.length cap) ps w) (hg : w.heap[s]? = some (.cells cur 48 (0, 0))) (hcs : cur.size = cap * 9) (hn : ps.length ≤ cap) (hc : cap ≤ maxLen) (ht : cur.toList.take (ps.length * 9) = flatE ps) (hB : N ≤ s) (hq : q < ps.length)
    (hp : isCells (J.val.plus.map intC) jp w) (hm : isCells (J.val.minus.map intC) jm w) (o : OffQ s (J, jp, jm)) : OutV N (.slice (some ⟨s, 0, none⟩) ps.length cap) (ps.set q (J, jp, jm)) (setN w s (q * 9) (enL J jp jm)) := by
  have bt := bt_setN (S := fun b => b = s) rfl (enL J jp jm) (q * 9) w
  have offs : ∀ p ∈ ps, OffQ s p := fun p hp => h.off p hp s rfl
  have hcur := heap_setCells (enL J jp jm) (q * 9) w cur hg
  rw [← setN_cells] at hcur
  refine ⟨⟨by rw [flatE_length, List.length_set], .inr ⟨s, cap, _, by rw [List.length_set], hB, hcur, by rw [List.length_set]; exact hn, hc, by rw [setL_size, hcs], ?_⟩⟩, ?_, ?_⟩
  · rw [List.length_set]
    apply List.ext_getElem?
    intro t
    by_cases htl : t < ps.length * 9
    · rw [List.getElem?_take_of_lt htl, Array.getElem?_toList, setL_get, flatE_set ps q _ hq]
      have h9 : (enL J jp jm).length = 9 := rfl
      have hm9 : ps.length * 9 ≤ cap * 9 := Nat.mul_le_mul_right _ hn
      by_cases h2 : q * 9 ≤ t ∧ t < q * 9 + 9
      · rw [if_pos (by omega), if_pos h2]
      · rw [if_neg (by omega), if_neg h2, ← ht, List.getElem?_take_of_lt htl, Array.getElem?_toList]
    · rw [List.getElem?_eq_none (by simp; omega), List.getElem?_eq_none (by rw [flatE_length, List.length_set]; omega)]
  · intro p hp'
    rcases List.mem_or_eq_of_mem_set hp' with hp' | rfl
    · obtain ⟨r1, r2⟩ := h.rows p hp'
      obtain ⟨o1, o2⟩ := offs p hp'
      exact ⟨bt.cells r1 (o1.imp id (fun h b hb e => h (by rw [hb, e]))), bt.cells r2 (o2.imp id (fun h b hb e => h (by rw [hb, e])))⟩
    · obtain ⟨o1, o2⟩ := o
      exact ⟨bt.cells hp (o1.imp id (fun h b hb e => h (by rw [hb, e]))), bt.cells hm (o2.imp id (fun h b hb e => h (by rw [hb, e])))⟩
  · intro p hp' b hb
    have e : some s = some b := hb
    injection e with e
    subst e
    rcases List.mem_or_eq_of_mem_set hp' with hp' | rfl
    · exact offs p hp'
    · exact o
end Go.Proofs.YtkjghoomdefbbaaGreatDoor
end
section
namespace Go.Proofs.YtkjghoomdefbbaaGreatDoor
open Go Go.RowKit Go.Shelf
set_option linter.unusedVariables false
set_option linter.unusedSimpArgs false
attribute [local irreducible] setN
attribute [local go_sem] Oper.semAt_some

/-- An element: a slot, its rows, and which blocks are the iterator's own. -/
abbrev Elb := En × Value × Value × Nat × Nat
def encBk (x : Elb) : Array Value := #[.int .i64 (bkE x.1 : Int), .agg #[.string ⟨x.1.key.toArray⟩, .int .i64 x.1.val.kind, .int .i64 x.1.val.time, .int .i64 x.1.val.node, .bool x.1.val.dead, .string ⟨x.1.val.text.toArray⟩, x.2.1, x.2.2.1, .int .u64 (x.1.val.flags.toNat : Int)]]
def KpB (x : Elb) (W W' : World) : Prop := W.heap.size ≤ W'.heap.size ∧ ∀ b, x.2.2.2.1 ≤ b → b < x.2.2.2.2 → (∃ o : Obj, W.heap[b]? = some o ∧ o.isCells = true) → W'.heap[b]? = W.heap[b]?
theorem kpB_t {x : Elb} {A B C : World} (h : KpB x A B) (k : KpB x B C) : KpB x A C :=
  ⟨Nat.le_trans h.1 k.1, fun b h1 h2 ⟨o, ho, hc⟩ => (k.2 b h1 h2 ⟨o, (h.2 b h1 h2 ⟨o, ho, hc⟩).trans ho, hc⟩).trans (h.2 b h1 h2 ⟨o, ho, hc⟩)⟩
theorem kpB_put {B0 : Nat} (x : Elb) (W : World) (l : Nat) (o o' : Obj) (_ : B0 ≤ l) (hl : W.heap[l]? = some o) (ho : o.isCells = false) (_ : o.isWalk = false) : KpB x W (W.putObj l o') := by
  refine ⟨by simp, fun b _ _ ⟨o2, h2, hc⟩ => World.putObj_heap_other (fun e => ?_)⟩
  subst e
  rw [hl] at h2
  injection h2 with h2
  rw [h2, hc] at ho
  cases ho
theorem kpB_below {x : Elb} {W W' : World} (h : Below W.heap.size W W') : KpB x W W' :=
  ⟨h.size, fun b _ _ ⟨o, ho, _⟩ => h.block b (Array.getElem?_eq_some_iff.1 ho).1⟩
theorem kpB_blk {x : Elb} {W W' : World} (h : W.heap.size ≤ W'.heap.size) (hb : ∀ b, x.2.2.2.1 ≤ b → b < x.2.2.2.2 → b < W.heap.size → W'.heap[b]? = W.heap[b]?) : KpB x W W' :=
  ⟨h, fun b h1 h2 ⟨o, ho, _⟩ => hb b h1 h2 (Array.getElem?_eq_some_iff.1 ho).1⟩
theorem kpB_cells {x : Elb} {W W' : World} (h : KpB x W W') {cs : List Value} {v : Value} (hc : isCells cs v W) (hn : NewB x.2.2.2.1 v) (hu : W.heap.size ≤ x.2.2.2.2) : isCells cs v W' := by
  rcases hc with h1 | h1 | ⟨b, off, cap, e, hlt, hcc⟩
  · exact .inl h1
  · exact .inr (.inl h1)
  · refine .inr (.inr ⟨b, off, cap, e, Nat.lt_of_lt_of_le hlt h.1, fun j y hy => ?_⟩)
    have hx := hcc j y hy
    have hob : ∃ o : Obj, W.heap[b]? = some o ∧ o.isCells = true := by
      obtain ⟨o, ho⟩ : ∃ o, W.heap[b]? = some o := ⟨_, Array.getElem?_eq_getElem hlt⟩
      exact ⟨o, ho, cell_cells hx ho⟩
    rw [World.cell?_of_block (a := ⟨b, off + j, none⟩) (h.2 b (hn b (by rw [e]; rfl)) (Nat.lt_of_lt_of_le hlt hu) hob)]
    exact hx
/-- What is known of an element at its yield. -/
structure PxB (L : List En) (B0 : Nat) (pre : List Elb) (x : Elb) (W : World) : Prop where
  at_ : L[pre.length]? = some x.1
  rp : isCells (x.1.val.plus.map intC) x.2.1 W
  rm : isCells (x.1.val.minus.map intC) x.2.2.1 W
  np : NewB x.2.2.2.1 x.2.1
  nm : NewB x.2.2.2.1 x.2.2.1
  up : x.1.val.plus.map intC = [] ∨ ∀ b, blk x.2.1 = some b → b < x.2.2.2.2
  um : x.1.val.minus.map intC = [] ∨ ∀ b, blk x.2.2.1 = some b → b < x.2.2.2.2
  one : ∀ y ∈ pre, y.2.2.2 = x.2.2.2
  lo : B0 ≤ x.2.2.2.1
  hi : x.2.2.2.2 ≤ W.heap.size
def SB (L : List En) (xs : List Elb) : Prop := xs.map (·.1) = L
def SpB (L : List En) (xs : List Elb) : Prop := ∃ k, xs.map (·.1) = L.take k
def PostB (L : List En) (J Jx : List Elb → World → Prop) (W' : World) : Prop := (∃ xs, SB L xs ∧ J xs W') ∨ (∃ pre, SpB L pre ∧ Jx pre W')
theorem abideB {J : List Elb → World → Prop} {B : Nat} (h : AbidesFrom B J) {p : List Elb} {W W' : World} (hJ : J p W) (hb : Below W.heap.size W W') : J p W' := h p W W' none hJ ⟨hb.os, hb.tape, hb.output, hb.size, fun k hk _ => hb.block k hk⟩ (fun r e => by cases e)
theorem chunk_len {A : Ar} (hF : FitA A) (a n : Int) : (chunkA A a n).length ≤ 1000 := by
  have := hF.slots
  unfold chunkA
  split
  · decide
  · split
    · simp only [List.length_take, List.length_drop]; omega
    · decide
theorem chunk_ok {A : Ar} {a n : Int} {e : En} (h : e ∈ chunkA A a n) : okE e = true := by
  unfold chunkA at h
  split at h
  · cases h
  · split at h
    · rename_i h2; exact (okA_iff.1 h2).ents e (List.mem_of_mem_drop (List.mem_of_mem_take h))
    · cases h
theorem okE_key {e : En} (h : okE e = true) : e.key.length ≤ 8 := by
  unfold okE at h
  simp only [Bool.and_eq_true, decide_eq_true_eq] at h
  exact h.1.2
theorem take_b {L : List En} {p : List Elb} {k : Nat} {E : En} (hp : p.map (·.1) = L.take k) (hE : L[k]? = some E) (ep em : Value) (m n : Nat) : (p ++ [(E, ep, em, m, n)]).map (·.1) = L.take (k + 1) := by
  rw [List.map_append, hp, List.take_add_one, hE]; rfl
set_option maxRecDepth 100000 in
set_option maxHeartbeats 2000000 in
theorem by1_in (m : Nat) (hm : 1 ≤ m) (Bs : Nat) (A : Ar) (vs vi : Value) (w0 : World) (HB : Blk w0 Bs [.int .i64 A.cap, vs, vi]) (hs : isEns A.slots vs w0) (hi : isCells (A.index.map intC) vi w0) (hF : FitA A) :
    SeqMade Fence.wide m Tryz.prog 70 #[.pointer (some ⟨Bs, 0, none⟩)] encBk (PxB (chunkA A 0 8) w0.heap.size) KpB (SB (chunkA A 0 8)) (SpB (chunkA A 0 8)) 1000 w0 := by
  intro l J Jx W hbW hJa hJxa hY h0
  have HBW := Kept.mk (HB.keep hbW)
  have k0 := HBW.out.cells.2 0 _ rfl
  have k1 := HBW.out.cells.2 1 _ rfl
  have k2 := HBW.out.cells.2 2 _ rfl
  have XA := Kept.mk (show isAr A (.agg #[.int .i64 A.cap, vs, vi]) W from stable_ar A _ _ _ ⟨vs, vi, rfl, hs, hi⟩ hbW)
  have HJ := Kept.mk h0
  have HN0 := Kept.mk hbW.size
  have HCH := Kept.mk (chunk_new A 0 8 _ _ XA.out hF)
  have HL := Kept.mk (show (∀ e ∈ chunkA A 0 8, okE e = true) ∧ (chunkA A 0 8).length ≤ 1000 from ⟨fun e he => chunk_ok he, chunk_len hF 0 8⟩)
  show CallsIn Fence.wide m Tryz.prog 70 #[.func (.yield l) #[] #[], .pointer (some ⟨Bs, 0, none⟩)] W fun e W' => (∃ v, e = .returned v) ∧ PostB (chunkA A 0 8) J Jx W'
  generalize chunkA A 0 8 = L at *
  clear hs hi HB hbW h0
  refine callsIn_of_wp Tryz.func70 rfl trivial ?_ rfl
  simp only [Tryz.ntmps70, List.size_toArray, List.length_cons, List.length_nil, Nat.reduceAdd, Nat.reduceSub, Array.replicate_succ, Array.replicate_zero, List.push_toArray, List.append_toArray, List.nil_append, List.cons_append]
  gi_wp2_with (refine ⟨trivial, (callsIn_wide.2 HCH.out).mono ?_⟩; rintro e W1 ⟨v', rfl, hen, hb1⟩; obtain ⟨ps, hpm, hO, hnw⟩ := hen; obtain ⟨va, vc, rfl⟩ := hO.len; have HPM := Kept.mk hpm; have HO := Kept.mk hO; have HNW := Kept.mk hnw; have HB1 := Kept.mk hb1; have HLN := Kept.mk (show ps.length = L.length by rw [← hpm, List.length_map]); have hlen : ps.length ≤ 1000 := (by have := HL.out.2; have := HLN.out; omega); generalize hN : ps.length = N at *; have HN := Kept.mk hN; clear hpm hO hnw hb1 hN k0 k1 k2 XA HBW HCH)
  generalize hX : ((zeroE, .slice none 0 0, .slice none 0 0, W.heap.size, W1.heap.size) : Elb) = X0
  have HX1 : Kept (X0.2.2.2 = (W.heap.size, W1.heap.size)) := ⟨by rw [← hX]⟩
  have HJ1 := Kept.mk (abideB hJa HJ.out HB1.out)
  clear hX HJ
  gi_loopw [8] (fun i wr => ∃ k : Nat, k ≤ N ∧ i = .int .i64 (k : Int) ∧ Kept (KpB X0 W1 wr) ∧ Kept (∃ p : List Elb, p.map (·.1) = L.take k ∧ (∀ y ∈ p, y.2.2.2 = X0.2.2.2) ∧ J p wr)) (fun i _ => N - (intOf i).toNat)
  case atStart => exact ⟨0, Nat.zero_le _, rfl, ⟨kpB_below (Below.refl _ _)⟩, ⟨[], rfl, (fun y hy => by cases hy), HJ1.out⟩⟩
  case round =>
    clear HJ1
    obtain ⟨k, hk, rfl, HK, HP⟩ := hrel
    by_cases hlt : k < N
    · have hlt' : (k : Int) < (N : Int) := by omega
      obtain ⟨s, cap, cur, ev, hg, hcs, hnc, hc, ht, hBs, hslt⟩ := HO.out.slot (q := k) (by rw [HN.out]; exact hlt)
      injection ev with ev1 ev2 ev3
      subst ev1 ev3
      clear ev2
      obtain ⟨⟨E, ep, em⟩, hq⟩ : ∃ q, ps[k]? = some q := ⟨_, List.getElem?_eq_getElem (by rw [HN.out]; exact hlt)⟩
      have hE : L[k]? = some E := by rw [← HPM.out, List.getElem?_map, hq]; rfl
      have hmem := List.mem_of_getElem? hq
      have hx1 : X0.2.2.2.1 = W.heap.size := congrArg Prod.fst HX1.out
      have hx2 : X0.2.2.2.2 = W1.heap.size := congrArg Prod.snd HX1.out
      have hsb : wr.heap[s]? = W1.heap[s]? := HK.out.2 s (by rw [hx1]; exact hBs) (by rw [hx2]; exact hslt) ⟨_, hg, rfl⟩
      have hc1 := cell_flat hg ht hq
      have hcell : ∀ (j : Nat) (x : Value), (enL E ep em)[j]? = some x → wr.cell? ⟨s, k * 9 + j, none⟩ = some x := fun j x hx => (World.cell?_of_block (a := ⟨s, k * 9 + j, none⟩) hsb).trans (hc1 j x hx)
      have hp0 := (HO.out.rows _ hmem).1
      have hm0 := (HO.out.rows _ hmem).2
      have hp := kpB_cells HK.out hp0 (by rw [hx1]; exact (HNW.out _ hmem).1) (by omega)
      have hmm := kpB_cells HK.out hm0 (by rw [hx1]; exact (HNW.out _ hmem).2) (by omega)
      obtain ⟨K1, K2, K3, K4, K5⟩ := enew wr E ep em hp hmm wr.heap.size rfl
      have HBE := Kept.mk ((Blk.new wr 48 [.string ⟨#[]⟩, .int .i64 0, .int .i64 0, .int .i64 0, .bool false, .string ⟨#[]⟩, .slice none 0 0, .slice none 0 0, .int .u64 0] wr.heap.size rfl).all_ (l := [.string ⟨E.key.toArray⟩, .int .i64 E.val.kind, .int .i64 E.val.time, .int .i64 E.val.node, .bool E.val.dead, .string ⟨E.val.text.toArray⟩, ep, em, .int .u64 (E.val.flags.toNat : Int)]) rfl)
      have HKL := Kept.mk (show E.key.length ≤ 1000 from by have := okE_key (HL.out.1 E (List.mem_of_getElem? hE)); omega)
      have HQE := Kept.mk hE
      have HPP := Kept.mk (And.intro (stable_cells _ _ _ _ hp K3.out) (stable_cells _ _ _ _ hmm K3.out))
      have HNN := Kept.mk (HNW.out _ hmem)
      have HUU := Kept.mk (And.intro (cells_lt hp0) (cells_lt hm0))
      have HK2 := Kept.mk (kpB_t HK.out (kpB_below K3.out))
      have kc0 : wr.cell? ⟨s, k * 9, none⟩ = _ := hcell 0 _ rfl
      have kc1 : wr.cell? ⟨s, k * 9 + 1, none⟩ = _ := hcell 1 _ rfl
      have kc2 : wr.cell? ⟨s, k * 9 + 2, none⟩ = _ := hcell 2 _ rfl
      have kc3 : wr.cell? ⟨s, k * 9 + 3, none⟩ = _ := hcell 3 _ rfl
      have kc4 : wr.cell? ⟨s, k * 9 + 4, none⟩ = _ := hcell 4 _ rfl
      have kc5 : wr.cell? ⟨s, k * 9 + 5, none⟩ = _ := hcell 5 _ rfl
      have kc6 : wr.cell? ⟨s, k * 9 + 6, none⟩ = _ := hcell 6 _ rfl
      have kc7 : wr.cell? ⟨s, k * 9 + 7, none⟩ = _ := hcell 7 _ rfl
      have kc8 : wr.cell? ⟨s, k * 9 + 8, none⟩ = _ := hcell 8 _ rfl
      clear hcell hc1 hp hmm hp0 hm0 hsb hg hcs hnc hc ht hBs hslt hq hE hmem hx1 hx2
      have HPW : Kept (∃ p : List Elb, p.map (·.1) = L.take k ∧ (∀ y ∈ p, y.2.2.2 = X0.2.2.2) ∧ J p (setN (wr.alloc (.cells #[.string ⟨#[]⟩, .int .i64 0, .int .i64 0, .int .i64 0, .bool false, .string ⟨#[]⟩, .slice none 0 0, .slice none 0 0, .int .u64 0] 48)) wr.heap.size 0 [.string ⟨E.key.toArray⟩, .int .i64 E.val.kind, .int .i64 E.val.time, .int .i64 E.val.node, .bool E.val.dead, .string ⟨E.val.text.toArray⟩, ep, em, .int .u64 (E.val.flags.toNat : Int)])) := ⟨by obtain ⟨p, e1, e2, e3⟩ := HP.out; exact ⟨p, e1, e2, abideB hJa e3 K3.out⟩⟩
      gi_wp2_with (have hz0 := K1; refine wpListIn_storeN (fun _ => trivial) 48 rfl (.tmp 4) (.tmp 11) rfl wr.heap.size [.string ⟨E.key.toArray⟩, .int .i64 E.val.kind, .int .i64 E.val.time, .int .i64 E.val.node, .bool E.val.dead, .string ⟨E.val.text.toArray⟩, ep, em, .int .u64 (E.val.flags.toNat : Int)] size_en rfl rfl K1.out rfl K2.out K5.out ?_; clear hz0 K1 K2 K5 kc0 kc1 kc2 kc3 kc4 kc5 kc6 kc7 kc8; generalize hWG : setN (wr.alloc (.cells #[.string ⟨#[]⟩, .int .i64 0, .int .i64 0, .int .i64 0, .bool false, .string ⟨#[]⟩, .slice none 0 0, .slice none 0 0, .int .u64 0] 48)) wr.heap.size 0 [.string ⟨E.key.toArray⟩, .int .i64 E.val.kind, .int .i64 E.val.time, .int .i64 E.val.node, .bool E.val.dead, .string ⟨E.val.text.toArray⟩, ep, em, .int .u64 (E.val.flags.toNat : Int)] = W2 at *)
      refine by_region _ ?hout _ _ rfl l wr.heap.size E ep em rfl rfl HBE.out HKL.out ?hC
      case hout => rintro ⟨a2, w2, hh2⟩; exact absurd (show ∃ v, Ending.outgrown = Ending.returned v from hh2.1) (by rintro ⟨v, hv⟩; cases hv)
      case hC =>
        intro y w hb
        obtain ⟨p, hp1, hp2, hpJ⟩ := HPW.out
        have hlp : p.length = k := by have := congrArg List.length hp1; rw [List.length_map, List.length_take] at this; have := HLN.out; omega
        have hx1 : X0.2.2.2.1 = W.heap.size := congrArg Prod.fst HX1.out
        have hx2 : X0.2.2.2.2 = W1.heap.size := congrArg Prod.snd HX1.out
        have hK3 := kpB_t HK2.out (kpB_below hb)
        refine (hY p (E, ep, em, X0.2.2.2.1, X0.2.2.2.2) w (abideB hJa hpJ hb) ⟨by rw [hlp]; exact HQE.out, stable_cells _ _ _ _ HPP.out.1 hb, stable_cells _ _ _ _ HPP.out.2 hb, by rw [hx1]; exact HNN.out.1, by rw [hx1]; exact HNN.out.2, by rw [hx2]; exact HUU.out.1, by rw [hx2]; exact HUU.out.2, hp2, by rw [hx1]; exact HN0.out, by rw [hx2]; exact hK3.1⟩ (by have := HL.out.2; have := HLN.out; omega)).mono ?_
        have hT := take_b (p := p) hp1 HQE.out ep em X0.2.2.2.1 X0.2.2.2.2
        have HT := Kept.mk (show (p ++ [(E, ep, em, X0.2.2.2.1, X0.2.2.2.2)]).map (·.1) = L.take (k + 1) ∧ (∀ y ∈ p ++ [(E, ep, em, X0.2.2.2.1, X0.2.2.2.2)], y.2.2.2 = X0.2.2.2) from ⟨hT, fun y hy => (List.mem_append.1 hy).elim (hp2 y) (fun hy => by rw [List.mem_singleton] at hy; subst hy; rfl)⟩)
        rintro e W3 (⟨rfl, hJ3, hk3⟩ | ⟨rfl, hJx3⟩)
        · have HK4 : Kept (KpB X0 W1 W3) := ⟨kpB_t hK3 hk3⟩
          have HP4 : Kept (∃ p : List Elb, p.map (·.1) = L.take (k + 1) ∧ (∀ y ∈ p, y.2.2.2 = X0.2.2.2) ∧ J p W3) := ⟨_, HT.out.1, HT.out.2, hJ3⟩
          clear hJ3 hk3 hK3 hb HPW hT HT hp1 hp2 hpJ HPP HNN HUU HK2 HK HP
          refine ⟨true, rfl, ?_⟩
          simp only [List.foldl_cons, List.foldl_nil]
          generalize y 12 = z12
          generalize y 13 = z13
          generalize y 14 = z14
          generalize y 15 = z15
          generalize y 16 = z16
          generalize y 17 = z17
          generalize y 18 = z18
          generalize y 19 = z19
          simp only [List.setIfInBounds_toArray, List.set_cons_succ, List.set_cons_zero]
          gi_wp2
          go_roundw
          case rel => exact ⟨k + 1, by omega, by go_num, HK4, HP4⟩
          case measure => simp [intOf]; omega
        · have HX : Kept (PostB L J Jx W3) := ⟨.inr ⟨_, ⟨k + 1, HT.out.1⟩, hJx3⟩⟩
          clear hJx3 hK3 hb HPW hT HT hp1 hp2 hpJ HPP HNN HUU HK2 HK HP
          refine ⟨false, rfl, ?_⟩
          simp only [List.foldl_cons, List.foldl_nil]
          generalize y 12 = z12
          generalize y 13 = z13
          generalize y 14 = z14
          generalize y 15 = z15
          generalize y 16 = z16
          generalize y 17 = z17
          generalize y 18 = z18
          generalize y 19 = z19
          simp only [List.setIfInBounds_toArray, List.set_cons_succ, List.set_cons_zero]
          gi_wp2
          refine bodyPost_ret (results_none rfl _ _ _) rfl ?_
          exact ⟨⟨_, rfl⟩, HX.out⟩
    · have hlt' : ¬ (k : Int) < (N : Int) := by omega
      obtain rfl : k = N := by omega
      have HX : Kept (PostB L J Jx wr) := ⟨by obtain ⟨p, e1, e2, e3⟩ := HP.out; exact .inl ⟨p, by unfold SB; rw [e1, HLN.out]; exact List.take_of_length_le (Nat.le_refl _), e3⟩⟩
      gi_wp2
      go_end0
      exact ⟨⟨_, rfl⟩, HX.out⟩
theorem by_any (A : Ar) (v : Value) (w : World) (vs vi : Value) (hv : v = .agg #[.int .i64 A.cap, vs, vi]) : Calls Tryz.prog 42 #[v] w fun e w' => e = .returned (.func (.func 70) #[] #[.pointer (some ⟨w.heap.size, 0, none⟩)]) ∧ w' = w.alloc (.cells #[.int .i64 A.cap, vs, vi] 25) := by
  subst hv
  go_enter Tryz.func42, Tryz.ntmps42
  go_wp2
  go_ret
  exact ⟨rfl, rfl⟩
end Go.Proofs.YtkjghoomdefbbaaGreatDoor
end
section
namespace Go.Proofs.YtkjghoomdefbbaaGreatDoor
open Go.RowKit
set_option linter.unusedVariables false
set_option linter.unusedSimpArgs false

def putT (l : List Int) : List UInt8 := l.flatMap (fun x => putS x 4)
theorem putS4_len (x : Int) : (putS x 4).length ≤ 4 := by
  unfold putS
  split
  · rw [length_putL]; decide
  · decide
theorem putT_len : ∀ l : List Int, (putT l).length ≤ 4 * l.length
  | [] => by decide
  | x :: r => by
    have h1 := putS4_len x
    have h2 := putT_len r
    have e : putT (x :: r) = putS x 4 ++ putT r := rfl
    rw [e, List.length_append, List.length_cons]
    omega
/-- Sums as bytes. -/
def putQ (l : List Int) : List UInt8 := if (l.all fun x => okPut x 4) = true then putT l else []
def putQE (l : List Int) : Int := if (l.all fun x => okPut x 4) = true then 0 else 1
theorem index_0 (a b c d : Int) (w : World) : (Instr.index 26 (.agg #[.int .i64 a, .int .i64 b, .int .i64 c, .int .i64 d]) (.int .i64 0)).run Tryz.prog w = .ok (.int .i64 a) w := by kernel_rfl
theorem index_1 (a b c d : Int) (w : World) : (Instr.index 26 (.agg #[.int .i64 a, .int .i64 b, .int .i64 c, .int .i64 d]) (.int .i64 1)).run Tryz.prog w = .ok (.int .i64 b) w := by kernel_rfl
theorem index_2 (a b c d : Int) (w : World) : (Instr.index 26 (.agg #[.int .i64 a, .int .i64 b, .int .i64 c, .int .i64 d]) (.int .i64 2)).run Tryz.prog w = .ok (.int .i64 c) w := by kernel_rfl
theorem index_3 (a b c d : Int) (w : World) : (Instr.index 26 (.agg #[.int .i64 a, .int .i64 b, .int .i64 c, .int .i64 d]) (.int .i64 3)).run Tryz.prog w = .ok (.int .i64 d) w := by kernel_rfl
set_option maxRecDepth 100000 in
set_option maxHeartbeats 2000000 in
theorem dgput_any (a b c d : Int) (w : World) (h : ∀ x ∈ [a, b, c, d], x ≤ 9223372036854775807) : Calls Tryz.prog 20 #[(.agg #[.int .i64 a, .int .i64 b, .int .i64 c, .int .i64 d])] w fun e w' => e = .returned (.tuple #[.string ⟨(putQ [a, b, c, d]).toArray⟩, .int .i64 (putQE [a, b, c, d])]) ∧ Below w.heap.size w w' := by
  have hb0 : Below w.heap.size w (w.alloc (.cells #[.int .i64 a, .int .i64 b, .int .i64 c, .int .i64 d] 26)) := (Below.refl _ w).alloc (Nat.le_refl _) _
  have B := Lib.hid hb0
  clear hb0
  go_enter Tryz.func20, Tryz.ntmps20
  go_wp2
  generalize (w.alloc (.cells #[.int .i64 a, .int .i64 b, .int .i64 c, .int .i64 d] 26)) = W0 at *
  go_loopw [4, 10] (fun s i wr => ∃ k : Nat, k ≤ 4 ∧ i = .int .i64 (k : Int) ∧ s = .string ⟨(putT ([a, b, c, d].take k)).toArray⟩ ∧ Hid (([a, b, c, d].take k).all (fun x => okPut x 4) = true) ∧ Hid (Below w.heap.size w wr)) (fun _ i _ => 4 - (intOf i).toNat)
  case atStart => exact ⟨0, by omega, rfl, rfl, Lib.hid rfl, B⟩
  case round =>
    clear B
    obtain ⟨k, hk, rfl, rfl, A, B⟩ := hrel
    by_cases hlt : k < 4
    · have h4 : k = 0 ∨ k = 1 ∨ k = 2 ∨ k = 3 := by omega
      rcases h4 with rfl | rfl | rfl | rfl
      · have HT := Lib.hid (show putT ([a]) = putT ([]) ++ putS a 4 by simp [putT])
        have hx9 := h a (by simp)
        have hp := putS4_len a
        have hq := putT_len ([])
        rw [show (List.take 0 [a, b, c, d] : List Int) = [] from rfl] at A ⊢
        have hq2 : ([] : List Int).length = 0 := rfl
        generalize putT ([]) = q at *
        have hcat := fun W => run_string_add_lists (P := Tryz.prog) W q (putS a 4) (by omega) (by omega)
        have hix := index_0 a b c d
        cases hx : okPut a 4 with
        | true =>
          have e1 : putE a 4 = 0 := by simp [putE, hx]
          go_wp2_with fail
          refine (put_any a 4 _ hx9).mono ?_
          rintro e w' ⟨rfl, hB⟩
          rw [e1]
          have HB2 := Lib.hid (B.out.trans (hB.mono B.out.size))
          clear hB
          generalize putS a 4 = p at *
          go_wp2
          go_roundw
          case rel => exact ⟨1, by omega, rfl, congrArg (fun l : List UInt8 => Value.string ⟨l.toArray⟩) HT.out.symm, Lib.hid (by have := A.out; simp_all), HB2⟩
          case measure => simp [intOf]
        | false =>
          have e1 : putE a 4 = 1 := by simp [putE, hx]
          have hno : ([a, b, c, d].all fun x => okPut x 4) = false := by simp [hx]
          go_wp2_with fail
          refine (put_any a 4 _ hx9).mono ?_
          rintro e w' ⟨rfl, hB⟩
          rw [e1]
          have HB2 := Lib.hid (B.out.trans (hB.mono B.out.size))
          clear hB hcat hp
          generalize putS a 4 = p at *
          go_wp2
          go_ret2
          exact ⟨by unfold putQ putQE; rw [hno]; rfl, HB2.out⟩
      · have HT := Lib.hid (show putT ([a, b]) = putT ([a]) ++ putS b 4 by simp [putT])
        have hx9 := h b (by simp)
        have hp := putS4_len b
        have hq := putT_len ([a])
        rw [show (List.take 1 [a, b, c, d] : List Int) = [a] from rfl] at A ⊢
        have hq2 : ([a] : List Int).length = 1 := rfl
        generalize putT ([a]) = q at *
        have hcat := fun W => run_string_add_lists (P := Tryz.prog) W q (putS b 4) (by omega) (by omega)
        have hix := index_1 a b c d
        cases hx : okPut b 4 with
        | true =>
          have e1 : putE b 4 = 0 := by simp [putE, hx]
          go_wp2_with fail
          refine (put_any b 4 _ hx9).mono ?_
          rintro e w' ⟨rfl, hB⟩
          rw [e1]
          have HB2 := Lib.hid (B.out.trans (hB.mono B.out.size))
          clear hB
          generalize putS b 4 = p at *
          go_wp2
          go_roundw
          case rel => exact ⟨2, by omega, rfl, congrArg (fun l : List UInt8 => Value.string ⟨l.toArray⟩) HT.out.symm, Lib.hid (by have := A.out; simp_all), HB2⟩
          case measure => simp [intOf]
        | false =>
          have e1 : putE b 4 = 1 := by simp [putE, hx]
          have hno : ([a, b, c, d].all fun x => okPut x 4) = false := by simp [hx]
          go_wp2_with fail
          refine (put_any b 4 _ hx9).mono ?_
          rintro e w' ⟨rfl, hB⟩
          rw [e1]
          have HB2 := Lib.hid (B.out.trans (hB.mono B.out.size))
          clear hB hcat hp
          generalize putS b 4 = p at *
          go_wp2
          go_ret2
          exact ⟨by unfold putQ putQE; rw [hno]; rfl, HB2.out⟩
      · have HT := Lib.hid (show putT ([a, b, c]) = putT ([a, b]) ++ putS c 4 by simp [putT])
        have hx9 := h c (by simp)
        have hp := putS4_len c
        have hq := putT_len ([a, b])
        rw [show (List.take 2 [a, b, c, d] : List Int) = [a, b] from rfl] at A ⊢
        have hq2 : ([a, b] : List Int).length = 2 := rfl
        generalize putT ([a, b]) = q at *
        have hcat := fun W => run_string_add_lists (P := Tryz.prog) W q (putS c 4) (by omega) (by omega)
        have hix := index_2 a b c d
        cases hx : okPut c 4 with
        | true =>
          have e1 : putE c 4 = 0 := by simp [putE, hx]
          go_wp2_with fail
          refine (put_any c 4 _ hx9).mono ?_
          rintro e w' ⟨rfl, hB⟩
          rw [e1]
          have HB2 := Lib.hid (B.out.trans (hB.mono B.out.size))
          clear hB
          generalize putS c 4 = p at *
          go_wp2
          go_roundw
          case rel => exact ⟨3, by omega, rfl, congrArg (fun l : List UInt8 => Value.string ⟨l.toArray⟩) HT.out.symm, Lib.hid (by have := A.out; simp_all), HB2⟩
          case measure => simp [intOf]
        | false =>
          have e1 : putE c 4 = 1 := by simp [putE, hx]
          have hno : ([a, b, c, d].all fun x => okPut x 4) = false := by simp [hx]
          go_wp2_with fail
          refine (put_any c 4 _ hx9).mono ?_
          rintro e w' ⟨rfl, hB⟩
          rw [e1]
          have HB2 := Lib.hid (B.out.trans (hB.mono B.out.size))
          clear hB hcat hp
          generalize putS c 4 = p at *
          go_wp2
          go_ret2
          exact ⟨by unfold putQ putQE; rw [hno]; rfl, HB2.out⟩
      · have HT := Lib.hid (show putT ([a, b, c, d]) = putT ([a, b, c]) ++ putS d 4 by simp [putT])
        have hx9 := h d (by simp)
        have hp := putS4_len d
        have hq := putT_len ([a, b, c])
        rw [show (List.take 3 [a, b, c, d] : List Int) = [a, b, c] from rfl] at A ⊢
        have hq2 : ([a, b, c] : List Int).length = 3 := rfl
        generalize putT ([a, b, c]) = q at *
        have hcat := fun W => run_string_add_lists (P := Tryz.prog) W q (putS d 4) (by omega) (by omega)
        have hix := index_3 a b c d
        cases hx : okPut d 4 with
        | true =>
          have e1 : putE d 4 = 0 := by simp [putE, hx]
          go_wp2_with fail
          refine (put_any d 4 _ hx9).mono ?_
          rintro e w' ⟨rfl, hB⟩
          rw [e1]
          have HB2 := Lib.hid (B.out.trans (hB.mono B.out.size))
          clear hB
          generalize putS d 4 = p at *
          go_wp2
          go_roundw
          case rel => exact ⟨4, by omega, rfl, congrArg (fun l : List UInt8 => Value.string ⟨l.toArray⟩) HT.out.symm, Lib.hid (by have := A.out; simp_all), HB2⟩
          case measure => simp [intOf]
        | false =>
          have e1 : putE d 4 = 1 := by simp [putE, hx]
          have hno : ([a, b, c, d].all fun x => okPut x 4) = false := by simp [hx]
          go_wp2_with fail
          refine (put_any d 4 _ hx9).mono ?_
          rintro e w' ⟨rfl, hB⟩
          rw [e1]
          have HB2 := Lib.hid (B.out.trans (hB.mono B.out.size))
          clear hB hcat hp
          generalize putS d 4 = p at *
          go_wp2
          go_ret2
          exact ⟨by unfold putQ putQE; rw [hno]; rfl, HB2.out⟩
    · have hk4 : k = 4 := by omega
      subst hk4
      have hall := A.out
      rw [show [a, b, c, d].take 4 = [a, b, c, d] from rfl] at hall ⊢
      go_wp2
      go_ret2
      exact ⟨by unfold putQ putQE; rw [hall]; rfl, B.out⟩
end Go.Proofs.YtkjghoomdefbbaaGreatDoor
end
