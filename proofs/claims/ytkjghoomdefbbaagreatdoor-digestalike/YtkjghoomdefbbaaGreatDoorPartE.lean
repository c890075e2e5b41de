/- Joined texts: contracts of the program's functions, and the mathematics that they lean on. -/
import Derived.Test.YtkjghoomdefbbaaGreatDoorPartD
import Derived.RangeFuncNested
import Derived.RangeFuncBound
import Derived.RangeFuncFrom
import Derived.Laws.AppendOwnNone
section
namespace Go.Proofs.YtkjghoomdefbbaaGreatDoor
open Go.RowKit
set_option linter.unusedVariables false
set_option linter.unusedSimpArgs false
attribute [local irreducible] setN

theorem search_val (A : Ar) (Y : En) (P : Nat) (Z : Bool) (v u : Value) (w : World) (hok : OkA A) (hv : isAr A v w) (hu : isEn Y u w) (hP : posN (ordA A) Y = P) (hZ : hitB (ordA A) Y = Z) : Calls Tryz.prog 54 #[v, u] w fun e w' => ∃ x, e = .returned x ∧ isVal (.tuple #[.int .i64 (P : Int), .bool Z]) x w' ∧ Below w.heap.size w w' :=
  (search_any A Y v u w hok hv hu).mono (by rintro e w' ⟨rfl, h⟩; exact ⟨_, rfl, by rw [hP, hZ]; rfl, h⟩)
noncomputable def jn3Ops : Array Oper := regionOf Tryz.f48 3
set_option maxRecDepth 100000 in
set_option maxHeartbeats 2000000 in
theorem jn3_region (Q : Exit → Act → World → Prop) (a0 : Act) (w0 : World) (hsz : a0.tmps.size = 83) (A : Ar) (g h P : Nat) (Z : Bool) (Y : En) (vs vi yp ym : Value) (e0 : a0.tmps.getD 0 undef = .pointer (some ⟨g, 0, none⟩)) (e3 : a0.tmps.getD 3 undef = .pointer (some ⟨h, 0, none⟩)) (HG : Blk w0 g [.int .i64 A.cap, vs, vi]) (HE : Blk w0 h [.string ⟨Y.key.toArray⟩, .int .i64 Y.val.kind, .int .i64 Y.val.time, .int .i64 Y.val.node, .bool Y.val.dead, .string ⟨Y.val.text.toArray⟩, yp, ym, .int .u64 (Y.val.flags.toNat : Int)]) (hok : OkA A) (hA : isAr A (.agg #[.int .i64 A.cap, vs, vi]) w0) (hyp : isCells (Y.val.plus.map intC) yp w0) (hym : isCells (Y.val.minus.map intC) ym w0) (hP : posN (ordA A) Y = P) (hZ : hitB (ordA A) Y = Z)
    (hQ : ∀ (g : Nat → Value) (w : World), g 6 = .int .i64 (P : Int) → g 7 = .bool Z → Below w0.heap.size w0 w → Q .normal { tmps := [20, 21, 22, 23, 24, 25, 19, 26, 27, 6, 7].foldl (fun t s => t.setIfInBounds s (g s)) a0.tmps, defers := a0.defers } w) :
    (Code.region 3 jn3Ops true).wp Tryz.prog Q a0 w0 := by
  refine wp_region_flow mixed (by rw [hsz]; kernel_rfl) ?_
  rw [show jn3Ops.size = 11 by kernel_rfl]
  refine ⟨isVal (.pointer (some ⟨g, 0, none⟩)), step_move (.tmp 0) (by kernel_rfl) (wanted_none (by kernel_rfl)) (stable_val _) (knows_old 0 (.pointer (some ⟨g, 0, none⟩)) (by kernel_rfl) e0), ?_⟩
  refine ⟨isVal (.pointer (some ⟨g, 0, none⟩)), step_nilA (.tmp 20) ⟨g, 0, none⟩ (by kernel_rfl) (wanted_none (by kernel_rfl)) (knows_new (V := isVal (.pointer (some ⟨g, 0, none⟩))) 20 0 (by kernel_rfl) (by kernel_rfl) (by kernel_rfl)), ?_⟩
  refine ⟨isVal (.pointer (some ⟨g, 0, none⟩)), step_field 78 (.tmp 21) 0 ⟨g, 0, none⟩ ⟨g, 0, none⟩ (by kernel_rfl) (wanted_none (by kernel_rfl)) (knows_new (V := isVal (.pointer (some ⟨g, 0, none⟩))) 21 1 (by kernel_rfl) (by kernel_rfl) (by kernel_rfl)) (f_ch_0_0 (g)), ?_⟩
  refine ⟨isVal (.agg #[.int .i64 A.cap, vs, vi]), step_loadA 25 (.tmp 22) (g) (0) [.int .i64 A.cap, vs, vi] (by kernel_rfl) (wanted_none (by kernel_rfl)) (knows_new (V := isVal (.pointer (some ⟨g, 0, none⟩))) 22 2 (by kernel_rfl) (by kernel_rfl) (by kernel_rfl)) size_ar agg_ar (⟨HG.lt, fun j x hx => by rw [Nat.zero_add]; exact HG.cells.2 j x hx⟩), ?_⟩
  refine ⟨isVal (.agg #[.string ⟨Y.key.toArray⟩, .int .i64 Y.val.kind, .int .i64 Y.val.time, .int .i64 Y.val.node, .bool Y.val.dead, .string ⟨Y.val.text.toArray⟩, yp, ym, .int .u64 (Y.val.flags.toNat : Int)]), step_loadA 48 (.tmp 3) (h) (0) [.string ⟨Y.key.toArray⟩, .int .i64 Y.val.kind, .int .i64 Y.val.time, .int .i64 Y.val.node, .bool Y.val.dead, .string ⟨Y.val.text.toArray⟩, yp, ym, .int .u64 (Y.val.flags.toNat : Int)] (by kernel_rfl) (wanted_none (by kernel_rfl)) (knows_old 3 (.pointer (some ⟨h, 0, none⟩)) (by kernel_rfl) e3) size_en agg_en (⟨HE.lt, fun j x hx => by rw [Nat.zero_add]; exact HE.cells.2 j x hx⟩), ?_⟩
  refine ⟨isVal (.tuple #[.int .i64 (P : Int), .bool Z]), step_call 54 #[.tmp 23, .tmp 24] #[25, 48] #[.agg #[.int .i64 A.cap, vs, vi], .agg #[.string ⟨Y.key.toArray⟩, .int .i64 Y.val.kind, .int .i64 Y.val.time, .int .i64 Y.val.node, .bool Y.val.dead, .string ⟨Y.val.text.toArray⟩, yp, ym, .int .u64 (Y.val.flags.toNat : Int)]] (by kernel_rfl) (wanted_none (by kernel_rfl)) (stable_val _) (args2 (.tmp 23) (.tmp 24) (.agg #[.int .i64 A.cap, vs, vi]) (.agg #[.string ⟨Y.key.toArray⟩, .int .i64 Y.val.kind, .int .i64 Y.val.time, .int .i64 Y.val.node, .bool Y.val.dead, .string ⟨Y.val.text.toArray⟩, yp, ym, .int .u64 (Y.val.flags.toNat : Int)]) (knows_new (V := isVal (.agg #[.int .i64 A.cap, vs, vi])) 23 3 (by kernel_rfl) (by kernel_rfl) (by kernel_rfl)) (knows_new (V := isVal (.agg #[.string ⟨Y.key.toArray⟩, .int .i64 Y.val.kind, .int .i64 Y.val.time, .int .i64 Y.val.node, .bool Y.val.dead, .string ⟨Y.val.text.toArray⟩, yp, ym, .int .u64 (Y.val.flags.toNat : Int)])) 24 4 (by kernel_rfl) (by kernel_rfl) (by kernel_rfl))) (enters_of Tryz.func54 (by kernel_rfl) rfl) (by intro w' hb; exact search_val A Y P Z _ _ w' hok (stable_ar _ _ _ _ hA hb) (en_mk hyp hym hb) hP hZ), ?_⟩
  refine ⟨isVal (.tuple #[.int .i64 (P : Int), .bool Z]), step_move (.tmp 25) (by kernel_rfl) (wanted_none (by kernel_rfl)) (stable_val _) (knows_new (V := isVal (.tuple #[.int .i64 (P : Int), .bool Z])) 25 5 (by kernel_rfl) (by kernel_rfl) (by kernel_rfl)), ?_⟩
  refine ⟨isVal (.int .i64 (P : Int)), step_extract (.tmp 19) 0 _ (.int .i64 (P : Int)) (by kernel_rfl) (wanted_none (by kernel_rfl)) (knows_new (V := isVal (.tuple #[.int .i64 (P : Int), .bool Z])) 19 6 (by kernel_rfl) (by kernel_rfl) (by kernel_rfl)) rfl, ?_⟩
  refine ⟨isVal (.bool Z), step_extract (.tmp 19) 1 _ (.bool Z) (by kernel_rfl) (wanted_none (by kernel_rfl)) (knows_new (V := isVal (.tuple #[.int .i64 (P : Int), .bool Z])) 19 6 (by kernel_rfl) (by kernel_rfl) (by kernel_rfl)) rfl, ?_⟩
  refine ⟨isVal (.int .i64 (P : Int)), step_assign (.tmp 26) (by kernel_rfl) (wanted_none (by kernel_rfl)) (stable_val _) (knows_new (V := isVal (.int .i64 (P : Int))) 26 7 (by kernel_rfl) (by kernel_rfl) (by kernel_rfl)), ?_⟩
  refine ⟨isVal (.bool Z), step_assign (.tmp 27) (by kernel_rfl) (wanted_none (by kernel_rfl)) (stable_val _) (knows_new (V := isVal (.bool Z)) 27 8 (by kernel_rfl) (by kernel_rfl) (by kernel_rfl)), ?_⟩
  intro a w hkp hb hd
  rw [kept_of hkp [some 20, some 21, some 22, some 23, some 24, some 25, some 19, some 26, some 27, some 6, some 7] [20, 21, 22, 23, 24, 25, 19, 26, 27, 6, 7] (by kernel_rfl) (by decide)]
  have d6 := fdone_of (hd 9 (by rw [show jn3Ops.size = 11 by kernel_rfl]; decide)) (t := 6) (V := isVal (.int .i64 (P : Int))) (by kernel_rfl) (by kernel_rfl)
  have d7 := fdone_of (hd 10 (by rw [show jn3Ops.size = 11 by kernel_rfl]; decide)) (t := 7) (V := isVal (.bool Z)) (by kernel_rfl) (by kernel_rfl)
  exact hQ (fun s => a.tmps.getD s undef) w d6 d7 hb

theorem put_kept3 {Q : Exit → Act → World → Prop} {a : Act} {d1 d2 d3 : Tmp} {v1 v2 v3 : Value} {t : Array Value} {ds : List Deferred} {w : World} (e : a = { tmps := t, defers := ds }) (h : Q .normal { tmps := ((t.setIfInBounds d1 v1).setIfInBounds d2 v2).setIfInBounds d3 v3, defers := ds } w) : Q .normal (((a.put (some d1) v1).put (some d2) v2).put (some d3) v3) w := by
  subst e; exact h
noncomputable def jn5Ops : Array Oper := regionOf Tryz.f48 5
set_option maxRecDepth 100000 in
set_option maxHeartbeats 2000000 in
theorem jn5_region (Q : Exit → Act → World → Prop) (a0 : Act) (w0 : World) (hsz : a0.tmps.size = 83) (A : Ar) (g h P q bi oi ci n : Nat) (Y : En) (vs yp ym : Value) (e0 : a0.tmps.getD 0 undef = .pointer (some ⟨g, 0, none⟩)) (e3 : a0.tmps.getD 3 undef = .pointer (some ⟨h, 0, none⟩)) (e6 : a0.tmps.getD 6 undef = .int .i64 (P : Int)) (HG : Blk w0 g [.int .i64 A.cap, vs, .slice (some ⟨bi, oi, none⟩) n ci]) (HE : Blk w0 h [.string ⟨Y.key.toArray⟩, .int .i64 Y.val.kind, .int .i64 Y.val.time, .int .i64 Y.val.node, .bool Y.val.dead, .string ⟨Y.val.text.toArray⟩, yp, ym, .int .u64 (Y.val.flags.toNat : Int)]) (hPn : P < n) (hci : w0.cell? ⟨bi, oi + P, none⟩ = some (.int .i64 (q : Int))) (hbi : bi < w0.heap.size)
    (hC : ∀ (y : Nat → Value) (w : World), Below w0.heap.size w0 w → Calls Tryz.prog 76 #[.pointer (some ⟨g, 0, none⟩), .int .i64 (q : Int), .agg #[.string ⟨Y.key.toArray⟩, .int .i64 Y.val.kind, .int .i64 Y.val.time, .int .i64 Y.val.node, .bool Y.val.dead, .string ⟨Y.val.text.toArray⟩, yp, ym, .int .u64 (Y.val.flags.toNat : Int)]] w fun e w' => ∃ z, e = .returned (.bool z) ∧ Q .normal { tmps := ((([29, 30, 31, 32, 33, 34, 35, 36, 37, 38, 39, 4, 5].foldl (fun t s => t.setIfInBounds s (y s)) a0.tmps).setIfInBounds 39 (.bool z)).setIfInBounds 4 (.bool z)).setIfInBounds 5 (.int .i64 0), defers := a0.defers } w') :
    (Code.region 5 jn5Ops true).wp Tryz.prog Q a0 w0 := by
  refine wp_region_cov 10 mixed (by rw [hsz]; kernel_rfl) (by kernel_rfl) ?_
  rw [show jn5Ops.size - 10 = 3 by kernel_rfl]
  refine ⟨isVal (.pointer (some ⟨g, 0, none⟩)), step_move (.tmp 0) (by kernel_rfl) (wanted_none (by kernel_rfl)) (stable_val _) (knows_old 0 (.pointer (some ⟨g, 0, none⟩)) (by kernel_rfl) e0), ?_⟩
  refine ⟨isVal (.pointer (some ⟨g, 0, none⟩)), step_move (.tmp 0) (by kernel_rfl) (wanted_none (by kernel_rfl)) (stable_val _) (knows_old 0 (.pointer (some ⟨g, 0, none⟩)) (by kernel_rfl) e0), ?_⟩
  refine ⟨isVal (.pointer (some ⟨g, 0, none⟩)), step_nilA (.tmp 30) ⟨g, 0, none⟩ (by kernel_rfl) (wanted_none (by kernel_rfl)) (knows_new (V := isVal (.pointer (some ⟨g, 0, none⟩))) 30 1 (by kernel_rfl) (by kernel_rfl) (by kernel_rfl)), ?_⟩
  refine ⟨isVal (.pointer (some ⟨g, 0, none⟩)), step_field 78 (.tmp 31) 0 ⟨g, 0, none⟩ ⟨g, 0, none⟩ (by kernel_rfl) (wanted_none (by kernel_rfl)) (knows_new (V := isVal (.pointer (some ⟨g, 0, none⟩))) 31 2 (by kernel_rfl) (by kernel_rfl) (by kernel_rfl)) (f_ch_0_0 (g)), ?_⟩
  refine ⟨isVal (.pointer (some ⟨g, 2, none⟩)), step_field 25 (.tmp 32) 2 ⟨g, 0, none⟩ ⟨g, 2, none⟩ (by kernel_rfl) (wanted_none (by kernel_rfl)) (knows_new (V := isVal (.pointer (some ⟨g, 0, none⟩))) 32 3 (by kernel_rfl) (by kernel_rfl) (by kernel_rfl)) (f_ar_0_2 (g)), ?_⟩
  refine ⟨isVal (.slice (some ⟨bi, oi, none⟩) n ci), step_read 23 (.tmp 33) ⟨g, 2, none⟩ (.slice (some ⟨bi, oi, none⟩) n ci) (by kernel_rfl) (wanted_none (by kernel_rfl)) (knows_new (V := isVal (.pointer (some ⟨g, 2, none⟩))) 33 4 (by kernel_rfl) (by kernel_rfl) (by kernel_rfl)) (HG.cells.2 2 _ rfl) (HG.lt) (agg_noI), ?_⟩
  refine ⟨isVal (.int .i64 (P : Int)), step_move (.tmp 6) (by kernel_rfl) (wanted_none (by kernel_rfl)) (stable_val _) (knows_old 6 (.int .i64 (P : Int)) (by kernel_rfl) e6), ?_⟩
  refine ⟨isVal (.pointer (some ⟨bi, oi + P, none⟩)), step_place 23 3 (.tmp 34) (.tmp 35) bi (oi) (n) (ci) (P) (by kernel_rfl) (wanted_none (by kernel_rfl)) (knows_new (V := isVal (.slice (some ⟨bi, oi, none⟩) n ci)) 34 5 (by kernel_rfl) (by kernel_rfl) (by kernel_rfl)) (knows_new (V := isVal (.int .i64 (P : Int))) 35 6 (by kernel_rfl) (by kernel_rfl) (by kernel_rfl)) Tryz.underlying23 (by kernel_rfl) (hPn), ?_⟩
  refine ⟨isVal (.int .i64 (q : Int)), step_read 3 (.tmp 36) ⟨bi, oi + P, none⟩ (.int .i64 (q : Int)) (by kernel_rfl) (wanted_none (by kernel_rfl)) (knows_new (V := isVal (.pointer (some ⟨bi, oi + P, none⟩))) 36 7 (by kernel_rfl) (by kernel_rfl) (by kernel_rfl)) (hci) (hbi) (agg_noZ), ?_⟩
  refine ⟨isVal (.agg #[.string ⟨Y.key.toArray⟩, .int .i64 Y.val.kind, .int .i64 Y.val.time, .int .i64 Y.val.node, .bool Y.val.dead, .string ⟨Y.val.text.toArray⟩, yp, ym, .int .u64 (Y.val.flags.toNat : Int)]), step_loadA 48 (.tmp 3) (h) (0) [.string ⟨Y.key.toArray⟩, .int .i64 Y.val.kind, .int .i64 Y.val.time, .int .i64 Y.val.node, .bool Y.val.dead, .string ⟨Y.val.text.toArray⟩, yp, ym, .int .u64 (Y.val.flags.toNat : Int)] (by kernel_rfl) (wanted_none (by kernel_rfl)) (knows_old 3 (.pointer (some ⟨h, 0, none⟩)) (by kernel_rfl) e3) size_en agg_en (⟨HE.lt, fun j x hx => by rw [Nat.zero_add]; exact HE.cells.2 j x hx⟩), ?_⟩
  intro a w hkp hb hd
  have d29 : a.eval (.tmp 29) = _ := fdone_of (hd 0 (by decide)) (t := 29) (V := isVal (.pointer (some ⟨g, 0, none⟩))) (by kernel_rfl) (by kernel_rfl)
  have d37 : a.eval (.tmp 37) = _ := fdone_of (hd 8 (by decide)) (t := 37) (V := isVal (.int .i64 (q : Int))) (by kernel_rfl) (by kernel_rfl)
  have d38 : a.eval (.tmp 38) = _ := fdone_of (hd 9 (by decide)) (t := 38) (V := isVal (.agg #[.string ⟨Y.key.toArray⟩, .int .i64 Y.val.kind, .int .i64 Y.val.time, .int .i64 Y.val.node, .bool Y.val.dead, .string ⟨Y.val.text.toArray⟩, yp, ym, .int .u64 (Y.val.flags.toNat : Int)])) (by kernel_rfl) (by kernel_rfl)
  refine tail_call 76 #[.tmp 29, .tmp 37, .tmp 38] #[73, 3, 48] #[.pointer (some ⟨g, 0, none⟩), .int .i64 (q : Int), .agg #[.string ⟨Y.key.toArray⟩, .int .i64 Y.val.kind, .int .i64 Y.val.time, .int .i64 Y.val.node, .bool Y.val.dead, .string ⟨Y.val.text.toArray⟩, yp, ym, .int .u64 (Y.val.flags.toNat : Int)]] 39 (by kernel_rfl) (by kernel_rfl) (by simp only [List.map_toArray, List.map_cons, List.map_nil, d29, d37, d38]) (enters_of Tryz.func76 (by kernel_rfl) rfl) ?_
  obtain ⟨y, ey⟩ := kept_ex hkp [some 29, some 30, some 31, some 32, some 33, some 34, some 35, some 36, some 37, some 38, some 39, some 4, some 5] [29, 30, 31, 32, 33, 34, 35, 36, 37, 38, 39, 4, 5] (by kernel_rfl) (by decide)
  have hs : a.tmps.size = 83 := hkp.2.1.trans hsz
  refine (hC y w hb).mono ?_
  rintro e w' ⟨z, rfl, hq⟩
  refine ⟨_, rfl, ?_⟩
  refine tail_assignA (.tmp 39) 4 (.bool z) (by kernel_rfl) (by kernel_rfl) (getD_put_self (by rw [hs]; decide)) ?_
  refine tail_assignA (.const (.int .i64 0)) 5 (.int .i64 0) (by kernel_rfl) (by kernel_rfl) rfl ?_
  exact put_kept3 ey hq
/-- A slice of just this number, in a new block of its own. -/
def isLit1 (N : Nat) (x : Int) : VP := fun v w => ∃ b, v = .slice (some ⟨b, 0, none⟩) 1 1 ∧ N ≤ b ∧ w.heap[b]? = some (.cells #[intC x] 3 (0, 0))
theorem stable_lit1 (N : Nat) (x : Int) : Stable (isLit1 N x) := fun v w w' ⟨b, e, hN, h⟩ hb => ⟨b, e, hN, (hb.block b (Array.getElem?_eq_some_iff.1 h).1).trans h⟩
theorem lit1_R {N : Nat} {r : Option Nat} (hr : ∀ s, r = some s → s < N) (x : Int) : StableR (GB r) (isLit1 N x) := fun v w w' ⟨b, e, hN, h⟩ hb => ⟨b, e, hN, (hb.block b (Array.getElem?_eq_some_iff.1 h).1 (fun e => by have := hr b e.symm; omega)).trans h⟩
theorem step_lit1 {ops : Array Oper} {base : World} {a0 : Act} {Q : Exit → Act → World → Prop} {kn : Nat → VP} {i : Nat} (N : Nat) (x : Operand) (a1 : Int) (hop : (ops[i]?).map (·.op) = some (.buildSlice 23 1 #[(0, x)])) (hw : Wanted ops a0 kn i) (h0 : Knows ops a0 kn i x (isVal (.int .i64 a1))) (hN : N ≤ base.heap.size) : FStep Tryz.prog ops base a0 Q kn i (isLit1 N a1) :=
  step_mk (stable_lit1 _ _) hw fun o ho a w hk hb hd => by
    have e0 : a.eval x = intC a1 := h0 a w hk hd
    obtain ⟨ie, hie, h2⟩ := Option.map_eq_some_iff.1 Tryz.infoInt
    simp only [Prod.mk.injEq] at h2
    obtain ⟨hz, hsz, _⟩ := h2
    have hf : Instr.fill (fun i => some (i * ie.size, ie.size)) ((Array.range (1 * ie.size)).map ((Value.int .i64 0).cells[· % (Value.int .i64 0).cells.size]!)) ((#[(0, x)] : Array (Nat × Operand)).map fun (i, x) => (i, a.eval x)).toList = some #[intC a1] := by
      have e1 : ((#[(0, x)] : Array (Nat × Operand)).map fun (i, x) => (i, a.eval x)).toList = (([intC a1] : List Value).zipIdx 0).map fun x => (x.2, x.1) := by simp [e0]
      rw [e1, hsz, Great.fill_flat _ _ (fun v hv => by simp only [List.mem_cons, List.not_mem_nil, or_false] at hv; subst hv; rfl) (by simp)]
    refine wp_buildSlice 23 3 1 _ (op_of hop ho) _ ie (.int .i64 0) Tryz.underlying23 hie hz (by rw [hsz]; omega) (by rw [hsz]; omega) hf ?_
    exact ⟨_, rfl, ⟨w.heap.size, rfl, Nat.le_trans hN hb.size, heap_alloc_new w _⟩, (Below.refl _ _).alloc (Nat.le_refl _) _⟩
/-- The row with one number more. -/
def isIns (B N : Nat) (r : Option Nat) (l : List Int) (P : Nat) (x : Int) : VP := fun v w => w.ownsRow B 3 1 v (l.length + 1) ((insL l P x).map intC) ∧ (v.ownBlock = r ∨ NewB N v)
theorem ostep_ins {ops : Array Oper} {base : World} {a0 : Act} {Q : Exit → Act → World → Prop} {kn : Nat → VP} {i : Nat} {k0 : Nat} {ups : List Nat} (B N : Nat) (r : Option Nat) (l : List Int) (P : Nat) (x : Int) (vi : Value) (o1 o2 o3 : Operand) (hop : (ops[i]?).map (fun o => (o.op, o.guard)) = some (.call { callee := .value (.func 77), args := #[o1, o2, o3], argTypes := #[23, 3, 23] }, none))
    (h1 : Knows ops a0 kn i o1 (isVal vi)) (h2 : Knows ops a0 kn i o2 (isVal (.int .i64 (P : Int)))) (h3 : Knows ops a0 kn i o3 (isLit1 N x)) (hP : P ≤ l.length) (hl : l.length ≤ 100) (hB : B ≤ base.heap.size) (hre : vi.ownBlock = r) (hrN : ∀ s, r = some s → s < N) (hdst : ((ops[i]?).bind (·.dst)).isSome = true) (hNb : N = base.heap.size := by rfl) : OStep (GB r) i ups (fun w => w.ownsRow B 3 1 vi l.length (l.map intC)) Tryz.prog ops base a0 Q k0 kn i (isIns B N r l P x) := by
  refine ⟨⟨fun _ => fun v w w' h hb => ⟨own_grow h.1 hb, h.2⟩, fun h => absurd rfl h⟩, fun o ho a w hk0 hb h0 hd => ?_⟩
  have hkf := hk0.f
  have hown := h0 (.inl rfl)
  rw [ho] at hop hdst
  simp only [Option.map_some, Option.some.injEq, Prod.mk.injEq] at hop
  obtain ⟨ho1, ho2⟩ := hop
  have hd' : FDeps ops kn i a w := fun o' ho' e he hbd => rdone_f (hd o' ho' e he hbd)
  have e1 : a.eval o1 = vi := h1 a w hkf hd'
  have e2 : a.eval o2 = .int .i64 (P : Int) := h2 a w hkf hd'
  obtain ⟨vb, e3, hvN, hvb⟩ := h3 a w hkf hd'
  have hne : vi.ownBlock ≠ some vb := by
    intro e
    have := hrN vb (hre.symm.trans e)
    omega
  unfold wpOp
  simp only [ho]
  rw [show Region.wanted o (yielded ops a.tmps) = true by simp [Region.wanted, ho2]]
  refine .inl ?_
  unfold Oper.wp execOp
  rw [ho1]
  have e4 : a.eval (.func 77) = .func (.func 77) #[] #[] := rfl
  simp only [resolve, e4, Deferred.ofValue, Sem.run_bind, Sem.run_pure, Result.andThen_ok, invoke, Array.append_empty, Array.empty_append, List.map_toArray, List.map_cons, List.map_nil, e1, e2, e3]
  rw [enters_of Tryz.func77 (by kernel_rfl) rfl]
  simp only [Oper.upon]
  refine (insert_any B l P vb x vi w hown hP hl (Nat.le_trans hB hb.size) hvb hne).mono ?_
  rintro e w' ⟨v', rfl, q1, q2, q3⟩
  rw [hre] at q2 q3
  refine ⟨v', rfl, fun hn => by simp [hn] at hdst, ⟨q1, q3.imp id (fun e b hb' => ?_)⟩, q2, fun h => absurd rfl h⟩
  have h4 := own_blk_eq e
  rw [hb'] at h4
  injection h4 with h4
  have := hb.size
  omega
noncomputable def jn8Ops : Array Oper := regionOf Tryz.f48 8
set_option maxRecDepth 100000 in
set_option maxHeartbeats 2000000 in
theorem jn8_region (Q : Exit → Act → World → Prop) (a0 : Act) (w0 : World) (hsz : a0.tmps.size = 83) (A : Ar) (B g P m cs : Nat) (sa : Option Addr) (vi : Value) (e0 : a0.tmps.getD 0 undef = .pointer (some ⟨g, 0, none⟩)) (e6 : a0.tmps.getD 6 undef = .int .i64 (P : Int)) (HG : Blk w0 g [.int .i64 A.cap, .slice sa m cs, vi]) (hown : w0.ownsRow B 3 1 vi A.index.length (A.index.map intC)) (hB : B ≤ w0.heap.size) (hP : P ≤ A.index.length) (hl : A.index.length ≤ 100) (hng0 : vi.ownBlock ≠ some g)
    (hQ : ∀ (y : Nat → Value) (v' : Value) (w : World), w.ownsRow B 3 1 v' (A.index.length + 1) ((insL A.index P (m : Int)).map intC) → w0.grownBy w vi.ownBlock → (v'.ownBlock = vi.ownBlock ∨ NewB w0.heap.size v') →
      Q .normal { tmps := [52, 53, 54, 55, 56, 57, 58, 59, 60, 61, 62, 63, 64, 65, 66, 67, 68, 69].foldl (fun t s => t.setIfInBounds s (y s)) a0.tmps, defers := a0.defers } (w.setCell ⟨g, 2, none⟩ v')) :
    (Code.region 8 jn8Ops true).wp Tryz.prog Q a0 w0 := by
  obtain ⟨r, hre⟩ : ∃ r, vi.ownBlock = r := ⟨_, rfl⟩
  have hng : r ≠ some g := by rw [← hre]; exact hng0
  have hrN : ∀ s, r = some s → s < w0.heap.size := fun s e => (hown.lt s (hre.trans e)).2
  have hR := gb_pre r
  refine wp_region_one hR 14 [] (fun w => w.ownsRow B 3 1 vi A.index.length (A.index.map intC)) (by kernel_rfl) (fun _ _ h hb => own_grow h hb) (fun _ h => own_grow h ((Below.refl _ _).drew)) 18 mixed (by rw [hsz]; kernel_rfl) (by kernel_rfl) hown ?_
  rw [show jn8Ops.size - 18 = 1 by kernel_rfl]
  refine ⟨isVal (.pointer (some ⟨g, 0, none⟩)), OStep.of hR (by decide) (stabR_val' _ _) (by kernel_rfl) (by intro w hr; exact step_move (.tmp 0) (by kernel_rfl) (wanted_none (by kernel_rfl)) (stable_val _) (knows_old 0 (.pointer (some ⟨g, 0, none⟩)) (by kernel_rfl) e0)), ?_⟩
  refine ⟨isVal (.pointer (some ⟨g, 0, none⟩)), OStep.of hR (by decide) (stabR_val' _ _) (by kernel_rfl) (by intro w hr; exact step_move (.tmp 0) (by kernel_rfl) (wanted_none (by kernel_rfl)) (stable_val _) (knows_old 0 (.pointer (some ⟨g, 0, none⟩)) (by kernel_rfl) e0)), ?_⟩
  refine ⟨isVal (.pointer (some ⟨g, 0, none⟩)), OStep.of hR (by decide) (stabR_val' _ _) (by kernel_rfl) (by intro w hr; exact step_nilA (.tmp 53) ⟨g, 0, none⟩ (by kernel_rfl) (wanted_none (by kernel_rfl)) (knows_new (V := isVal (.pointer (some ⟨g, 0, none⟩))) 53 1 (by kernel_rfl) (by kernel_rfl) (by kernel_rfl))), ?_⟩
  refine ⟨isVal (.pointer (some ⟨g, 0, none⟩)), OStep.of hR (by decide) (stabR_val' _ _) (by kernel_rfl) (by intro w hr; exact step_field 78 (.tmp 54) 0 ⟨g, 0, none⟩ ⟨g, 0, none⟩ (by kernel_rfl) (wanted_none (by kernel_rfl)) (knows_new (V := isVal (.pointer (some ⟨g, 0, none⟩))) 54 2 (by kernel_rfl) (by kernel_rfl) (by kernel_rfl)) (f_ch_0_0 (g))), ?_⟩
  refine ⟨isVal (.pointer (some ⟨g, 2, none⟩)), OStep.of hR (by decide) (stabR_val' _ _) (by kernel_rfl) (by intro w hr; exact step_field 25 (.tmp 55) 2 ⟨g, 0, none⟩ ⟨g, 2, none⟩ (by kernel_rfl) (wanted_none (by kernel_rfl)) (knows_new (V := isVal (.pointer (some ⟨g, 0, none⟩))) 55 3 (by kernel_rfl) (by kernel_rfl) (by kernel_rfl)) (f_ar_0_2 (g))), ?_⟩
  refine ⟨isVal vi, OStep.of hR (by decide) (stabR_val' _ _) (by kernel_rfl) (by intro w hr; exact step_read 23 (.tmp 56) ⟨g, 2, none⟩ vi (by kernel_rfl) (wanted_none (by kernel_rfl)) (knows_new (V := isVal (.pointer (some ⟨g, 2, none⟩))) 56 4 (by kernel_rfl) (by kernel_rfl) (by kernel_rfl)) ((hr.cell_ (HG.cells.2 2 _ rfl) HG.lt hng)) ((Nat.lt_of_lt_of_le HG.lt hr.size)) (agg_noI)), ?_⟩
  refine ⟨isVal (.int .i64 (P : Int)), OStep.of hR (by decide) (stabR_val' _ _) (by kernel_rfl) (by intro w hr; exact step_move (.tmp 6) (by kernel_rfl) (wanted_none (by kernel_rfl)) (stable_val _) (knows_old 6 (.int .i64 (P : Int)) (by kernel_rfl) e6)), ?_⟩
  refine ⟨isVal (.pointer (some ⟨g, 0, none⟩)), OStep.of hR (by decide) (stabR_val' _ _) (by kernel_rfl) (by intro w hr; exact step_move (.tmp 0) (by kernel_rfl) (wanted_none (by kernel_rfl)) (stable_val _) (knows_old 0 (.pointer (some ⟨g, 0, none⟩)) (by kernel_rfl) e0)), ?_⟩
  refine ⟨isVal (.pointer (some ⟨g, 0, none⟩)), OStep.of hR (by decide) (stabR_val' _ _) (by kernel_rfl) (by intro w hr; exact step_nilA (.tmp 59) ⟨g, 0, none⟩ (by kernel_rfl) (wanted_none (by kernel_rfl)) (knows_new (V := isVal (.pointer (some ⟨g, 0, none⟩))) 59 7 (by kernel_rfl) (by kernel_rfl) (by kernel_rfl))), ?_⟩
  refine ⟨isVal (.pointer (some ⟨g, 0, none⟩)), OStep.of hR (by decide) (stabR_val' _ _) (by kernel_rfl) (by intro w hr; exact step_field 78 (.tmp 60) 0 ⟨g, 0, none⟩ ⟨g, 0, none⟩ (by kernel_rfl) (wanted_none (by kernel_rfl)) (knows_new (V := isVal (.pointer (some ⟨g, 0, none⟩))) 60 8 (by kernel_rfl) (by kernel_rfl) (by kernel_rfl)) (f_ch_0_0 (g))), ?_⟩
  refine ⟨isVal (.pointer (some ⟨g, 1, none⟩)), OStep.of hR (by decide) (stabR_val' _ _) (by kernel_rfl) (by intro w hr; exact step_field 25 (.tmp 61) 1 ⟨g, 0, none⟩ ⟨g, 1, none⟩ (by kernel_rfl) (wanted_none (by kernel_rfl)) (knows_new (V := isVal (.pointer (some ⟨g, 0, none⟩))) 61 9 (by kernel_rfl) (by kernel_rfl) (by kernel_rfl)) (f_ar_0_1 (g))), ?_⟩
  refine ⟨isVal (.slice sa m cs), OStep.of hR (by decide) (stabR_val' _ _) (by kernel_rfl) (by intro w hr; exact step_read 22 (.tmp 62) ⟨g, 1, none⟩ (.slice sa m cs) (by kernel_rfl) (wanted_none (by kernel_rfl)) (knows_new (V := isVal (.pointer (some ⟨g, 1, none⟩))) 62 10 (by kernel_rfl) (by kernel_rfl) (by kernel_rfl)) ((hr.cell_ (HG.cells.2 1 _ rfl) HG.lt hng)) ((Nat.lt_of_lt_of_le HG.lt hr.size)) (agg_noS)), ?_⟩
  refine ⟨isVal (.int .i64 (m : Int)), OStep.of hR (by decide) (stabR_val' _ _) (by kernel_rfl) (by intro w hr; exact step_len 22 (.tmp 63) (.slice sa m cs) (.int .i64 (m : Int)) (by kernel_rfl) (wanted_none (by kernel_rfl)) (knows_new (V := isVal (.slice sa m cs)) 63 11 (by kernel_rfl) (by kernel_rfl) (by kernel_rfl)) (fun ty w => by kernel_rfl)), ?_⟩
  refine ⟨(isLit1 w0.heap.size (m : Int)), OStep.of hR (by decide) (lit1_R hrN _) (by kernel_rfl) (by intro w hr; exact step_lit1 w0.heap.size (.tmp 64) (m : Int) (by kernel_rfl) (wanted_none (by kernel_rfl)) (knows_new (V := isVal (.int .i64 (m : Int))) 64 12 (by kernel_rfl) (by kernel_rfl) (by kernel_rfl)) hr.size), ?_⟩
  refine ⟨isIns B w0.heap.size r A.index P (m : Int), ostep_ins B w0.heap.size r A.index P (m : Int) vi (.tmp 57) (.tmp 58) (.tmp 65) (by kernel_rfl) (knows_new (V := isVal vi) 57 5 (by kernel_rfl) (by kernel_rfl) (by kernel_rfl)) (knows_new (V := isVal (.int .i64 (P : Int))) 58 6 (by kernel_rfl) (by kernel_rfl) (by kernel_rfl)) (knows_new (V := (isLit1 w0.heap.size (m : Int))) 65 13 (by kernel_rfl) (by kernel_rfl) (by kernel_rfl)) hP hl hB hre hrN (by kernel_rfl), ?_⟩
  refine ⟨isVal (.pointer (some ⟨g, 0, none⟩)), OStep.of hR (by decide) (stabR_val' _ _) (by kernel_rfl) (by intro w hr; exact step_nilA (.tmp 52) ⟨g, 0, none⟩ (by kernel_rfl) (wanted_none (by kernel_rfl)) (knows_new (V := isVal (.pointer (some ⟨g, 0, none⟩))) 52 0 (by kernel_rfl) (by kernel_rfl) (by kernel_rfl))), ?_⟩
  refine ⟨isVal (.pointer (some ⟨g, 0, none⟩)), OStep.of hR (by decide) (stabR_val' _ _) (by kernel_rfl) (by intro w hr; exact step_field 78 (.tmp 67) 0 ⟨g, 0, none⟩ ⟨g, 0, none⟩ (by kernel_rfl) (wanted_none (by kernel_rfl)) (knows_new (V := isVal (.pointer (some ⟨g, 0, none⟩))) 67 15 (by kernel_rfl) (by kernel_rfl) (by kernel_rfl)) (f_ch_0_0 (g))), ?_⟩
  refine ⟨isVal (.pointer (some ⟨g, 2, none⟩)), OStep.of hR (by decide) (stabR_val' _ _) (by kernel_rfl) (by intro w hr; exact step_field 25 (.tmp 68) 2 ⟨g, 0, none⟩ ⟨g, 2, none⟩ (by kernel_rfl) (wanted_none (by kernel_rfl)) (knows_new (V := isVal (.pointer (some ⟨g, 0, none⟩))) 68 16 (by kernel_rfl) (by kernel_rfl) (by kernel_rfl)) (f_ar_0_2 (g))), ?_⟩
  intro a w hk0 hb hd
  have d66 := fdone_of (rdone_f (hd 14 (by decide))) (t := 66) (V := isIns B w0.heap.size r A.index P (m : Int)) (by kernel_rfl) (by kernel_rfl)
  have d69 := fdone_of (rdone_f (hd 17 (by decide))) (t := 69) (V := isVal (.pointer (some ⟨g, 2, none⟩))) (by kernel_rfl) (by kernel_rfl)
  generalize hv : a.tmps.getD 66 undef = v' at d66
  obtain ⟨h1, h3⟩ := d66
  have gl : g < w.heap.size := Nat.lt_of_lt_of_le HG.lt hb.size
  have HG3 : Blk w g [.int .i64 A.cap, .slice sa m cs, vi] := ⟨⟨gl, fun j x hx => hb.cell_ (HG.cells.2 j x hx) HG.lt hng⟩, fun j => (hb.frozen_ HG.lt hng).trans (HG.free j)⟩
  refine tail_store 23 (.tmp 69) (.tmp 66) ⟨g, 2, none⟩ v' vi (by kernel_rfl) (by kernel_rfl) d69 hv (by kernel_rfl) (own_one h1).1 (own_one h1).2 (HG3.cells.2 2 _ rfl) (HG3.free 2) ?_
  obtain ⟨y, ey⟩ := kept_ex hk0.f [some 52, some 53, some 54, some 55, some 56, some 57, some 58, some 59, some 60, some 61, some 62, some 63, some 64, some 65, some 66, some 67, some 68, some 69, none] [52, 53, 54, 55, 56, 57, 58, 59, 60, 61, 62, 63, 64, 65, 66, 67, 68, 69] (by kernel_rfl) (by decide)
  rw [ey]
  rw [← hre] at hb h3
  exact hQ y v' w h1 hb h3
end Go.Proofs.YtkjghoomdefbbaaGreatDoor
end
section
namespace Go.Proofs.YtkjghoomdefbbaaGreatDoor
open Go.RowKit
set_option linter.unusedVariables false
set_option linter.unusedSimpArgs false
attribute [local irreducible] setN

theorem join_no {A : Ar} {Y : En} (h : (okA A && okE Y) = false) : joinAE A Y = 2 ∧ joinAB A Y = false ∧ joinAF A Y = A := by
  unfold joinAE joinAB joinAF; rw [h]; exact ⟨rfl, rfl, rfl⟩
theorem join_hit {A : Ar} {Y : En} (h1 : okA A = true) (h2 : okE Y = true) (h3 : hitB (ordA A) Y = true) : joinAE A Y = 0 ∧ joinAB A Y = !decide (slotAt A.slots (placeI A Y) = joinEF (slotAt A.slots (placeI A Y)) Y) ∧ joinAF A Y = ⟨A.cap, meetL A Y, A.index⟩ := by
  unfold joinAE joinAB joinAF; rw [h1, h2, h3]; exact ⟨rfl, rfl, rfl⟩
theorem join_full {A : Ar} {Y : En} (h1 : okA A = true) (h2 : okE Y = true) (h3 : hitB (ordA A) Y = false) (h4 : (A.slots.length : Int) = A.cap) : joinAE A Y = 4 ∧ joinAB A Y = false ∧ joinAF A Y = A := by
  unfold joinAE joinAB joinAF; rw [h1, h2, h3]; simp [h4]
theorem join_new {A : Ar} {Y : En} (h1 : okA A = true) (h2 : okE Y = true) (h3 : hitB (ordA A) Y = false) (h4 : ¬ (A.slots.length : Int) = A.cap) : joinAE A Y = 0 ∧ joinAB A Y = true ∧ joinAF A Y = ⟨A.cap, A.slots ++ [Y], putIdx A Y⟩ := by
  unfold joinAE joinAB joinAF; rw [h1, h2, h3]; simp [h4]
/-- An entry whose rows are older than B. -/
def isEnO (B : Nat) (E : En) : VP := fun v w => ∃ vp vm, v = .agg #[.string ⟨E.key.toArray⟩, .int .i64 E.val.kind, .int .i64 E.val.time, .int .i64 E.val.node, .bool E.val.dead, .string ⟨E.val.text.toArray⟩, vp, vm, .int .u64 (E.val.flags.toNat : Int)] ∧ isCells (E.val.plus.map intC) vp w ∧ isCells (E.val.minus.map intC) vm w ∧ (E.val.plus.map intC = [] ∨ ∀ b, blk vp = some b → b < B) ∧ (E.val.minus.map intC = [] ∨ ∀ b, blk vm = some b → b < B)
theorem enO_of {E : En} {v : Value} {w w' : World} (h : isEn E v w) (hb : Below w.heap.size w w') (B : Nat) (hB : w.heap.size ≤ B) : isEnO B E v w' := by
  obtain ⟨vp, vm, e, hp, hm⟩ := h
  exact ⟨vp, vm, e, stable_cells _ _ _ _ hp hb, stable_cells _ _ _ _ hm hb, (cells_lt hp).imp id (fun h b hb => Nat.lt_of_lt_of_le (h b hb) hB), (cells_lt hm).imp id (fun h b hb => Nat.lt_of_lt_of_le (h b hb) hB)⟩
def JPost (B g : Nat) (A' : Ar) (w : World) : Prop := ∃ vs vi ps, ChA B w g A' vs vi ps
theorem ChA.idxput {B : Nat} {w0 w : World} {g : Nat} {A : Ar} {vs vi : Value} {ps : List (En × Value × Value)} (h : ChA B w0 g A vs vi ps) (l : List Int) (v' : Value) (h1 : w.ownsRow B 3 1 v' l.length (l.map intC)) (h2 : w0.grownBy w vi.ownBlock) (h3 : v'.ownBlock = vi.ownBlock ∨ NewB w0.heap.size v') : ChA B (w.setCell ⟨g, 2, none⟩ v') g ⟨A.cap, A.slots, l⟩ vs v' ps ∧ Bt (fun b => b = g ∨ vi.ownBlock = some b) w0 (w.setCell ⟨g, 2, none⟩ v') := by
  have bt0 : Bt (fun b => b = g ∨ vi.ownBlock = some b) w0 w := gb_bt h2 (fun b e => .inr e)
  have bts := bt_set (S := fun b => b = g ∨ vi.ownBlock = some b) g 2 v' w (.inl rfl)
  have bt := bt0.trans bts
  have hg := h.lt
  have new_v : ∀ b, v'.ownBlock = some b → vi.ownBlock = some b ∨ w0.heap.size ≤ b := fun b hb => h3.imp (fun e => by rw [← e]; exact hb) (fun e => e b (own_blk_eq hb))
  have hst : Blk w g [.int .i64 A.cap, vs, vi] := (gb_bt (S := fun b => vi.ownBlock = some b) h2 (fun b e => e)).blk h.st h.n2
  have vs_lt : ∀ b, vs.ownBlock = some b → b < w0.heap.size := fun b hb => (h.own.lt b hb).2
  have hvg : v'.ownBlock ≠ some g := by
    intro e
    rcases new_v g e with e | e
    · exact h.n2 e
    · omega
  refine ⟨⟨hst.set 2 v' (by simp), h.lo, bt.own h.own (fun b hb e => ?_), h.sl, own_set h1 hvg, fun q hq => ?_, h.n1, hvg, ?_, ?_, h.nw⟩, bt⟩
  · rcases e with e | e
    · exact h.n1 (by rw [hb, e])
    · exact h.n3 b hb e
  · obtain ⟨r1, r2⟩ := h.rows q hq
    have o := h.off q hq
    refine ⟨bt.cells r1 ?_, bt.cells r2 ?_⟩
    · by_cases e : q.1.val.plus.map intC = []
      · exact .inl e
      · exact .inr (fun b hb hS => ((o b (by rcases hS with hS | hS; exact .inl hS; exact .inr (.inr hS))).1.resolve_left e) hb)
    · by_cases e : q.1.val.minus.map intC = []
      · exact .inl e
      · exact .inr (fun b hb hS => ((o b (by rcases hS with hS | hS; exact .inl hS; exact .inr (.inr hS))).2.resolve_left e) hb)
  · intro b hb e
    rcases new_v b e with e | e
    · exact h.n3 b hb e
    · have := vs_lt b hb; omega
  · intro q hq b hb
    have o := h.off q hq
    rcases hb with hb | hb | hb
    · exact o b (.inl hb)
    · exact o b (.inr (.inl hb))
    · rcases new_v b hb with e | e
      · exact o b (.inr (.inr e))
      · refine ⟨(cells_lt (h.rows q hq).1).imp id (fun h3 e3 => ?_), (cells_lt (h.rows q hq).2).imp id (fun h3 e3 => ?_)⟩
        · have := h3 b e3; omega
        · have := h3 b e3; omega
set_option maxRecDepth 100000 in
set_option maxHeartbeats 2000000 in
theorem cjoin_any (B g : Nat) (A : Ar) (Y : En) (vs vi v : Value) (ps : List (En × Value × Value)) (w : World) (h : ChA B w g A vs vi ps) (hv : isEnO B Y v w) (hF : FitA A) (hY : FitE Y) (hBw : B ≤ w.heap.size) :
    Calls Tryz.prog 48 #[.pointer (some ⟨g, 0, none⟩), v] w fun e w' => e = .returned (.tuple #[.bool (joinAB A Y), .int .i64 (joinAE A Y)]) ∧ JPost B g (joinAF A Y) w' ∧ Below B w w' := by
  obtain ⟨yp, ym, rfl, hyp, hym, oyp, oym⟩ := hv
  have OY := Kept.mk (And.intro oyp oym)
  have hvi0 : ∀ b, vi.ownBlock = some b → B ≤ b ∧ b < w.heap.size := fun b hb => h.idx.lt b hb
  have hvs0 : ∀ b, vs.ownBlock = some b → B ≤ b ∧ b < w.heap.size := fun b hb => h.own.lt b hb
  have hb0 := lit_below w (.cells #[.string ⟨Y.key.toArray⟩, .int .i64 Y.val.kind, .int .i64 Y.val.time, .int .i64 Y.val.node, .bool Y.val.dead, .string ⟨Y.val.text.toArray⟩, yp, ym, .int .u64 (Y.val.flags.toNat : Int)] 48)
  have hB := Kept.mk hb0
  have HC := Kept.mk (h.keep hb0)
  have HE := Kept.mk (Blk.new w 48 [.string ⟨Y.key.toArray⟩, .int .i64 Y.val.kind, .int .i64 Y.val.time, .int .i64 Y.val.node, .bool Y.val.dead, .string ⟨Y.val.text.toArray⟩, yp, ym, .int .u64 (Y.val.flags.toNat : Int)] w.heap.size rfl)
  have RY0 := Kept.mk (And.intro (cells_lt hyp) (cells_lt hym))
  have RY := Kept.mk (And.intro (stable_cells _ _ _ _ hyp hb0) (stable_cells _ _ _ _ hym hb0))
  have hgw := h.lt
  have hlo := h.lo
  have hN0 : w.heap.size < (w.alloc (.cells #[.string ⟨Y.key.toArray⟩, .int .i64 Y.val.kind, .int .i64 Y.val.time, .int .i64 Y.val.node, .bool Y.val.dead, .string ⟨Y.val.text.toArray⟩, yp, ym, .int .u64 (Y.val.flags.toNat : Int)] 48)).heap.size := HE.out.lt
  obtain ⟨RB, hRB⟩ : ∃ r, joinAB A Y = r := ⟨_, rfl⟩
  obtain ⟨RE, hRE⟩ : ∃ r, joinAE A Y = r := ⟨_, rfl⟩
  obtain ⟨RF, hRF⟩ : ∃ r, joinAF A Y = r := ⟨_, rfl⟩
  rw [hRB, hRE, hRF]
  have HR := Kept.mk (And.intro hRB (And.intro hRE hRF))
  clear h hyp hym hb0 hRB hRE hRF
  have k0 := HC.out.st.cells.2 0 _ rfl
  have k1 := HC.out.st.cells.2 1 _ rfl
  have k2 := HC.out.st.cells.2 2 _ rfl
  have XA := Kept.mk HC.out.ar
  go_enter Tryz.func48, Tryz.ntmps48
  go_wp2_with fail
  generalize (w.alloc (.cells #[.string ⟨Y.key.toArray⟩, .int .i64 Y.val.kind, .int .i64 Y.val.time, .int .i64 Y.val.node, .bool Y.val.dead, .string ⟨Y.val.text.toArray⟩, yp, ym, .int .u64 (Y.val.flags.toNat : Int)] 48)) = W0 at *
  refine (acheck_any A _ _ XA.out hF).mono ?_
  rintro e W1 ⟨rfl, hb⟩
  have hN1 := hb.size
  replace HC := Kept.mk (HC.out.keep hb)
  replace HE := Kept.mk (HE.out.keep hb)
  replace RY := Kept.mk (And.intro (stable_cells _ _ _ _ RY.out.1 hb) (stable_cells _ _ _ _ RY.out.2 hb))
  replace hB := Kept.mk (hB.out.trans (hb.mono (by omega)))
  clear hb k0 k1 k2 XA
  cases hok : okA A with
  | false =>
    rw [chk_A0 hok]
    obtain ⟨j1, j2, j3⟩ := join_no (A := A) (Y := Y) (by rw [hok]; rfl)
    obtain ⟨r1, r2, r3⟩ := HR.out
    have HP := Kept.mk (show JPost B g RF W1 from ⟨_, _, _, by rw [← r3, j3]; exact HC.out⟩)
    have HQ := Kept.mk (And.intro (r1.symm.trans j2) (r2.symm.trans j1))
    clear j1 j2 j3 r1 r2 r3 HR
    go_wp2
    go_ret2
    exact ⟨by rw [HQ.out.1, HQ.out.2]; rfl, HP.out, hB.out.mono hBw⟩
  | true =>
    rw [chk_A1 hok]
    have HO := Kept.mk hok
    clear hok
    have ke0 := HE.out.cells.2 0 _ rfl
    have ke1 := HE.out.cells.2 1 _ rfl
    have ke2 := HE.out.cells.2 2 _ rfl
    have ke3 := HE.out.cells.2 3 _ rfl
    have ke4 := HE.out.cells.2 4 _ rfl
    have ke5 := HE.out.cells.2 5 _ rfl
    have ke6 := HE.out.cells.2 6 _ rfl
    have ke7 := HE.out.cells.2 7 _ rfl
    have ke8 := HE.out.cells.2 8 _ rfl
    have XE := Kept.mk (show isEn Y (.agg #[.string ⟨Y.key.toArray⟩, .int .i64 Y.val.kind, .int .i64 Y.val.time, .int .i64 Y.val.node, .bool Y.val.dead, .string ⟨Y.val.text.toArray⟩, yp, ym, .int .u64 (Y.val.flags.toNat : Int)]) W1 from ⟨yp, ym, rfl, RY.out.1, RY.out.2⟩)
    go_wp2_with fail
    refine (echeck_any Y _ _ XE.out hY).mono ?_
    rintro e W2 ⟨rfl, hb⟩
    have hN2 := hb.size
    replace HC := Kept.mk (HC.out.keep hb)
    replace HE := Kept.mk (HE.out.keep hb)
    replace RY := Kept.mk (And.intro (stable_cells _ _ _ _ RY.out.1 hb) (stable_cells _ _ _ _ RY.out.2 hb))
    replace hB := Kept.mk (hB.out.trans (hb.mono (by omega)))
    clear hb XE ke0 ke1 ke2 ke3 ke4 ke5 ke6 ke7 ke8
    cases hoe : okE Y with
    | false =>
      rw [chk_no hoe]
      obtain ⟨j1, j2, j3⟩ := join_no (A := A) (Y := Y) (by rw [hoe, Bool.and_false])
      obtain ⟨r1, r2, r3⟩ := HR.out
      have HP := Kept.mk (show JPost B g RF W2 from ⟨_, _, _, by rw [← r3, j3]; exact HC.out⟩)
      have HQ := Kept.mk (And.intro (r1.symm.trans j2) (r2.symm.trans j1))
      clear j1 j2 j3 r1 r2 r3 HR
      go_wp2
      go_ret2
      exact ⟨by rw [HQ.out.1, HQ.out.2]; rfl, HP.out, hB.out.mono hBw⟩
    | true =>
      rw [chk_ok hoe]
      have HOE := Kept.mk hoe
      clear hoe
      have OKA := Kept.mk (okA_iff.1 HO.out)
      obtain ⟨P, hP⟩ : ∃ P, posN (ordA A) Y = P := ⟨_, rfl⟩
      obtain ⟨Z, hZ⟩ : ∃ Z, hitB (ordA A) Y = Z := ⟨_, rfl⟩
      have HPZ := Kept.mk (And.intro hP hZ)
      clear hP hZ
      go_wp2_with fail
      refine jn3_region _ _ _ rfl A g w.heap.size P Z Y _ _ yp ym rfl rfl HC.out.st HE.out OKA.out HC.out.ar RY.out.1 RY.out.2 HPZ.out.1 HPZ.out.2 ?_
      intro f9 W3 d6 d7 hb9
      simp only [List.foldl_cons, List.foldl_nil, d6, d7]
      generalize f9 20 = y20
      generalize f9 21 = y21
      generalize f9 22 = y22
      generalize f9 23 = y23
      generalize f9 24 = y24
      generalize f9 25 = y25
      generalize f9 19 = y19
      generalize f9 26 = y26
      generalize f9 27 = y27
      clear d6 d7
      simp only [List.setIfInBounds_toArray, List.set_cons_succ, List.set_cons_zero]
      have hN3 := hb9.size
      replace HC := Kept.mk (HC.out.keep hb9)
      replace HE := Kept.mk (HE.out.keep hb9)
      replace RY := Kept.mk (And.intro (stable_cells _ _ _ _ RY.out.1 hb9) (stable_cells _ _ _ _ RY.out.2 hb9))
      replace hB := Kept.mk (hB.out.trans (hb9.mono (by omega)))
      clear hb9
      cases Z with
      | true =>
        obtain ⟨pr, pi, _, pn⟩ := place_spec OKA.out HPZ.out.2
        rw [HPZ.out.1] at pi
        obtain ⟨q, hq⟩ : ∃ q : Nat, placeI A Y = (q : Int) := ⟨(placeI A Y).toNat, by omega⟩
        rw [hq] at pr pi pn
        obtain ⟨X, hX⟩ : ∃ X, A.slots[q]? = some X := ⟨_, List.getElem?_eq_getElem (by omega)⟩
        rw [slotAt_some hX] at pn
        have hoX := OKA.out.ents X (List.mem_of_getElem? hX)
        have hjj : joinEE X Y = 0 := by unfold joinEE; rw [hoX, HOE.out, pn]; rfl
        obtain ⟨J, hJ⟩ : ∃ J, joinEF X Y = J := ⟨_, rfl⟩
        obtain ⟨j1, j2, j3⟩ := join_hit HO.out HOE.out HPZ.out.2
        rw [hq, slotAt_some hX, hJ] at j2
        have j4 : meetL A Y = A.slots.set q J := by unfold meetL; rw [hq, slotAt_some hX, hJ]; rfl
        obtain ⟨bi, oi, ci, hvi, hbi, hci⟩ := cells_get HC.out.ints (by intro e; rw [e] at pi; simp at pi)
        have hPn : P < A.index.length := (List.getElem?_eq_some_iff.1 pi).1
        have kq := hci P _ pi
        have KH := Kept.mk (And.intro hX (And.intro hjj (And.intro hJ (And.intro kq (ok_fit' hoX)))))
        obtain ⟨r1, r2, r3⟩ := HR.out
        have HQ := Kept.mk (And.intro (r1.symm.trans j2) (And.intro (r2.symm.trans j1) (r3.symm.trans (by rw [j3, j4]))))
        subst hvi
        clear hX hjj hJ kq hci pr pi pn hoX j1 j2 j3 j4 r1 r2 r3 HR hq
        go_wp2_with fail
        refine jn5_region _ _ _ rfl A g w.heap.size P q bi oi ci A.index.length Y _ yp ym rfl rfl rfl HC.out.st HE.out hPn KH.out.2.2.2.1 hbi ?_
        intro y W4 hb4
        have hN4 := hb4.size
        refine (meet_any B g q A X Y J _ _ _ _ W4 KH.out.2.2.1 (HC.out.keep hb4) KH.out.1 (en_mk RY.out.1 RY.out.2 hb4) KH.out.2.2.2.2 hY KH.out.2.1 (by omega)).mono ?_
        rintro e W5 ⟨ps', rfl, hch, hb5⟩
        have HP := Kept.mk (show JPost B g RF W5 from ⟨_, _, _, by rw [HQ.out.2.2]; exact hch⟩)
        have B5 := Kept.mk (((hB.out.trans (hb4.mono (by omega))).mono hBw).trans hb5)
        clear hch hb5 hb4
        refine ⟨_, rfl, ?_⟩
        simp only [List.foldl_cons, List.foldl_nil]
        generalize y 29 = z29
        generalize y 30 = z30
        generalize y 31 = z31
        generalize y 32 = z32
        generalize y 33 = z33
        generalize y 34 = z34
        generalize y 35 = z35
        generalize y 36 = z36
        generalize y 37 = z37
        generalize y 38 = z38
        generalize y 39 = z39
        generalize y 4 = z4
        generalize y 5 = z5
        simp only [List.setIfInBounds_toArray, List.set_cons_succ, List.set_cons_zero]
        have HQ1 := Kept.mk HQ.out.1
        have HQ2 := Kept.mk HQ.out.2.1
        generalize decide (X = J) = dz at *
        go_wp2
        go_ret2
        exact ⟨by rw [HQ1.out, HQ2.out]; rfl, HP.out, B5.out⟩
      | false =>
        obtain ⟨sa, cs, hvs⟩ := HC.out.ens.len
        subst hvs
        obtain ⟨r1, r2, r3⟩ := HR.out
        have f1 := hF.slots
        have D := (Below.refl W3.heap.size W3).drew
        have hPl : P ≤ A.index.length := by
          have := pos_le (ordA A) Y
          rw [HPZ.out.1] at this
          unfold ordA at this
          rwa [List.length_map] at this
        have f2 := hF.index
        have hix : A.index.length ≤ 100 := by have := OKA.out.len; have := OKA.out.fits; have := OKA.out.room; omega
        by_cases hfull : (A.slots.length : Int) = A.cap
        · obtain ⟨j1, j2, j3⟩ := join_full HO.out HOE.out HPZ.out.2 hfull
          have k0 := HC.out.st.cells.2 0 _ rfl
          have k1 := HC.out.st.cells.2 1 _ rfl
          rw [← hfull] at k0
          have hd : ((A.slots.length : Int) == (A.slots.length : Int)) = true := by simp
          have HP := Kept.mk (show JPost B g RF W3.drew from ⟨_, _, _, by rw [← r3, j3]; exact HC.out.keep D⟩)
          have B5 := Kept.mk ((hB.out.mono hBw).trans (D.mono (by omega)))
          have HQ := Kept.mk (And.intro (r1.symm.trans j2) (r2.symm.trans j1))
          clear j1 j2 j3 r1 r2 r3 HR D hfull
          go_wp2_with fail
          go_region
          all_goals go_wp2
          all_goals go_ret2
          all_goals exact ⟨by rw [HQ.out.1, HQ.out.2]; rfl, HP.out, B5.out⟩
        · obtain ⟨j1, j2, j3⟩ := join_new HO.out HOE.out HPZ.out.2 hfull
          have k0 := HC.out.st.cells.2 0 _ rfl
          have k1 := HC.out.st.cells.2 1 _ rfl
          have hd : ((A.slots.length : Int) == A.cap) = false := by simpa using hfull
          have j4 : putIdx A Y = insL A.index P (A.slots.length : Int) := by unfold putIdx insL; rw [HPZ.out.1]
          have HQ := Kept.mk (And.intro (r1.symm.trans j2) (And.intro (r2.symm.trans j1) (r3.symm.trans (by rw [j3, j4]))))
          have HC4 := Kept.mk (HC.out.keep D)
          have HE4 := Kept.mk (HE.out.keep D)
          have RY4 := Kept.mk (And.intro (stable_cells _ _ _ _ RY.out.1 D) (stable_cells _ _ _ _ RY.out.2 D))
          have B4 := Kept.mk (hB.out.trans (D.mono (by omega)))
          have hN4 : W3.heap.size ≤ W3.drew.heap.size := D.size
          clear j1 j2 j3 j4 r1 r2 r3 HR D hfull HC HE RY hB
          go_wp2_with fail
          go_region
          all_goals go_wp2_with fail
          generalize W3.drew = W4 at *
          clear k0 k1
          refine jn8_region _ _ _ rfl A B g P A.slots.length cs sa vi rfl rfl HC4.out.st HC4.out.idx (by omega) hPl hix HC4.out.n2 ?_
          intro y v' W5 h1 h2 h3
          obtain ⟨hch, bt⟩ := HC4.out.idxput (insL A.index P (A.slots.length : Int)) v' (by rw [insL_length _ _ _ hPl]; exact h1) h2 h3
          simp only [List.foldl_cons, List.foldl_nil]
          generalize y 52 = z52
          generalize y 53 = z53
          generalize y 54 = z54
          generalize y 55 = z55
          generalize y 56 = z56
          generalize y 57 = z57
          generalize y 58 = z58
          generalize y 59 = z59
          generalize y 60 = z60
          generalize y 61 = z61
          generalize y 62 = z62
          generalize y 63 = z63
          generalize y 64 = z64
          generalize y 65 = z65
          generalize y 66 = z66
          generalize y 67 = z67
          generalize y 68 = z68
          generalize y 69 = z69
          simp only [List.setIfInBounds_toArray, List.set_cons_succ, List.set_cons_zero]
          generalize W5.setCell ⟨g, 2, none⟩ v' = W6 at *
          have hN6 := bt.size
          have hE6 := bt.blk HE4.out (show ¬ (w.heap.size = g ∨ vi.ownBlock = some w.heap.size) by rintro (e | e); (· omega); (· have := (hvi0 _ e).2; omega))
          have yoff : ∀ b, B ≤ b → (Y.val.plus.map intC = [] ∨ blk yp ≠ some b) ∧ (Y.val.minus.map intC = [] ∨ blk ym ≠ some b) := fun b hb => ⟨OY.out.1.imp id (fun h e => by have := h b e; omega), OY.out.2.imp id (fun h e => by have := h b e; omega)⟩
          have lowS : ∀ b, (b = g ∨ vi.ownBlock = some b) → B ≤ b := fun b hb => by rcases hb with rfl | hb; (· exact hlo); (· exact (hvi0 b hb).1)
          have ry6 : isCells (Y.val.plus.map intC) yp W6 := bt.cells RY4.out.1 (OY.out.1.imp id (fun h b hb hS => by have := h b hb; have := lowS b hS; omega))
          have rm6 : isCells (Y.val.minus.map intC) ym W6 := bt.cells RY4.out.2 (OY.out.2.imp id (fun h b hb hS => by have := h b hb; have := lowS b hS; omega))
          have hps : ps.length ≤ 1000 := by rw [hch.len]; exact f1
          have K6 := Kept.mk (And.intro hch (And.intro hE6 (And.intro ry6 rm6)))
          have B6 := Kept.mk ((B4.out.mono hBw).trans (bt.below lowS (by omega)))
          clear h1 h2 h3 hch bt hE6 ry6 rm6 lowS
          go_wp2_with fail
          refine jnapp_region _ _ _ rfl g w.heap.size B ps.length _ Y _ yp ym (flatE ps) rfl rfl K6.out.1.st rfl K6.out.2.1 K6.out.2.2.1 K6.out.2.2.2 hY K6.out.1.own hps (by omega) (fun s hs => ⟨fun e => K6.out.1.n1 (by rw [hs, e]), by have := (hvs0 s hs).2; omega, yoff s (hvs0 s hs).1⟩) ?_
          intro y v vp vm W7 h1 h2 h3 h4 h5 h6 h7 h8 h9
          have hch7 := K6.out.1.push Y v vp vm h1 h2 h3 h4 h5 h6 h7 h8 h9
          have HP := Kept.mk (show JPost B g RF W7 from ⟨_, _, _, by rw [HQ.out.2.2]; exact hch7⟩)
          have B7 := Kept.mk (B6.out.trans (h9.below (fun b hb => by rcases hb with rfl | hb; (· exact hlo); (· exact (hvs0 b hb).1)) (by omega)))
          clear h1 h2 h3 h4 h5 h6 h7 h8 h9 hch7 K6
          simp only [List.foldl_cons, List.foldl_nil]
          generalize y 70 = x70
          generalize y 71 = x71
          generalize y 72 = x72
          generalize y 73 = x73
          generalize y 74 = x74
          generalize y 75 = x75
          generalize y 76 = x76
          generalize y 77 = x77
          generalize y 78 = x78
          generalize y 79 = x79
          generalize y 80 = x80
          generalize y 81 = x81
          generalize y 82 = x82
          simp only [List.setIfInBounds_toArray, List.set_cons_succ, List.set_cons_zero]
          go_wp2
          go_ret2
          exact ⟨by rw [HQ.out.1, HQ.out.2.1]; rfl, HP.out, B7.out⟩
end Go.Proofs.YtkjghoomdefbbaaGreatDoor
end
section
namespace Go.Proofs.YtkjghoomdefbbaaGreatDoor
open Go.RowKit
set_option linter.unusedVariables false
set_option linter.unusedSimpArgs false
attribute [local irreducible] setN

theorem resultsN3 {P : Program} {fn : Func} {p u1 u2 : Tmp} {t : TypeId} (h : fn.results = #[.cell p t, .tmp u1, .tmp u2]) (tmps : Array Value) (w : World) (g : Nat) (l : List Value) (x1 x2 : Value) (hs : (P.info? t).map (·.size) = some l.length) (ha : ∀ w, (isAgg t).run P w = .ok true w) (hp : tmps.getD p undef = .pointer (some ⟨g, 0, none⟩)) (h1 : tmps.getD u1 undef = x1) (h2 : tmps.getD u2 undef = x2) (hc : CellsN w g l) :
    (results fn tmps).run P w = .ok (.tuple #[.agg l.toArray, x1, x2]) w := by
  have hp' : tmps[p]?.getD undef = .pointer (some ⟨g, 0, none⟩) := by simpa using hp
  have h1' : tmps[u1]?.getD undef = x1 := by simpa using h1
  have h2' : tmps[u2]?.getD undef = x2 := by simpa using h2
  simp [results, h, hp', h1', h2', asAddr, loadN t g w l hs ha hc]
theorem Blk.keepB {B : Nat} {W W' : World} {b : Nat} {cs : List Value} (h : Blk W b cs) (k : Below B W W') (hb : b < B) : Blk W' b cs := ⟨h.cells.keep k hb, h.free.keep k hb⟩
def newAE (n : Int) : Int := if roomB n = true then 0 else 1
def newAF (n : Int) : Ar := if roomB n = true then ⟨n, [], []⟩ else zeroA
set_option maxRecDepth 100000 in
set_option maxHeartbeats 2000000 in
theorem anew_any (n : Int) (w : World) : Calls Tryz.prog 33 #[.int .i64 n] w fun e w' => ∃ v', e = .returned (.tuple #[v', .int .i64 (newAE n)]) ∧ isAr (newAF n) v' w' ∧ Below w.heap.size w w' := by
  have HR := Kept.mk (Blk.new w 25 [.int .i64 0, .slice none 0 0, .slice none 0 0] w.heap.size rfl)
  have hB := Kept.mk (lit_below w (.cells #[.int .i64 0, .slice none 0 0, .slice none 0 0] 25))
  go_enter Tryz.func33, Tryz.ntmps33
  go_wp2_with fail
  generalize (w.alloc (.cells #[.int .i64 0, .slice none 0 0, .slice none 0 0] 25)) = W0 at *
  refine (room_any n _).mono ?_
  rintro e W1 ⟨rfl, hb⟩
  replace HR := Kept.mk (HR.out.keep hb)
  replace hB := Kept.mk (hB.out.trans (hb.mono hB.out.size))
  clear hb
  cases hr : roomB n with
  | true =>
    have e1 : newAE n = 0 := by unfold newAE; rw [hr]; rfl
    have e2 : newAF n = ⟨n, [], []⟩ := by unfold newAF; rw [hr]; rfl
    have HO : Kept (Ones [.int .i64 n, .slice none 0 0, .slice none 0 0]) := ⟨⟨rfl, rfl, rfl, trivial⟩⟩
    go_wp2_with (have hz0 := HO; refine wpList_storeN 25 rfl (.tmp 2) (.tmp 9) rfl w.heap.size [.int .i64 n, .slice none 0 0, .slice none 0 0] size_ar rfl rfl HR.out.cells rfl HR.out.free HO.out ?_; clear hz0 HO)
    rw [e1, e2]
    exact bodyPost_ret (resultsN2 rfl _ _ w.heap.size [.int .i64 n, .slice none 0 0, .slice none 0 0] (.int .i64 0) size_ar agg_ar rfl rfl (HR.out.all_ (l := [.int .i64 n, .slice none 0 0, .slice none 0 0]) rfl).cells) rfl ⟨_, rfl, ⟨.slice none 0 0, .slice none 0 0, rfl, .inl ⟨rfl, rfl⟩, .inl ⟨rfl, rfl⟩⟩, below_setN (Nat.le_refl _) _ 0 _ hB.out⟩
  | false =>
    have e1 : newAE n = 1 := by unfold newAE; rw [hr]; rfl
    have e2 : newAF n = zeroA := by unfold newAF; rw [hr]; rfl
    have HO : Kept (Ones [.int .i64 0, .slice none 0 0, .slice none 0 0]) := ⟨⟨rfl, rfl, rfl, trivial⟩⟩
    go_wp2_with (have hz0 := HO; refine wpList_storeN 25 rfl (.tmp 2) (.tmp 7) rfl w.heap.size [.int .i64 0, .slice none 0 0, .slice none 0 0] size_ar rfl rfl HR.out.cells rfl HR.out.free HO.out ?_; clear hz0 HO)
    rw [e1, e2]
    exact bodyPost_ret (resultsN2 rfl _ _ w.heap.size [.int .i64 0, .slice none 0 0, .slice none 0 0] (.int .i64 1) size_ar agg_ar rfl rfl (HR.out.all_ rfl).cells) rfl ⟨_, rfl, ⟨.slice none 0 0, .slice none 0 0, rfl, .inl ⟨rfl, rfl⟩, .inl ⟨rfl, rfl⟩⟩, below_setN (Nat.le_refl _) _ 0 _ hB.out⟩
set_option maxRecDepth 100000 in
set_option maxHeartbeats 2000000 in
theorem ajoin_any (A : Ar) (Y : En) (v u : Value) (w : World) (hv : isAr A v w) (hu : isEn Y u w) (hF : FitA A) (hY : FitE Y) : Calls Tryz.prog 29 #[v, u] w fun e w' => ∃ v', e = .returned (.tuple #[v', .bool (joinAB A Y), .int .i64 (joinAE A Y)]) ∧ isAr (joinAF A Y) v' w' ∧ Below w.heap.size w w' := by
  obtain ⟨vs, vi, rfl, hs, hi⟩ := hv
  obtain ⟨yp, ym, rfl, hyp, hym⟩ := hu
  have hb0 : Below w.heap.size w (((w.alloc (.cells #[.int .i64 A.cap, vs, vi] 25)).alloc (.cells #[.string ⟨Y.key.toArray⟩, .int .i64 Y.val.kind, .int .i64 Y.val.time, .int .i64 Y.val.node, .bool Y.val.dead, .string ⟨Y.val.text.toArray⟩, yp, ym, .int .u64 (Y.val.flags.toNat : Int)] 48)).alloc (.cells #[.int .i64 0, .slice none 0 0, .slice none 0 0] 25)) := (((Below.refl _ w).alloc (Nat.le_refl _) _).alloc (by simp) _).alloc (by simp; omega) _
  have hsz : (((w.alloc (.cells #[.int .i64 A.cap, vs, vi] 25)).alloc (.cells #[.string ⟨Y.key.toArray⟩, .int .i64 Y.val.kind, .int .i64 Y.val.time, .int .i64 Y.val.node, .bool Y.val.dead, .string ⟨Y.val.text.toArray⟩, yp, ym, .int .u64 (Y.val.flags.toNat : Int)] 48)).alloc (.cells #[.int .i64 0, .slice none 0 0, .slice none 0 0] 25)).heap.size = w.heap.size + 3 := by simp
  have HA := Kept.mk (show isAr A (.agg #[.int .i64 A.cap, vs, vi]) (((w.alloc (.cells #[.int .i64 A.cap, vs, vi] 25)).alloc (.cells #[.string ⟨Y.key.toArray⟩, .int .i64 Y.val.kind, .int .i64 Y.val.time, .int .i64 Y.val.node, .bool Y.val.dead, .string ⟨Y.val.text.toArray⟩, yp, ym, .int .u64 (Y.val.flags.toNat : Int)] 48)).alloc (.cells #[.int .i64 0, .slice none 0 0, .slice none 0 0] 25)) from stable_ar A _ _ _ ⟨vs, vi, rfl, hs, hi⟩ hb0)
  have HY := Kept.mk (show isEn Y (.agg #[.string ⟨Y.key.toArray⟩, .int .i64 Y.val.kind, .int .i64 Y.val.time, .int .i64 Y.val.node, .bool Y.val.dead, .string ⟨Y.val.text.toArray⟩, yp, ym, .int .u64 (Y.val.flags.toNat : Int)]) w from ⟨yp, ym, rfl, hyp, hym⟩)
  have BA := (((Blk.new w 25 [.int .i64 A.cap, vs, vi] w.heap.size rfl).alloc (.cells #[.string ⟨Y.key.toArray⟩, .int .i64 Y.val.kind, .int .i64 Y.val.time, .int .i64 Y.val.node, .bool Y.val.dead, .string ⟨Y.val.text.toArray⟩, yp, ym, .int .u64 (Y.val.flags.toNat : Int)] 48)).alloc (.cells #[.int .i64 0, .slice none 0 0, .slice none 0 0] 25))
  have BY := Kept.mk ((Blk.new (w.alloc (.cells #[.int .i64 A.cap, vs, vi] 25)) 48 [.string ⟨Y.key.toArray⟩, .int .i64 Y.val.kind, .int .i64 Y.val.time, .int .i64 Y.val.node, .bool Y.val.dead, .string ⟨Y.val.text.toArray⟩, yp, ym, .int .u64 (Y.val.flags.toNat : Int)] (w.heap.size + 1) (by simp)).alloc (.cells #[.int .i64 0, .slice none 0 0, .slice none 0 0] 25))
  have BR := Kept.mk (Blk.new ((w.alloc (.cells #[.int .i64 A.cap, vs, vi] 25)).alloc (.cells #[.string ⟨Y.key.toArray⟩, .int .i64 Y.val.kind, .int .i64 Y.val.time, .int .i64 Y.val.node, .bool Y.val.dead, .string ⟨Y.val.text.toArray⟩, yp, ym, .int .u64 (Y.val.flags.toNat : Int)] 48)) 25 [.int .i64 0, .slice none 0 0, .slice none 0 0] (w.heap.size + 1 + 1) (by simp))
  have ka0 := BA.cells.2 0 _ rfl
  have ka1 := BA.cells.2 1 _ rfl
  have ka2 := BA.cells.2 2 _ rfl
  have hB := Kept.mk hb0
  clear hs hi hyp hym BA hb0
  go_enter Tryz.func29, Tryz.ntmps29
  go_wp2_with fail
  generalize (((w.alloc (.cells #[.int .i64 A.cap, vs, vi] 25)).alloc (.cells #[.string ⟨Y.key.toArray⟩, .int .i64 Y.val.kind, .int .i64 Y.val.time, .int .i64 Y.val.node, .bool Y.val.dead, .string ⟨Y.val.text.toArray⟩, yp, ym, .int .u64 (Y.val.flags.toNat : Int)] 48)).alloc (.cells #[.int .i64 0, .slice none 0 0, .slice none 0 0] 25)) = W0 at *
  refine (change_any A _ _ HA.out hF).mono ?_
  rintro e W1 ⟨c, vs', vi', ps, rfl, hch, hb⟩
  have hN := hb.size
  have HC := Kept.mk hch
  replace BY := Kept.mk (BY.out.keep hb)
  replace BR := Kept.mk (BR.out.keep hb)
  replace hB := Kept.mk (hB.out.trans (hb.mono (by omega)))
  have ky0 := BY.out.cells.2 0 _ rfl
  have ky1 := BY.out.cells.2 1 _ rfl
  have ky2 := BY.out.cells.2 2 _ rfl
  have ky3 := BY.out.cells.2 3 _ rfl
  have ky4 := BY.out.cells.2 4 _ rfl
  have ky5 := BY.out.cells.2 5 _ rfl
  have ky6 := BY.out.cells.2 6 _ rfl
  have ky7 := BY.out.cells.2 7 _ rfl
  have ky8 := BY.out.cells.2 8 _ rfl
  have XY := Kept.mk (enO_of HY.out hB.out W0.heap.size (by omega))
  clear ka0 ka1 ka2 hb hch HA
  go_wp2_with fail
  refine (cjoin_any W0.heap.size c A Y _ _ _ _ W1 HC.out XY.out hF hY hN).mono ?_
  rintro e W2 ⟨rfl, ⟨vs2, vi2, ps2, hch2⟩, hb⟩
  have HC2 := Kept.mk hch2
  have BR2 := Kept.mk (BR.out.keepB hb (by omega))
  have hB2 := Kept.mk (hB.out.trans (hb.mono (by omega)))
  have k0 := HC2.out.st.cells.2 0 _ rfl
  have k1 := HC2.out.st.cells.2 1 _ rfl
  have k2 := HC2.out.st.cells.2 2 _ rfl
  clear hch2 hb BR hB HC BY XY ky0 ky1 ky2 ky3 ky4 ky5 ky6 ky7 ky8
  have HO : Kept (Ones [.int .i64 (joinAF A Y).cap, vs2, vi2]) := ⟨⟨rfl, (own_one HC2.out.own).2, (own_one HC2.out.idx).2, trivial⟩⟩
  go_wp2_with (have hz0 := HO; refine wpList_storeN 25 rfl (.tmp 4) (.tmp 21) rfl (w.heap.size + 1 + 1) [.int .i64 (joinAF A Y).cap, vs2, vi2] size_ar rfl rfl BR2.out.cells rfl BR2.out.free HO.out ?_; clear hz0 HO)
  exact bodyPost_ret (resultsN3 rfl _ _ (w.heap.size + 1 + 1) [.int .i64 (joinAF A Y).cap, vs2, vi2] (.bool (joinAB A Y)) (.int .i64 (joinAE A Y)) size_ar agg_ar rfl rfl rfl (BR2.out.all_ (l := [.int .i64 (joinAF A Y).cap, vs2, vi2]) rfl).cells) rfl ⟨_, rfl, HC2.out.ar_set (by omega) 0 _, below_setN (by omega) _ 0 _ hB2.out⟩
end Go.Proofs.YtkjghoomdefbbaaGreatDoor
end
section
namespace Go.Proofs.YtkjghoomdefbbaaGreatDoor
open Go.RowKit
set_option linter.unusedVariables false
set_option linter.unusedSimpArgs false
attribute [local irreducible] setN

theorem mergeF_snoc : ∀ (l : List En) (A : Ar) (x : En), mergeF A (l ++ [x]) = joinAF (mergeF A l) x
  | [], A, x => rfl
  | y :: r, A, x => by rw [List.cons_append, mergeF, mergeF, mergeF_snoc r]
theorem mergeN_snoc : ∀ (l : List En) (A : Ar) (x : En), mergeN A (l ++ [x]) = mergeN A l + (if joinAB (mergeF A l) x = true then 1 else 0)
  | [], A, x => Nat.add_comm _ _
  | y :: r, A, x => by rw [List.cons_append, mergeN, mergeN, mergeN_snoc r, mergeF]; omega
theorem mergeO_snoc : ∀ (l : List En) (A : Ar) (x : En), mergeO A (l ++ [x]) = mergeO A l + (if joinAE (mergeF A l) x = 0 then 0 else 1)
  | [], A, x => Nat.add_comm _ _
  | y :: r, A, x => by rw [List.cons_append, mergeO, mergeO, mergeO_snoc r, mergeF]; omega
theorem mergeN_le : ∀ (l : List En) (A : Ar), mergeN A l ≤ l.length
  | [], A => Nat.le_refl _
  | y :: r, A => by rw [mergeN, List.length_cons]; have := mergeN_le r (joinAF A y); split <;> omega
theorem mergeO_le : ∀ (l : List En) (A : Ar), mergeO A l ≤ l.length
  | [], A => Nat.le_refl _
  | y :: r, A => by rw [mergeO, List.length_cons]; have := mergeO_le r (joinAF A y); split <;> omega
theorem fitA_join {A : Ar} {x : En} (hF : FitA A) (hx : FitE x) : FitA (joinAF A x) := by
  cases h1 : (okA A && okE x) with
  | false => rw [(join_no h1).2.2]; exact hF
  | true =>
    rw [Bool.and_eq_true] at h1
    have ok := okA_iff.1 h1.1
    have h8 : A.slots.length ≤ 8 := by have := ok.fits; have := ok.room; omega
    cases h2 : hitB (ordA A) x with
    | true =>
      rw [(join_hit h1.1 h1.2 h2).2.2]
      obtain ⟨pr, _, _, pn⟩ := place_spec ok h2
      refine ⟨by unfold meetL; rw [List.length_set]; exact hF.slots, hF.index, fun e he => ?_⟩
      rcases List.mem_or_eq_of_mem_set he with he | rfl
      · exact hF.ents e he
      · refine ok_fit' (joinEF_ok ?_)
        unfold joinEE
        rw [ok.ents _ (slotAt_mem pr), h1.2, pn]; rfl
    | false =>
      by_cases h3 : (A.slots.length : Int) = A.cap
      · rw [(join_full h1.1 h1.2 h2 h3).2.2]; exact hF
      · rw [(join_new h1.1 h1.2 h2 h3).2.2]
        refine ⟨by rw [List.length_append]; simp; omega, ?_, fun e he => ?_⟩
        · have := ok.len
          unfold putIdx; simp; omega
        · rcases List.mem_append.1 he with he | he
          · exact hF.ents e he
          · rw [List.mem_singleton] at he; rw [he]; exact hx
theorem fit_merge : ∀ (l : List En) (A : Ar), FitA A → (∀ e ∈ l, FitE e) → FitA (mergeF A l)
  | [], A, h, _ => h
  | x :: r, A, h, hl => fit_merge r _ (fitA_join h (hl x (by simp))) (fun e he => hl e (by simp [he]))
set_option maxRecDepth 100000 in
set_option maxHeartbeats 2000000 in
theorem amerge_any (A : Ar) (L : List En) (v u : Value) (w : World) (hv : isAr A v w) (hu : isEns L u w) (hF : FitA A) (hL : ∀ e ∈ L, FitE e) (hLn : L.length ≤ 500) : Calls Tryz.prog 25 #[v, u] w fun e w' => ∃ v', e = .returned (.tuple #[v', .int .i64 (mergeN A L : Int), .int .i64 (mergeO A L : Int)]) ∧ isAr (mergeF A L) v' w' ∧ Below w.heap.size w w' := by
  obtain ⟨vs, vi, rfl, hs, hi⟩ := hv
  have hb0 : Below w.heap.size w ((w.alloc (.cells #[.int .i64 A.cap, vs, vi] 25)).alloc (.cells #[.int .i64 0, .slice none 0 0, .slice none 0 0] 25)) := ((Below.refl _ w).alloc (Nat.le_refl _) _).alloc (by simp) _
  have hsz : ((w.alloc (.cells #[.int .i64 A.cap, vs, vi] 25)).alloc (.cells #[.int .i64 0, .slice none 0 0, .slice none 0 0] 25)).heap.size = w.heap.size + 2 := by simp
  have HA := Kept.mk (show isAr A (.agg #[.int .i64 A.cap, vs, vi]) ((w.alloc (.cells #[.int .i64 A.cap, vs, vi] 25)).alloc (.cells #[.int .i64 0, .slice none 0 0, .slice none 0 0] 25)) from stable_ar A _ _ _ ⟨vs, vi, rfl, hs, hi⟩ hb0)
  have HU := Kept.mk hu
  obtain ⟨ua, uc, rfl⟩ := hu.len
  have BA := ((Blk.new w 25 [.int .i64 A.cap, vs, vi] w.heap.size rfl).alloc (.cells #[.int .i64 0, .slice none 0 0, .slice none 0 0] 25))
  have BR := Kept.mk (Blk.new (w.alloc (.cells #[.int .i64 A.cap, vs, vi] 25)) 25 [.int .i64 0, .slice none 0 0, .slice none 0 0] (w.heap.size + 1) (by simp))
  have ka0 := BA.cells.2 0 _ rfl
  have ka1 := BA.cells.2 1 _ rfl
  have ka2 := BA.cells.2 2 _ rfl
  have hB := Kept.mk hb0
  clear hs hi BA hb0 hu
  go_enter Tryz.func25, Tryz.ntmps25
  go_wp2_with fail
  generalize ((w.alloc (.cells #[.int .i64 A.cap, vs, vi] 25)).alloc (.cells #[.int .i64 0, .slice none 0 0, .slice none 0 0] 25)) = W0 at *
  refine (change_any A _ _ HA.out hF).mono ?_
  rintro e W1 ⟨c, vs', vi', ps, rfl, hch, hb⟩
  have hN := hb.size
  generalize hN0 : W0.heap.size = N0 at *
  have HC := Kept.mk (show JPost N0 c (mergeF A (L.take 0)) W1 from ⟨_, _, _, hch⟩)
  replace BR := Kept.mk (BR.out.keep (hN0 ▸ hb))
  replace hB := Kept.mk (hB.out.trans (hb.mono (by omega)))
  clear ka0 ka1 ka2 hb hch HA
  go_wp2
  go_loopw [8, 9, 18] (fun s8 s9 i wr => ∃ k : Nat, k ≤ L.length ∧ i = .int .i64 (k : Int) ∧ s8 = .int .i64 (mergeN A (L.take k) : Int) ∧ s9 = .int .i64 (mergeO A (L.take k) : Int) ∧ Kept (Below w.heap.size w wr) ∧ Kept (N0 ≤ wr.heap.size) ∧ Kept (Blk wr (w.heap.size + 1) [.int .i64 0, .slice none 0 0, .slice none 0 0]) ∧ Kept (JPost N0 c (mergeF A (L.take k)) wr)) (fun _ _ i _ => L.length - (intOf i).toNat)
  case atStart => exact ⟨0, Nat.zero_le _, rfl, rfl, rfl, hB, ⟨hN⟩, BR, HC⟩
  case round =>
    clear hB BR HC
    obtain ⟨k, hk, rfl, rfl, rfl, B, HN, BR, HC⟩ := hrel
    by_cases hlt : k < L.length
    · have hlt' : (k : Int) < (L.length : Int) := by omega
      obtain ⟨X, hX⟩ : ∃ X, L[k]? = some X := ⟨_, List.getElem?_eq_getElem hlt⟩
      obtain ⟨bs, os, cs', hvs, hbs, hat⟩ := HU.out.get hX
      injection hvs with h1 _ h2
      subst h1 h2
      obtain ⟨xp, xm, hcell, hp0, hm0⟩ := hat
      have FX := Kept.mk (hL X (List.mem_of_getElem? hX))
      have FA := Kept.mk (fit_merge (L.take k) A hF (fun e he => hL e (List.mem_of_mem_take he)))
      have hp := stable_cells _ _ _ _ hp0 B.out
      have hm := stable_cells _ _ _ _ hm0 B.out
      have hsw := B.out.size
      obtain ⟨K1, K2, K3, K4, K5⟩ := enew wr X xp xm hp hm wr.heap.size rfl
      have XO := Kept.mk (enO_of (w := w) (show isEn X (.agg #[.string ⟨X.key.toArray⟩, .int .i64 X.val.kind, .int .i64 X.val.time, .int .i64 X.val.node, .bool X.val.dead, .string ⟨X.val.text.toArray⟩, xp, xm, .int .u64 (X.val.flags.toNat : Int)]) w from ⟨xp, xm, rfl, hp0, hm0⟩) (B.out.trans (K3.out.mono hsw)) N0 (by omega))
      have kc0 : wr.cell? ⟨bs, os + k * 9, none⟩ = _ := (B.out.cell (p := ⟨bs, os + k * 9 + 0, none⟩) hbs).trans (hcell 0 _ rfl)
      have kc1 : wr.cell? ⟨bs, os + k * 9 + 1, none⟩ = _ := (B.out.cell (p := ⟨bs, os + k * 9 + 1, none⟩) hbs).trans (hcell 1 _ rfl)
      have kc2 : wr.cell? ⟨bs, os + k * 9 + 2, none⟩ = _ := (B.out.cell (p := ⟨bs, os + k * 9 + 2, none⟩) hbs).trans (hcell 2 _ rfl)
      have kc3 : wr.cell? ⟨bs, os + k * 9 + 3, none⟩ = _ := (B.out.cell (p := ⟨bs, os + k * 9 + 3, none⟩) hbs).trans (hcell 3 _ rfl)
      have kc4 : wr.cell? ⟨bs, os + k * 9 + 4, none⟩ = _ := (B.out.cell (p := ⟨bs, os + k * 9 + 4, none⟩) hbs).trans (hcell 4 _ rfl)
      have kc5 : wr.cell? ⟨bs, os + k * 9 + 5, none⟩ = _ := (B.out.cell (p := ⟨bs, os + k * 9 + 5, none⟩) hbs).trans (hcell 5 _ rfl)
      have kc6 : wr.cell? ⟨bs, os + k * 9 + 6, none⟩ = _ := (B.out.cell (p := ⟨bs, os + k * 9 + 6, none⟩) hbs).trans (hcell 6 _ rfl)
      have kc7 : wr.cell? ⟨bs, os + k * 9 + 7, none⟩ = _ := (B.out.cell (p := ⟨bs, os + k * 9 + 7, none⟩) hbs).trans (hcell 7 _ rfl)
      have kc8 : wr.cell? ⟨bs, os + k * 9 + 8, none⟩ = _ := (B.out.cell (p := ⟨bs, os + k * 9 + 8, none⟩) hbs).trans (hcell 8 _ rfl)
      have htk : L.take (k + 1) = L.take k ++ [X] := by rw [List.take_add_one, hX]; rfl
      have HT := Kept.mk htk
      clear hcell hp hm hp0 hm0 hX htk
      go_wp2_with (have hz0 := K1; refine wpList_storeN 48 rfl (.tmp 11) (.tmp 21) rfl wr.heap.size [.string ⟨X.key.toArray⟩, .int .i64 X.val.kind, .int .i64 X.val.time, .int .i64 X.val.node, .bool X.val.dead, .string ⟨X.val.text.toArray⟩, xp, xm, .int .u64 (X.val.flags.toNat : Int)] size_en rfl rfl K1.out rfl K2.out K5.out ?_; clear hz0 K1 K2 K5 kc0 kc1 kc2 kc3 kc4 kc5 kc6 kc7 kc8; have kx0 := K4.out.1.2 0 _ rfl; have kx1 := K4.out.1.2 1 _ rfl; have kx2 := K4.out.1.2 2 _ rfl; have kx3 := K4.out.1.2 3 _ rfl; have kx4 := K4.out.1.2 4 _ rfl; have kx5 := K4.out.1.2 5 _ rfl; have kx6 := K4.out.1.2 6 _ rfl; have kx7 := K4.out.1.2 7 _ rfl; have kx8 := K4.out.1.2 8 _ rfl)
      have hs2 := K3.out.size
      obtain ⟨vs2, vi2, ps2, hch⟩ := HC.out
      have hch2 := hch.keep K3.out
      have BR2 := BR.out.keep K3.out
      have B2 := B.out.trans (K3.out.mono hsw)
      have hbr := BR.out.lt
      generalize (setN (wr.alloc (.cells #[.string ⟨#[]⟩, .int .i64 0, .int .i64 0, .int .i64 0, .bool false, .string ⟨#[]⟩, .slice none 0 0, .slice none 0 0, .int .u64 0] 48)) wr.heap.size 0 [.string ⟨X.key.toArray⟩, .int .i64 X.val.kind, .int .i64 X.val.time, .int .i64 X.val.node, .bool X.val.dead, .string ⟨X.val.text.toArray⟩, xp, xm, .int .u64 (X.val.flags.toNat : Int)]) = W2 at *
      have hnw : N0 ≤ W2.heap.size := Nat.le_trans HN.out hs2
      refine (cjoin_any N0 c (mergeF A (L.take k)) X _ _ _ _ W2 hch2 XO.out FA.out FX.out hnw).mono ?_
      rintro e W3 ⟨rfl, hp3, hb3⟩
      have B3 := Kept.mk (B2.trans (hb3.mono (by omega)))
      have BR3 := Kept.mk (BR2.keepB hb3 (by omega))
      have HN3 : Kept (N0 ≤ W3.heap.size) := ⟨Nat.le_trans hnw hb3.size⟩
      have HC3 := Kept.mk (show JPost N0 c (mergeF A (L.take (k + 1))) W3 by rw [HT.out, mergeF_snoc]; exact hp3)
      have hmn := mergeN_snoc (L.take k) A X
      have hmo := mergeO_snoc (L.take k) A X
      have b1 := mergeN_le (L.take k) A
      have b2 := mergeO_le (L.take k) A
      have b3 : (L.take k).length ≤ L.length := by simp; omega
      clear hp3 hb3 hch hch2 BR2 B2 K3 K4 XO kx0 kx1 kx2 kx3 kx4 kx5 kx6 kx7 kx8
      generalize joinAE (mergeF A (L.take k)) X = RE at *
      generalize joinAB (mergeF A (L.take k)) X = RB at *
      rw [← HT.out] at hmn hmo
      have HM := Kept.mk (And.intro hmn hmo)
      clear hmn hmo
      generalize mergeN A (L.take k) = n1 at *
      generalize mergeO A (L.take k) = n2 at *
      by_cases hre : RE = 0
      · subst hre
        cases RB with
        | true =>
          go_wp2
          go_roundw
          case rel => exact ⟨k + 1, by omega, by go_num, by rw [HM.out.1]; go_num, by rw [HM.out.2]; rfl, B3, HN3, BR3, HC3⟩
          case measure => simp [intOf]; omega
        | false =>
          go_wp2
          go_roundw
          case rel => exact ⟨k + 1, by omega, by go_num, by rw [HM.out.1]; rfl, by rw [HM.out.2]; rfl, B3, HN3, BR3, HC3⟩
          case measure => simp [intOf]; omega
      · have hre2 : (RE != 0) = true := by simpa using hre
        have hre3 : (RE == 0) = false := by simpa using hre
        cases RB with
        | true =>
          go_wp2
          go_roundw
          case rel => exact ⟨k + 1, by omega, by go_num, by rw [HM.out.1]; go_num, by rw [HM.out.2, if_neg hre]; go_num, B3, HN3, BR3, HC3⟩
          case measure => simp [intOf]; omega
        | false =>
          go_wp2
          go_roundw
          case rel => exact ⟨k + 1, by omega, by go_num, by rw [HM.out.1]; rfl, by rw [HM.out.2, if_neg hre]; go_num, B3, HN3, BR3, HC3⟩
          case measure => simp [intOf]; omega
    · have hlt' : ¬ (k : Int) < (L.length : Int) := by omega
      have htk : L.take k = L := List.take_of_length_le (by omega)
      obtain ⟨vs2, vi2, ps2, hch⟩ := HC.out
      rw [htk] at hch ⊢
      have HC2 := Kept.mk hch
      have k0 := HC2.out.st.cells.2 0 _ rfl
      have k1 := HC2.out.st.cells.2 1 _ rfl
      have k2 := HC2.out.st.cells.2 2 _ rfl
      clear hch htk HC
      have HO : Kept (Ones [.int .i64 (mergeF A L).cap, vs2, vi2]) := ⟨⟨rfl, (own_one HC2.out.own).2, (own_one HC2.out.idx).2, trivial⟩⟩
      go_wp2_with (have hz0 := HO; refine wpList_storeN 25 rfl (.tmp 4) (.tmp 39) rfl (w.heap.size + 1) [.int .i64 (mergeF A L).cap, vs2, vi2] size_ar rfl rfl BR.out.cells rfl BR.out.free HO.out ?_; clear hz0 HO)
      exact bodyPost_ret (resultsN3 rfl _ _ (w.heap.size + 1) [.int .i64 (mergeF A L).cap, vs2, vi2] (.int .i64 (mergeN A L : Int)) (.int .i64 (mergeO A L : Int)) size_ar agg_ar rfl rfl rfl (BR.out.all_ (l := [.int .i64 (mergeF A L).cap, vs2, vi2]) rfl).cells) rfl ⟨_, rfl, HC2.out.ar_set (by omega) 0 _, below_setN (by omega) _ 0 _ B.out⟩
end Go.Proofs.YtkjghoomdefbbaaGreatDoor
end
section
namespace Go.Proofs.YtkjghoomdefbbaaGreatDoor
open Go.RowKit Go.Shelf
set_option linter.unusedVariables false
set_option linter.unusedSimpArgs false
attribute [local irreducible] setN
attribute [local go_sem] Oper.semAt_some

abbrev El := Nat × En × Value × Value
def encE (x : El) : Array Value := #[.int .i64 (x.1 : Int), .agg #[.string ⟨x.2.1.key.toArray⟩, .int .i64 x.2.1.val.kind, .int .i64 x.2.1.val.time, .int .i64 x.2.1.val.node, .bool x.2.1.val.dead, .string ⟨x.2.1.val.text.toArray⟩, x.2.2.1, x.2.2.2, .int .u64 (x.2.1.val.flags.toNat : Int)]]
/-- A slot of the arena, as it stands in w. -/
def OkEl (A : Ar) (w : World) (x : El) : Prop := A.slots[x.1]? = some x.2.1 ∧ isCells (x.2.1.val.plus.map intC) x.2.2.1 w ∧ isCells (x.2.1.val.minus.map intC) x.2.2.2 w
/-- What the iterator wants kept: all that is older than n0, and block Bs. -/
def KpA (n0 Bs : Nat) (W W' : World) : Prop := W.heap.size ≤ W'.heap.size ∧ ∀ b, (b < n0 ∨ b = Bs) → W'.heap[b]? = W.heap[b]?
theorem kpA_t (n0 Bs : Nat) {A B C : World} (h : KpA n0 Bs A B) (k : KpA n0 Bs B C) : KpA n0 Bs A C := ⟨Nat.le_trans h.1 k.1, fun b hb => (k.2 b hb).trans (h.2 b hb)⟩
theorem kpA_below {n0 Bs : Nat} {W W' : World} (h : Below W.heap.size W W') (h1 : n0 ≤ W.heap.size) (h2 : Bs < W.heap.size) : KpA n0 Bs W W' := ⟨h.size, fun b hb => h.block b (by omega)⟩
structure ItA (A : Ar) (vs vi : Value) (w : World) (n0 Bs : Nat) (W : World) : Prop where
  size : n0 ≤ W.heap.size
  lt : Bs < W.heap.size
  old : ∀ b, b < n0 → W.heap[b]? = w.heap[b]?
  box : W.heap[Bs]? = some (.cells #[.int .i64 A.cap, vs, vi] 25 (0, 0))
theorem ItA.kp {A : Ar} {vs vi : Value} {w : World} {n0 Bs : Nat} {W W' : World} (h : ItA A vs vi w n0 Bs W) (k : KpA n0 Bs W W') : ItA A vs vi w n0 Bs W' :=
  ⟨Nat.le_trans h.size k.1, Nat.lt_of_lt_of_le h.lt k.1, fun b hb => (k.2 b (.inl hb)).trans (h.old b hb), (k.2 Bs (.inr rfl)).trans h.box⟩
theorem ItA.up {A : Ar} {vs vi : Value} {w : World} {Bs : Nat} {W : World} (h : ItA A vs vi w w.heap.size Bs W) : Below w.heap.size w { w with heap := W.heap } := ⟨rfl, rfl, rfl, h.size, h.old⟩
theorem ItA.ar {A : Ar} {vs vi : Value} {w : World} {Bs : Nat} {W : World} (h : ItA A vs vi w w.heap.size Bs W) (ha : isAr A (.agg #[.int .i64 A.cap, vs, vi]) w) : isAr A (.agg #[.int .i64 A.cap, vs, vi]) W := by
  have := stable_ar A _ w { w with heap := W.heap } ha h.up
  exact this
theorem ItA.cells_ {A : Ar} {vs vi : Value} {w : World} {Bs : Nat} {W : World} (h : ItA A vs vi w w.heap.size Bs W) {cs : List Value} {v : Value} (hc : isCells cs v w) : isCells cs v W := by
  have := stable_cells cs v w { w with heap := W.heap } hc h.up
  exact this
theorem ItA.cell {A : Ar} {vs vi : Value} {w : World} {n0 Bs : Nat} {W : World} (h : ItA A vs vi w n0 Bs W) (j : Nat) : W.cell? ⟨Bs, j, none⟩ = #[.int .i64 A.cap, vs, vi][j]? := by simp [World.cell?, h.box]
theorem ItA.at_ {A : Ar} {vs vi : Value} {w : World} {n0 Bs : Nat} {W : World} (h : ItA A vs vi w n0 Bs W) {b k : Nat} (hb : b < n0) : W.cell? ⟨b, k, none⟩ = w.cell? ⟨b, k, none⟩ := World.cell?_of_block (a := ⟨b, k, none⟩) (h.old b hb)
theorem abide {J : List El → World → Prop} {B : Nat} (h : AbidesFrom B J) {p : List El} {W W' : World} (hJ : J p W) (hb : Below W.heap.size W W') : J p W' := h p W W' none hJ ⟨hb.os, hb.tape, hb.output, hb.size, fun k hk _ => hb.block k hk⟩ (fun r e => by cases e)
theorem take_el {A : Ar} {p : List El} {k : Nat} {E : En} (hp : p.map (·.1) = List.range k) (hs : p.map (·.2.1) = A.slots.take k) (hE : A.slots[k]? = some E) (ep em : Value) : (p ++ [(k, E, ep, em)]).map (·.1) = List.range (k + 1) ∧ (p ++ [(k, E, ep, em)]).map (·.2.1) = A.slots.take (k + 1) := by
  rw [List.map_append, List.map_append, hp, hs, List.range_succ, List.take_add_one, hE]
  exact ⟨rfl, rfl⟩
section
variable {P : Program} {ops : Array Oper} {rest : List Oper} {o : Oper} {a : Act} {w : World} {Q : Exit → Act → World → Prop} {F : Fence} {n : Nat}
theorem wpListIn_storeN (hFn : ∀ f, F.fn f) (t : TypeId) (hgd : o.guard = none) (x y : Operand) (ho : o.op = .store t x y)
    (g : Nat) (l : List Value) (hs : (P.info? t).map (·.size) = some l.length) (hx : a.eval x = .pointer (some ⟨g, 0, none⟩)) (hy : a.eval y = .agg l.toArray) {old : List Value} (h : CellsN w g old) (hl : old.length = l.length) (hf : Free5 w g) (h1 : Ones l)
    (hr : wpListIn F n P ops Q rest (a.put o.dst undef) (setN w g 0 l)) : wpListIn F n P ops Q (o :: rest) a w :=
  wpListIn_plain hgd fun K hK => by
    unfold Oper.wpIn
    refine ⟨fun f _ => hFn f, ?_⟩
    rw [Oper.semAt_eq _ _ _ (by intro c e; rw [ho] at e; cases e)]
    unfold execOp
    rw [ho]
    simp only [hx, hy, Sem.run_bind, storeN t g w old l hs h hl hf h1, Result.andThen_ok, Sem.run_pure, Oper.uponIn]
    exact hK _ _ hr
end
def PlPost (A : Ar) (w : World) (J Jx : List El → World → Prop) (W' : World) : Prop := (∃ ys, (∀ x ∈ ys, OkEl A w x) ∧ ys.map (·.1) = (if okA A = true then List.range A.slots.length else []) ∧ ys.map (·.2.1) = (if okA A = true then A.slots else []) ∧ J ys W') ∨ (∃ pre, (∀ x ∈ pre, OkEl A w x) ∧ okA A = true ∧ Jx pre W')
set_option maxRecDepth 100000 in
set_option maxHeartbeats 2000000 in
theorem place1_in (m : Nat) (hm : 1 ≤ m) (l Bs : Nat) (A : Ar) (vs vi : Value) (w : World) (hs : isEns A.slots vs w) (hi : isCells (A.index.map intC) vi w) (hF : FitA A) (J Jx : List El → World → Prop) (B0 : Nat) (hJa : AbidesFrom B0 J)
    (hY : ∀ pre x W, J pre W → OkEl A w x → pre.length < A.slots.length → YieldAt Fence.wide (m - 1) Tryz.prog l (encE x) W fun e W' =>
      (e = .returned (.bool true) ∧ J (pre ++ [x]) W' ∧ KpA w.heap.size Bs W W') ∨ (e = .returned (.bool false) ∧ Jx (pre ++ [x]) W'))
    (W : World) (hI : ItA A vs vi w w.heap.size Bs W) (h0 : J [] W) :
    CallsIn Fence.wide m Tryz.prog 104 #[.func (.yield l) #[] #[], .pointer (some ⟨Bs, 0, none⟩)] W fun e W' => (∃ v, e = .returned v) ∧
      PlPost A w J Jx W' := by
  have k0 := hI.cell 0
  have k1 := hI.cell 1
  have k2 := hI.cell 2
  simp only [List.getElem?_toArray, List.getElem?_cons_zero, List.getElem?_cons_succ] at k0 k1 k2
  have XA := Kept.mk (hI.ar ⟨vs, vi, rfl, hs, hi⟩)
  have HI := Kept.mk hI
  have HJ := Kept.mk h0
  have HS := Kept.mk hs
  obtain ⟨sa, cs, e0⟩ := hs.len
  subst e0
  clear hI h0 hs hi
  have f1 := hF.slots
  cases hok : okA A with
  | false =>
    have CK := Kept.mk (chk_A0 hok)
    refine callsIn_of_wp Tryz.func104 rfl trivial ?_ rfl
    simp only [Tryz.ntmps104, List.size_toArray, List.length_cons, List.length_nil, Nat.reduceAdd, Nat.reduceSub, Array.replicate_succ, Array.replicate_zero, List.push_toArray, List.append_toArray, List.nil_append, List.cons_append]
    gi_wp2_with (refine ⟨trivial, (callsIn_wide.2 (acheck_any A _ _ XA.out hF)).mono ?_⟩; rintro e W1 ⟨rfl, hb⟩; rw [CK.out])
    refine bodyPost_ret (results_none rfl _ _ _) rfl ?_
    exact ⟨⟨_, rfl⟩, .inl ⟨[], (fun x hx => by cases hx), by rw [hok]; rfl, by rw [hok]; rfl, abide hJa HJ.out hb⟩⟩
  | true =>
    have CK := Kept.mk (chk_A1 hok)
    generalize hN : A.slots.length = N at *
    have HN := Kept.mk hN
    clear hN
    refine callsIn_of_wp Tryz.func104 rfl trivial ?_ rfl
    simp only [Tryz.ntmps104, List.size_toArray, List.length_cons, List.length_nil, Nat.reduceAdd, Nat.reduceSub, Array.replicate_succ, Array.replicate_zero, List.push_toArray, List.append_toArray, List.nil_append, List.cons_append]
    gi_wp2_with (refine ⟨trivial, (callsIn_wide.2 (acheck_any A _ _ XA.out hF)).mono ?_⟩; rintro e W1 ⟨rfl, hb⟩; rw [CK.out]; have HI1 := Kept.mk (HI.out.kp (kpA_below hb HI.out.size HI.out.lt)); have HJ1 := Kept.mk (abide hJa HJ.out hb); have k3 := HI1.out.cell 1; simp only [List.getElem?_toArray, List.getElem?_cons_zero, List.getElem?_cons_succ] at k3)
    gi_loopw [11] (fun i wr => ∃ k : Nat, k ≤ N ∧ i = .int .i64 (k : Int) ∧ Kept (ItA A (.slice sa N cs) vi w w.heap.size Bs wr) ∧ Kept (∃ p : List El, (∀ x ∈ p, OkEl A w x) ∧ p.map (·.1) = List.range k ∧ p.map (·.2.1) = A.slots.take k ∧ J p wr)) (fun i _ => N - (intOf i).toNat)
    case atStart => exact ⟨0, Nat.zero_le _, rfl, HI1, ⟨[], (fun x hx => by cases hx), rfl, rfl, HJ1.out⟩⟩
    case round =>
      clear HI1 HJ1 k3 HI HJ XA k0 k1 k2
      obtain ⟨k, hk, rfl, HI, HP⟩ := hrel
      by_cases hlt : k < N
      · have hlt' : (k : Int) < (N : Int) := by omega
        obtain ⟨E, hE⟩ : ∃ E, A.slots[k]? = some E := ⟨_, List.getElem?_eq_getElem (by rw [HN.out]; exact hlt)⟩
        obtain ⟨bs, os, cs', hvs, hbs, ep, em, hcell, hp, hm⟩ := HS.out.get hE
        injection hvs with h1 hx1 h2
        clear hx1
        subst h1 h2
        obtain ⟨p, hpo, hp1, hp2, hpJ⟩ := HP.out
        obtain ⟨K1, K2, K3, K4, K5⟩ := enew wr E ep em (HI.out.cells_ hp) (HI.out.cells_ hm) wr.heap.size rfl
        obtain ⟨q1, q2⟩ := take_el hp1 hp2 hE ep em
        have hlen : p.length = k := by have := congrArg List.length hp1; simpa using this
        have hJ2 := abide hJa hpJ K3.out
        obtain ⟨fn, tmps, assign, body, hy, hR⟩ := hY p (k, E, ep, em) _ hJ2 ⟨hE, hp, hm⟩ (by omega)
        simp only [encE] at hy
        have HI2 := Kept.mk (HI.out.kp (kpA_below K3.out HI.out.size HI.out.lt))
        have HQ := Kept.mk (And.intro (show ∀ x ∈ p ++ [(k, E, ep, em)], OkEl A w x from fun x hx => (List.mem_append.1 hx).elim (hpo x) (fun hx => by rw [List.mem_singleton] at hx; subst hx; exact ⟨hE, hp, hm⟩)) (And.intro q1 q2))
        have kc0 : wr.cell? ⟨bs, os + k * 9, none⟩ = _ := (HI.out.at_ (k := os + k * 9 + 0) hbs).trans (hcell 0 _ rfl)
        have kc1 : wr.cell? ⟨bs, os + k * 9 + 1, none⟩ = _ := (HI.out.at_ (k := os + k * 9 + 1) hbs).trans (hcell 1 _ rfl)
        have kc2 : wr.cell? ⟨bs, os + k * 9 + 2, none⟩ = _ := (HI.out.at_ (k := os + k * 9 + 2) hbs).trans (hcell 2 _ rfl)
        have kc3 : wr.cell? ⟨bs, os + k * 9 + 3, none⟩ = _ := (HI.out.at_ (k := os + k * 9 + 3) hbs).trans (hcell 3 _ rfl)
        have kc4 : wr.cell? ⟨bs, os + k * 9 + 4, none⟩ = _ := (HI.out.at_ (k := os + k * 9 + 4) hbs).trans (hcell 4 _ rfl)
        have kc5 : wr.cell? ⟨bs, os + k * 9 + 5, none⟩ = _ := (HI.out.at_ (k := os + k * 9 + 5) hbs).trans (hcell 5 _ rfl)
        have kc6 : wr.cell? ⟨bs, os + k * 9 + 6, none⟩ = _ := (HI.out.at_ (k := os + k * 9 + 6) hbs).trans (hcell 6 _ rfl)
        have kc7 : wr.cell? ⟨bs, os + k * 9 + 7, none⟩ = _ := (HI.out.at_ (k := os + k * 9 + 7) hbs).trans (hcell 7 _ rfl)
        have kc8 : wr.cell? ⟨bs, os + k * 9 + 8, none⟩ = _ := (HI.out.at_ (k := os + k * 9 + 8) hbs).trans (hcell 8 _ rfl)
        clear hcell hp hm hp1 hp2 hpJ hpo q1 q2 hE hJ2
        gi_wp2_with (have hz0 := K1; refine wpListIn_storeN (fun _ => trivial) 48 rfl (.tmp 4) (.tmp 15) rfl wr.heap.size [.string ⟨E.key.toArray⟩, .int .i64 E.val.kind, .int .i64 E.val.time, .int .i64 E.val.node, .bool E.val.dead, .string ⟨E.val.text.toArray⟩, ep, em, .int .u64 (E.val.flags.toNat : Int)] size_en rfl rfl K1.out rfl K2.out K5.out ?_; clear hz0 K1 K2 K5 kc0 kc1 kc2 kc3 kc4 kc5 kc6 kc7 kc8; have kx0 := K4.out.1.2 0 _ rfl; have kx1 := K4.out.1.2 1 _ rfl; have kx2 := K4.out.1.2 2 _ rfl; have kx3 := K4.out.1.2 3 _ rfl; have kx4 := K4.out.1.2 4 _ rfl; have kx5 := K4.out.1.2 5 _ rfl; have kx6 := K4.out.1.2 6 _ rfl; have kx7 := K4.out.1.2 7 _ rfl; have kx8 := K4.out.1.2 8 _ rfl; generalize setN (wr.alloc (.cells #[.string ⟨#[]⟩, .int .i64 0, .int .i64 0, .int .i64 0, .bool false, .string ⟨#[]⟩, .slice none 0 0, .slice none 0 0, .int .u64 0] 48)) wr.heap.size 0 [.string ⟨E.key.toArray⟩, .int .i64 E.val.kind, .int .i64 E.val.time, .int .i64 E.val.node, .bool E.val.dead, .string ⟨E.val.text.toArray⟩, ep, em, .int .u64 (E.val.flags.toNat : Int)] = W2 at *)
        refine hR.mono ?_
        rintro e W3 (⟨rfl, hJ3, hk3⟩ | ⟨rfl, hJx3⟩)
        · have HI3 := Kept.mk (HI2.out.kp hk3)
          have HP3 : Kept (∃ p : List El, (∀ x ∈ p, OkEl A w x) ∧ p.map (·.1) = List.range (k + 1) ∧ p.map (·.2.1) = A.slots.take (k + 1) ∧ J p W3) := ⟨_, HQ.out.1, HQ.out.2.1, HQ.out.2.2, hJ3⟩
          clear hJ3 hk3
          gi_wp2
          go_roundw
          case rel => exact ⟨k + 1, by omega, by go_num, HI3, HP3⟩
          case measure => simp [intOf]; omega
        · have HX := Kept.mk hJx3
          clear hJx3
          gi_wp2
          refine bodyPost_ret (results_none rfl _ _ _) rfl ?_
          exact ⟨⟨_, rfl⟩, .inr ⟨_, HQ.out.1, hok, HX.out⟩⟩
      · have hlt' : ¬ (k : Int) < (N : Int) := by omega
        obtain rfl : k = N := by omega
        obtain ⟨p, hpo, hp1, hp2, hpJ⟩ := HP.out
        have HP2 := Kept.mk (show PlPost A w J Jx wr from .inl ⟨p, hpo, by rw [hok, if_pos rfl, HN.out]; exact hp1, by rw [hok, if_pos rfl, hp2]; exact List.take_of_length_le (by rw [HN.out]; exact Nat.le_refl _), hpJ⟩)
        clear hpo hp1 hp2 hpJ
        gi_wp2
        go_end0
        exact ⟨⟨_, rfl⟩, HP2.out⟩
end Go.Proofs.YtkjghoomdefbbaaGreatDoor
end
section
namespace Go.Proofs.YtkjghoomdefbbaaGreatDoor
open Go.RowKit Go.Shelf
set_option linter.unusedVariables false
set_option linter.unusedSimpArgs false
attribute [local irreducible] setN
attribute [local go_sem] Oper.semAt_some

def NmPost (A : Ar) (w : World) (J Jx : List El → World → Prop) (W' : World) : Prop := (∃ ys, (∀ x ∈ ys, OkEl A w x) ∧ ys.map (·.2.1) = (if okA A = true then ordA A else []) ∧ J ys W') ∨ (∃ pre, (∀ x ∈ pre, OkEl A w x) ∧ okA A = true ∧ Jx pre W')
set_option maxRecDepth 100000 in
set_option maxHeartbeats 2000000 in
theorem placec_call (m : Nat) (A : Ar) (vs vi : Value) (w : World) : CallsIn Fence.wide m Tryz.prog 78 #[.agg #[.int .i64 A.cap, vs, vi]] w fun e w' => e = .returned (.func (.func 104) #[] #[.pointer (some ⟨w.heap.size, 0, none⟩)]) ∧ w' = w.alloc (.cells #[.int .i64 A.cap, vs, vi] 25) := by
  refine callsIn_of_wp Tryz.func78 rfl trivial ?_ rfl
  simp only [Tryz.ntmps78, List.size_toArray, List.length_cons, List.length_nil, Nat.reduceAdd, Nat.reduceSub, Array.replicate_succ, Array.replicate_zero, List.push_toArray, List.append_toArray, List.nil_append, List.cons_append]
  gi_wp2
  go_ret
  exact ⟨by simp, rfl⟩
theorem placec_stops (m : Nat) (hm : 1 ≤ m) (Bs : Nat) (A : Ar) (vs vi : Value) (w w0 : World) (hs : isEns A.slots vs w) (hi : isCells (A.index.map intC) vi w) (hF : FitA A) (hI : ItA A vs vi w w.heap.size Bs w0) :
    SeqStopsK Fence.wide m Tryz.prog 104 #[.pointer (some ⟨Bs, 0, none⟩)] (fun x : { x : El // OkEl A w x } => encE x.1) (KpA w.heap.size Bs) (fun ys => ys.map (·.1.1) = (if okA A = true then List.range A.slots.length else []) ∧ ys.map (·.1.2.1) = (if okA A = true then A.slots else [])) (fun _ => okA A = true) A.slots.length w0 := fun l J Jx W hW hJa _ hY h0 =>
  (place1_in m hm l Bs A vs vi w hs hi hF (fun ns W => ∃ p : List { x : El // OkEl A w x }, p.map (·.1) = ns ∧ J p W) (fun ns W => ∃ p : List { x : El // OkEl A w x }, p.map (·.1) = ns ∧ Jx p W) W.heap.size
    (fun s W W' row ⟨p, hp, hJ⟩ hg hr => ⟨p, hp, hJa p W W' row hJ hg hr⟩)
    (fun pre x W ⟨p, hp, hJ⟩ hx h2 => (hY p ⟨x, hx⟩ W hJ (by rw [← hp, List.length_map] at h2; exact h2)).mono fun e W' h => by
      rcases h with ⟨rfl, h, hk⟩ | ⟨rfl, h⟩
      · exact .inl ⟨rfl, ⟨_, by simp [hp], h⟩, hk⟩
      · exact .inr ⟨rfl, ⟨_, by simp [hp], h⟩⟩) W (hI.kp ⟨hW.size, fun b hb => hW.block b (by have := hI.size; have := hI.lt; omega)⟩) ⟨[], rfl, h0⟩).mono fun e W' ⟨he, h⟩ => by
    refine ⟨he, ?_⟩
    rcases h with ⟨ys, _, h1, h2, p, hp, hJ⟩ | ⟨pre, _, hok, p, hp, hJ⟩
    · exact .inl ⟨p, ⟨by rw [← h1, ← hp, List.map_map]; rfl, by rw [← h2, ← hp, List.map_map]; rfl⟩, hJ⟩
    · exact .inr ⟨p, hok, hJ⟩
end Go.Proofs.YtkjghoomdefbbaaGreatDoor
end
section
namespace Go.Proofs.YtkjghoomdefbbaaGreatDoor
open Go.RowKit Go.Shelf
set_option linter.unusedVariables false
set_option linter.unusedSimpArgs false
attribute [local irreducible] setN
attribute [local go_sem] Oper.semAt_some

/-- The row so far, in the variable of block b1. -/
structure OutS (N0 b1 : Nat) (v : Value) (ps : List (En × Value × Value)) (W : World) : Prop where
  st : Blk W b1 [v]
  own : W.ownsRow N0 48 9 v ps.length (flatE ps)
  rows : RowsOk ps W
  off : ∀ q ∈ ps, ∀ b, v.ownBlock = some b → OffQ b q
  nw : ∀ q ∈ ps, NewB N0 q.2.1 ∧ NewB N0 q.2.2
theorem OutS.bt {N0 b1 : Nat} {v : Value} {ps : List (En × Value × Value)} {S : Nat → Prop} {W W' : World} (h : OutS N0 b1 v ps W) (bt : Bt S W W') (h1 : ¬ S b1) (h2 : ∀ b, N0 ≤ b → (∃ k x, W.cell? ⟨b, k, none⟩ = some x) → ¬ S b) (h3 : ∀ b, v.ownBlock = some b → ¬ S b) : OutS N0 b1 v ps W' := by
  refine ⟨bt.blk h.st h1, bt.own h.own h3, fun q hq => ?_, h.off, h.nw⟩
  have key : ∀ {cs : List Value} {u : Value}, isCells cs u W → NewB N0 u → cs = [] ∨ ∀ b, blk u = some b → ¬ S b := by
    intro cs u hc hn
    by_cases e : cs = []
    · exact .inl e
    · refine .inr (fun b hb => ?_)
      rcases hc with ⟨_, e'⟩ | ⟨_, _, _, e'⟩ | ⟨b', off, cap, eu, hlt, hcc⟩
      · exact absurd e' e
      · exact absurd e' e
      · rw [eu] at hb
        injection hb with hb
        have hbb : b' = b := hb
        subst hbb
        obtain ⟨x, r, rfl⟩ := List.exists_cons_of_ne_nil e
        exact h2 b' (hn b' (by rw [eu]; rfl)) ⟨off + 0, x, hcc 0 x rfl⟩
  exact ⟨bt.cells (h.rows q hq).1 (key (h.rows q hq).1 (h.nw q hq).1), bt.cells (h.rows q hq).2 (key (h.rows q hq).2 (h.nw q hq).2)⟩
theorem OutS.keep {N0 b1 : Nat} {v : Value} {ps : List (En × Value × Value)} {W W' : World} (h : OutS N0 b1 v ps W) (hb : Below W.heap.size W W') : OutS N0 b1 v ps W' :=
  ⟨h.st.keep hb, own_grow h.own hb, fun q hq => ⟨stable_cells _ _ _ _ (h.rows q hq).1 hb, stable_cells _ _ _ _ (h.rows q hq).2 hb⟩, h.off, h.nw⟩
theorem OutS.push {N0 b1 : Nat} {vs : Value} {ps : List (En × Value × Value)} {w w' : World} (h : OutS N0 b1 vs ps w) (hb1 : b1 < N0) (hN : N0 ≤ w.heap.size) (E : En) (v vp vm : Value)
    (h1 : w'.ownsRow N0 48 9 v (ps.length + 1) (flatE ps ++ enL E vp vm)) (h2 : isCells (E.val.plus.map intC) vp w') (h3 : isCells (E.val.minus.map intC) vm w') (h4 : NewB w.heap.size vp) (h5 : NewB w.heap.size vm) (h6 : v.ownBlock = vs.ownBlock ∨ NewB w.heap.size v) (h7 : ∀ b, v.ownBlock = some b → (E.val.plus.map intC = [] ∨ blk vp ≠ some b) ∧ (E.val.minus.map intC = [] ∨ blk vm ≠ some b)) (h8 : Blk w' b1 [v]) (h9 : Bt (fun b => b = b1 ∨ vs.ownBlock = some b) w w') : OutS N0 b1 v (ps ++ [(E, vp, vm)]) w' := by
  refine ⟨h8, by rw [List.length_append, flatE_snoc]; exact h1, fun q hq => ?_, fun q hq b hb => ?_, fun q hq => (List.mem_append.1 hq).elim (h.nw q) (fun hq => by rw [List.mem_singleton] at hq; subst hq; exact ⟨h4.low hN, h5.low hN⟩)⟩
  · rcases List.mem_append.1 hq with hq | hq
    · have o := h.off q hq
      have nw := h.nw q hq
      refine ⟨h9.cells (h.rows q hq).1 ?_, h9.cells (h.rows q hq).2 ?_⟩
      · by_cases e : q.1.val.plus.map intC = []
        · exact .inl e
        · exact .inr (fun b hb hS => by rcases hS with rfl | hS; (· have := nw.1 _ hb; omega); (· exact ((o b hS).1.resolve_left e) hb))
      · by_cases e : q.1.val.minus.map intC = []
        · exact .inl e
        · exact .inr (fun b hb hS => by rcases hS with rfl | hS; (· have := nw.2 _ hb; omega); (· exact ((o b hS).2.resolve_left e) hb))
    · rw [List.mem_singleton] at hq
      subst hq
      exact ⟨h2, h3⟩
  · rcases List.mem_append.1 hq with hq | hq
    · rcases h6 with e | e
      · exact h.off q hq b (by rw [← e]; exact hb)
      · have hbn := e b (own_blk_eq hb)
        refine ⟨(cells_lt (h.rows q hq).1).imp id (fun h3 e3 => ?_), (cells_lt (h.rows q hq).2).imp id (fun h3 e3 => ?_)⟩
        · have := h3 b e3; omega
        · have := h3 b e3; omega
    · rw [List.mem_singleton] at hq
      subst hq
      exact h7 b hb
theorem OutS.ens {N0 b1 : Nat} {v : Value} {ps : List (En × Value × Value)} {W : World} (h : OutS N0 b1 v ps W) : isEns (ps.map (·.1)) v W := own_ens h.own h.rows
theorem cell_cells {W : World} {b k : Nat} {x : Value} (h : W.cell? ⟨b, k, none⟩ = some x) {o : Obj} (ho : W.heap[b]? = some o) : o.isCells = true := by
  cases o <;> first | rfl | (simp [World.cell?, ho] at h)
/-- A step of the loop's own. -/
theorem out_own {B N0 b1 : Nat} (hb : b1 < B) : ∀ {v ps W W' row}, OutS N0 b1 v ps W → W.grownBy W' row → (∀ r, row = some r → B ≤ r ∧ ∃ o : Obj, W.heap[r]? = some o ∧ o.isCells = false) → OutS N0 b1 v ps W' := by
  intro v ps W W' row h hg hr
  have bt : Bt (fun b => row = some b) W W' := gb_bt hg (fun b e => e)
  refine h.bt bt (fun e => by have := (hr _ e).1; omega) (fun b _ ⟨k, x, hx⟩ e => ?_) (fun b hb e => ?_)
  · obtain ⟨_, o, ho, hc⟩ := hr b e
    rw [cell_cells hx ho] at hc; cases hc
  · obtain ⟨_, o, ho, hc⟩ := hr b e
    obtain ⟨_, ⟨rfl, _⟩ | ⟨g, cap, cur, rfl, _, hg', _⟩⟩ := h.own
    · cases hb
    · have : g = b := by injection hb
      subst this
      rw [hg'] at ho
      injection ho with ho
      subst ho
      cases hc
theorem blk_own {B h : Nat} {cs : List Value} (hne : cs ≠ []) {W W' : World} {row : Option Nat} (hb : Blk W h cs) (hg : W.grownBy W' row) (hr : ∀ r, row = some r → B ≤ r ∧ ∃ o : Obj, W.heap[r]? = some o ∧ o.isCells = false) : Blk W' h cs := by
  have bt : Bt (fun b => row = some b) W W' := gb_bt hg (fun b e => e)
  refine bt.blk hb (fun e => ?_)
  obtain ⟨_, o, ho, hc⟩ := hr h e
  obtain ⟨x, r, rfl⟩ := List.exists_cons_of_ne_nil hne
  rw [cell_cells (hb.cells.2 0 x rfl) ho] at hc; cases hc
theorem kpA_put (n0 Bs m : Nat) (h0 : n0 ≤ m) (hb : Bs < m) (W : World) (l : Nat) (o o' : Obj) (h : m ≤ l) (h1 : W.heap[l]? = some o) (h2 : o.isCells = false) (h3 : o.isWalk = false) : KpA n0 Bs W (W.putObj l o') := by
  have hg := grownBy_putObj' W l o'
  exact ⟨hg.size, fun b hb' => hg.block b (by have := (Array.getElem?_eq_some_iff.1 h1).1; omega) (by intro e; injection e with e; omega)⟩
noncomputable def ckappOps : Array Oper := regionOfR Tryz.f71 8
set_option maxRecDepth 100000 in
set_option maxHeartbeats 2000000 in
theorem ckapp_region {lp nn : Nat} (Q : Exit → Act → World → Prop) (a0 : Act) (w0 : World) (hQo : ¬ LetsOut Q) (hsz : a0.tmps.size = 31) (g h B n : Nat) (l : List Value) (E : En) (vs ep em : Value) (xs : List Value) (e1 : a0.tmps.getD 7 undef = .pointer (some ⟨g, 0, none⟩)) (e2 : a0.tmps.getD 9 undef = .pointer (some ⟨h, 0, none⟩))
    (HG : Blk w0 g l) (hl : l[0]? = some vs) (hE : Blk w0 h [.string ⟨E.key.toArray⟩, .int .i64 E.val.kind, .int .i64 E.val.time, .int .i64 E.val.node, .bool E.val.dead, .string ⟨E.val.text.toArray⟩, ep, em, .int .u64 (E.val.flags.toNat : Int)]) (hp : isCells (E.val.plus.map intC) ep w0) (hm : isCells (E.val.minus.map intC) em w0) (hF : FitE E) (hown : w0.ownsRow B 48 9 vs n xs) (hn : n ≤ 1000) (hB : B ≤ w0.heap.size)
    (hap : ∀ s, vs.ownBlock = some s → s ≠ g ∧ s ≠ h ∧ (E.val.plus.map intC = [] ∨ blk ep ≠ some s) ∧ (E.val.minus.map intC = [] ∨ blk em ≠ some s))
    (hQ : ∀ (y : Nat → Value) (v vp vm : Value) (w : World), w.ownsRow B 48 9 v (n + 1) (xs ++ enL E vp vm) → isCells (E.val.plus.map intC) vp w → isCells (E.val.minus.map intC) vm w → NewB w0.heap.size vp → NewB w0.heap.size vm → (v.ownBlock = vs.ownBlock ∨ NewB w0.heap.size v) → (∀ b, v.ownBlock = some b → (E.val.plus.map intC = [] ∨ blk vp ≠ some b) ∧ (E.val.minus.map intC = [] ∨ blk vm ≠ some b)) → Blk w g (l.set 0 v) → Bt (fun b => b = g ∨ vs.ownBlock = some b) w0 w →
      Q .normal { tmps := [25, 26, 27, 28, 29].foldl (fun t s => t.setIfInBounds s (y s)) a0.tmps, defers := a0.defers } w) :
    (Code.region 8 ckappOps true).wpIn (Fence.wide.inRound lp) nn Tryz.prog Q a0 w0 := by
  obtain ⟨r, hr0⟩ : ∃ r, vs.ownBlock = r := ⟨_, rfl⟩
  have hcell : w0.cell? ⟨g, 0, none⟩ = some vs := HG.cells.2 _ _ hl
  have hg := HG.lt
  have hgr : r ≠ some g := by intro e; exact (hap g (hr0.trans e)).1 rfl
  have hhr : r ≠ some h := by intro e; exact (hap h (hr0.trans e)).2.1 rfl
  have opr : E.val.plus.map intC = [] ∨ ∀ s, r = some s → blk ep ≠ some s := by
    cases r with
    | none => exact .inr (fun s e => by cases e)
    | some s => exact (hap s hr0).2.2.1.imp id (fun h s' e => by cases e; exact h)
  have omr : E.val.minus.map intC = [] ∨ ∀ s, r = some s → blk em ≠ some s := by
    cases r with
    | none => exact .inr (fun s e => by cases e)
    | some s => exact (hap s hr0).2.2.2.imp id (fun h s' e => by cases e; exact h)
  have hre : vs.ownBlock = r := hr0
  have hrN : ∀ s, r = some s → s < w0.heap.size := fun s e => (hown.lt s (hr0.trans e)).2
  have hR := gb_pre r
  refine wpIn_region_one (by kernel_rfl) hQo hR 4 [] (fun w => w.ownsRow B 48 9 vs n xs) (by kernel_rfl) (fun _ _ h hb => own_grow h hb) (fun _ h => own_grow h ((Below.refl _ _).drew)) 5 mixed (by rw [hsz]; kernel_rfl) (by kernel_rfl) hown ?_
  rw [show ckappOps.size - 5 = 1 by kernel_rfl]
  refine ⟨isVal vs, OStep.of hR (by decide) (stabR_val' _ _) (by kernel_rfl) (by intro w hr; exact step_read 22 (.tmp 7) ⟨g, 0, none⟩ vs (by kernel_rfl) (wanted_none (by kernel_rfl)) (knows_old 7 (.pointer (some ⟨g, 0, none⟩)) (by kernel_rfl) e1) ((hr.cell_ hcell hg hgr)) ((Nat.lt_of_lt_of_le hg hr.size)) (agg_noS)), ?_⟩
  refine ⟨isVal (.agg #[.string ⟨E.key.toArray⟩, .int .i64 E.val.kind, .int .i64 E.val.time, .int .i64 E.val.node, .bool E.val.dead, .string ⟨E.val.text.toArray⟩, ep, em, .int .u64 (E.val.flags.toNat : Int)]), OStep.of hR (by decide) (stabR_val' _ _) (by kernel_rfl) (by intro w hr; exact step_loadA 48 (.tmp 9) (h) (0) [.string ⟨E.key.toArray⟩, .int .i64 E.val.kind, .int .i64 E.val.time, .int .i64 E.val.node, .bool E.val.dead, .string ⟨E.val.text.toArray⟩, ep, em, .int .u64 (E.val.flags.toNat : Int)] (by kernel_rfl) (wanted_none (by kernel_rfl)) (knows_old 9 (.pointer (some ⟨h, 0, none⟩)) (by kernel_rfl) e2) size_en agg_en (⟨Nat.lt_of_lt_of_le hE.lt hr.size, fun j x hx => by rw [Nat.zero_add]; exact hr.cell_ (hE.cells.2 j x hx) hE.lt hhr⟩)), ?_⟩
  refine ⟨(isEnN w0.heap.size E), OStep.of hR (by decide) (enN_R hrN _) (by kernel_rfl) (by intro w hr; exact step_call 75 #[.tmp 26] #[48] #[.agg #[.string ⟨E.key.toArray⟩, .int .i64 E.val.kind, .int .i64 E.val.time, .int .i64 E.val.node, .bool E.val.dead, .string ⟨E.val.text.toArray⟩, ep, em, .int .u64 (E.val.flags.toNat : Int)]] (by kernel_rfl) (wanted_none (by kernel_rfl)) (stable_enN _ _) (args1 (.tmp 26) (.agg #[.string ⟨E.key.toArray⟩, .int .i64 E.val.kind, .int .i64 E.val.time, .int .i64 E.val.node, .bool E.val.dead, .string ⟨E.val.text.toArray⟩, ep, em, .int .u64 (E.val.flags.toNat : Int)]) (knows_new (V := isVal (.agg #[.string ⟨E.key.toArray⟩, .int .i64 E.val.kind, .int .i64 E.val.time, .int .i64 E.val.node, .bool E.val.dead, .string ⟨E.val.text.toArray⟩, ep, em, .int .u64 (E.val.flags.toNat : Int)])) 26 1 (by kernel_rfl) (by kernel_rfl) (by kernel_rfl))) (enters_of Tryz.func75 (by kernel_rfl) rfl) (by intro w' hb; exact twin_at w0.heap.size E _ w' (en_mk (hr.cells hp opr) (hr.cells hm omr) hb) hF (Nat.le_trans hr.size hb.size))), ?_⟩
  refine ⟨(isEn1 w0.heap.size E), OStep.of hR (by decide) (en1_R hrN _) (by kernel_rfl) (by intro w hr; exact step_ent1 w0.heap.size (.tmp 27) E (by kernel_rfl) (wanted_none (by kernel_rfl)) (knows_new (V := (isEnN w0.heap.size E)) 27 2 (by kernel_rfl) (by kernel_rfl) (by kernel_rfl)) (hr.size)), ?_⟩
  refine ⟨isApp B w0.heap.size r E n xs, ostep_app B w0.heap.size r E vs n xs (.tmp 25) (.tmp 28) (by kernel_rfl) (knows_new (V := isVal vs) 25 0 (by kernel_rfl) (by kernel_rfl) (by kernel_rfl)) (knows_new (V := (isEn1 w0.heap.size E)) 28 3 (by kernel_rfl) (by kernel_rfl) (by kernel_rfl)) hn hB hre hrN (Nat.le_refl _) (by kernel_rfl), ?_⟩
  intro a w hk0 hb hd
  have da := fdone_of (rdone_f (hd 4 (by decide))) (t := 29) (V := isApp B w0.heap.size r E n xs) (by kernel_rfl) (by kernel_rfl)
  have dp : a.tmps.getD 7 undef = .pointer (some ⟨g, 0, none⟩) := (hk0.2.2 7 (by kernel_rfl)).trans e1
  generalize hv : a.tmps.getD 29 undef = v at da
  obtain ⟨vp, vm, h1, h2, h3, h4, h5, h6, h7⟩ := da
  have hgw : g < w.heap.size := Nat.lt_of_lt_of_le hg hb.size
  have hvg : v.ownBlock ≠ some g := by
    rcases h6 with h6 | h6
    · rw [h6]; exact hgr
    · intro e; have := h6 g (own_blk_eq e); omega
  have ng : ∀ {cs : List Value} {u : Value}, NewB w0.heap.size u → cs = [] ∨ blk u ≠ some g := fun h => .inr (h.ne hg)
  have HG' : Blk w g l := ⟨⟨hgw, fun j x hx => hb.cell_ (HG.cells.2 j x hx) hg hgr⟩, fun j => (hb.frozen_ hg hgr).trans (HG.free j)⟩
  refine tail_store 22 (.tmp 7) (.tmp 29) ⟨g, 0, none⟩ v vs (by kernel_rfl) (by kernel_rfl) dp hv (by kernel_rfl) (own_one h1).1 (own_one h1).2 (HG'.cells.2 _ _ hl) (HG'.free 0) ?_
  obtain ⟨y, ey⟩ := kept_ex hk0.f [some 25, some 26, some 27, some 28, some 29, none] [25, 26, 27, 28, 29] (by kernel_rfl) (by decide)
  rw [ey]
  have hll : 0 < l.length := (List.getElem?_eq_some_iff.1 hl).1
  exact hQ y v vp vm _ (own_set h1 hvg) (cells_set h2 (ng h4)) (cells_set h3 (ng h5)) h4 h5 (h6.imp (fun e => e.trans hr0.symm) id) h7 (HG'.set 0 v hll) ((gb_bt hb (fun b e => .inr (hr0.trans e))).trans (bt_set g 0 v w (.inl rfl)))
end Go.Proofs.YtkjghoomdefbbaaGreatDoor
end
section
namespace Go.Proofs.YtkjghoomdefbbaaGreatDoor
open Go.RowKit Go.Shelf
set_option linter.unusedVariables false
set_option linter.unusedSimpArgs false
attribute [local irreducible] setN
attribute [local go_sem] Oper.semAt_some

def IAll (A : Ar) (w : World) (pre : List { x : El // OkEl A w x }) (W : World) : Prop := ∃ v ps, OutS (w.heap.size + 3) (w.heap.size + 1) v ps W ∧ ps.map (·.1) = pre.map (·.1.2.1) ∧ Below w.heap.size w W ∧ w.heap.size + 3 ≤ W.heap.size
theorem keeps_below {B : Nat} {W W' : World} (hb : Below W.heap.size W W') : KeepsFrom B W W' := ⟨hb.size, fun k o _ hk _ => (hb.block k (Array.getElem?_eq_some_iff.1 hk).1).trans hk⟩
theorem iall_b1 {b B : Nat} {W W' : World} {row : Option Nat} (hg : W.grownBy W' row) (hr : ∀ r, row = some r → B ≤ r ∧ ∃ o : Obj, W.heap[r]? = some o ∧ o.isCells = false) {h : Nat} {cs : List Value} (hb : Blk W h cs) (hlt : b < B ∧ b < W.heap.size) : W'.heap[b]? = W.heap[b]? := hg.block b hlt.2 (fun e => by have := (hr b e.symm).1; omega)
end Go.Proofs.YtkjghoomdefbbaaGreatDoor
end
section
namespace Go.Proofs.YtkjghoomdefbbaaGreatDoor
open Go.RowKit Go.Shelf
set_option linter.unusedVariables false
set_option linter.unusedSimpArgs false
attribute [local irreducible] setN
attribute [local go_sem] Oper.semAt_some

def ckStep (at_ n : Int) (o : List En) (x : El) : List En := if at_ ≤ (x.1 : Int) ∧ (o.length : Int) < n then o ++ [x.2.1] else o
def ckL (at_ n : Int) (l : List El) : List En := l.foldl (ckStep at_ n) []
theorem ckL_snoc (at_ n : Int) (l : List El) (x : El) : ckL at_ n (l ++ [x]) = ckStep at_ n (ckL at_ n l) x := by unfold ckL; rw [List.foldl_append]; rfl
theorem ckL_le (at_ n : Int) (l : List El) : (ckL at_ n l).length ≤ l.length := by
  suffices h : ∀ (l : List El) (o : List En), (l.foldl (ckStep at_ n) o).length ≤ o.length + l.length by have := h l []; simpa [ckL] using this
  intro l
  induction l with
  | nil => intro o; simp
  | cons x r ih =>
    intro o
    rw [List.foldl_cons]
    refine Nat.le_trans (ih _) ?_
    unfold ckStep
    split
    · rw [List.length_append, List.length_cons, List.length_cons]; simp only [List.length_nil]; omega
    · rw [List.length_cons]; omega
theorem ckL_spec (at_ n : Int) (hat : 0 ≤ at_) (L : List En) : ∀ (k : Nat) (l : List El), k ≤ L.length → l.map (·.1) = List.range k → l.map (·.2.1) = L.take k → ckL at_ n l = ((L.take k).drop at_.toNat).take n.toNat := by
  intro k
  induction k with
  | zero =>
    intro l _ h1 h2
    have : l = [] := by have := congrArg List.length h1; simpa using this
    subst this
    simp [ckL]
  | succ k ih =>
    intro l hk h1 h2
    have hl : l.length = k + 1 := by have := congrArg List.length h1; simpa using this
    obtain ⟨r, x, rfl⟩ : ∃ r x, l = r ++ [x] := ⟨l.dropLast, l.getLast (by intro e; rw [e] at hl; simp at hl), (List.dropLast_concat_getLast _).symm⟩
    have hr : r.length = k := by simpa using hl
    rw [List.map_append, List.range_succ] at h1
    rw [List.map_append, List.take_add_one] at h2
    obtain ⟨E, hE⟩ : ∃ E, L[k]? = some E := ⟨_, List.getElem?_eq_getElem (by omega)⟩
    rw [hE] at h2
    have a1 := List.append_inj h1 (by simp [hr])
    have a2 := List.append_inj h2 (by simp; omega)
    have x1 : x.1 = k := by simpa using a1.2
    have x2 : x.2.1 = E := by simpa using a2.2
    rw [ckL_snoc, ih r (by omega) a1.1 a2.1, ckStep, x1, x2, List.take_add_one, hE]
    have hlk : (L.take k).length = k := by simp; omega
    by_cases h3 : at_ ≤ (k : Int)
    · have e1 : (L.take k ++ [E]).drop at_.toNat = (L.take k).drop at_.toNat ++ [E] := List.drop_append_of_le_length (by omega)
      show (if at_ ≤ (k : Int) ∧ _ then _ else _) = ((L.take k ++ [E]).drop at_.toNat).take n.toNat
      rw [e1]
      by_cases h4 : k - at_.toNat < n.toNat
      · have d1 : ((L.take k).drop at_.toNat).length = k - at_.toNat := by rw [List.length_drop, hlk]
        have t1 : ((L.take k).drop at_.toNat).take n.toNat = (L.take k).drop at_.toNat := List.take_of_length_le (by omega)
        have t2 : ((L.take k).drop at_.toNat ++ [E]).take n.toNat = (L.take k).drop at_.toNat ++ [E] := List.take_of_length_le (by rw [List.length_append, d1]; simp; omega)
        rw [t1, t2, if_pos ⟨h3, by rw [d1]; omega⟩]
      · have d1 : ((L.take k).drop at_.toNat).length = k - at_.toNat := by rw [List.length_drop, hlk]
        rw [if_neg (by rintro ⟨_, h5⟩; rw [List.length_take, d1] at h5; omega), List.take_append_of_le_length (by rw [d1]; omega)]
    · show (if at_ ≤ (k : Int) ∧ _ then _ else _) = ((L.take k ++ [E]).drop at_.toNat).take n.toNat
      have z1 : (L.take k).drop at_.toNat = [] := List.drop_eq_nil_of_le (by omega)
      have z2 : (L.take k ++ [E]).drop at_.toNat = [] := List.drop_eq_nil_of_le (by rw [List.length_append, hlk]; simp; omega)
      rw [if_neg (by rintro ⟨h5, _⟩; exact h3 h5), z1, z2]
def ICk (A : Ar) (at_ n : Int) (w : World) (pre : List { x : El // OkEl A w x }) (W : World) : Prop := ∃ v ps, OutS (w.heap.size + 5) (w.heap.size + 1 + 1 + 1) v ps W ∧ ps.map (·.1) = ckL at_ n (pre.map (·.1)) ∧ Below w.heap.size w W ∧ w.heap.size + 5 ≤ W.heap.size ∧ Blk W (w.heap.size + 1) [.int .i64 at_] ∧ Blk W (w.heap.size + 1 + 1) [.int .i64 n]
theorem ick_own (A : Ar) (at_ n : Int) (w : World) (B : Nat) (hB : w.heap.size + 5 ≤ B) : OwnFrom B (ICk A at_ n w) := by
  intro s W W' row ⟨v, ps, h1, h2, h3, h4, h5, h6⟩ hg hr
  exact ⟨v, ps, out_own (B := B) (by omega) h1 hg hr, h2, h3.grown hg (by omega) (fun k e => by have := (hr k e).1; omega), Nat.le_trans h4 hg.size, blk_own (by simp) h5 hg hr, blk_own (by simp) h6 hg hr⟩
theorem ick_keep {A : Ar} {at_ n : Int} {w : World} {pre : List { x : El // OkEl A w x }} {W W' : World} (h : ICk A at_ n w pre W) (hb : Below W.heap.size W W') : ICk A at_ n w pre W' := by
  obtain ⟨v, ps, h1, h2, h3, h4, h5, h6⟩ := h
  exact ⟨v, ps, h1.keep hb, h2, h3.trans (hb.mono (by omega)), Nat.le_trans h4 hb.size, h5.keep hb, h6.keep hb⟩
def AxCk (A : Ar) (at_ n : Int) (vs vi : Value) (w : World) (x : { x : El // OkEl A w x }) (a' : Act) (W : World) : Prop := ∃ h, a' = { tmps := #[.agg #[.int .i64 A.cap, vs, vi], .int .i64 at_, .int .i64 n, .pointer (some ⟨w.heap.size, 0, none⟩), .pointer (some ⟨w.heap.size + 1, 0, none⟩), .pointer (some ⟨w.heap.size + 1 + 1, 0, none⟩), .slice none 0 0, .pointer (some ⟨w.heap.size + 1 + 1 + 1, 0, none⟩), .int .i64 (x.1.1 : Int), .pointer (some ⟨h, 0, none⟩), .int .i64 at_, .bool false, .agg #[.int .i64 A.cap, vs, vi], .func (.func 104) #[] #[.pointer (some ⟨w.heap.size + 1 + 1 + 1 + 1, 0, none⟩)], .int .i64 (x.1.1 : Int), .agg #[.string ⟨x.1.2.1.key.toArray⟩, .int .i64 x.1.2.1.val.kind, .int .i64 x.1.2.1.val.time, .int .i64 x.1.2.1.val.node, .bool x.1.2.1.val.dead, .string ⟨x.1.2.1.val.text.toArray⟩, x.1.2.2.1, x.1.2.2.2, .int .u64 (x.1.2.1.val.flags.toNat : Int)], undef, undef, undef, undef, undef, undef, undef, undef, undef, undef, undef, undef, undef, undef, undef], defers := [] } ∧ Blk W h [.string ⟨x.1.2.1.key.toArray⟩, .int .i64 x.1.2.1.val.kind, .int .i64 x.1.2.1.val.time, .int .i64 x.1.2.1.val.node, .bool x.1.2.1.val.dead, .string ⟨x.1.2.1.val.text.toArray⟩, x.1.2.2.1, x.1.2.2.2, .int .u64 (x.1.2.1.val.flags.toNat : Int)] ∧ w.heap.size + 5 ≤ h ∧ ∀ u, W.cell? ⟨w.heap.size + 1 + 1 + 1, 0, none⟩ = some u → u.ownBlock ≠ some h
end Go.Proofs.YtkjghoomdefbbaaGreatDoor
end
section
namespace Go.Proofs.YtkjghoomdefbbaaGreatDoor
open Go.RowKit
set_option linter.unusedVariables false
set_option linter.unusedSimpArgs false
attribute [local irreducible] setN

theorem fit_joinEF (X Y : En) : FitE (joinEF X Y) := by
  by_cases h : joinEE X Y = 0
  · exact ok_fit' (joinEF_ok h)
  · unfold joinEF; rw [if_neg h]; exact ⟨by decide, ⟨by decide, by decide, by decide⟩⟩
set_option maxRecDepth 100000 in
set_option maxHeartbeats 2000000 in
theorem isbelow_any (X Y : En) (v u : Value) (w : World) (hv : isEn X v w) (hu : isEn Y u w) (hX : FitE X) (hY : FitE Y) : Calls Tryz.prog 79 #[v, u] w fun e w' => e = .returned (.bool (belowE X Y)) ∧ Below w.heap.size w w' := by
  obtain ⟨pa, ma, rfl, hpa, hma⟩ := hv
  obtain ⟨pb, mb, rfl, hpb, hmb⟩ := hu
  obtain ⟨hB, Va⟩ := ebox w X pa ma hpa hma (w.heap.size) (by simp)
  obtain ⟨hBn, Vb⟩ := ebox (w.alloc (.cells #[.string ⟨X.key.toArray⟩, .int .i64 X.val.kind, .int .i64 X.val.time, .int .i64 X.val.node, .bool X.val.dead, .string ⟨X.val.text.toArray⟩, pa, ma, .int .u64 (X.val.flags.toNat : Int)] 48)) Y pb mb (stable_cells _ _ _ _ hpb hB.out) (stable_cells _ _ _ _ hmb hB.out) (w.heap.size + 1) (by simp)
  replace Va := Kept.mk (Va.out.keep hBn.out)
  replace hB := Kept.mk (hB.out.trans (hBn.out.mono hB.out.size))
  clear hBn
  clear hpa hma hpb hmb
  obtain ⟨qa, ra, xa, ya, ka0, ka1, ka2, ka3, ka4, ka5, ka6, ka7, ka8⟩ := Va.out.open_
  have Xa := Kept.mk xa
  have Ya := Kept.mk ya
  clear xa ya
  obtain ⟨qb, rb, xb, yb, kb0, kb1, kb2, kb3, kb4, kb5, kb6, kb7, kb8⟩ := Vb.out.open_
  have Xb := Kept.mk xb
  have Yb := Kept.mk yb
  clear xb yb
  have FJ := Kept.mk (fit_joinEF X Y)
  have HE := Kept.mk (show belowE X Y = decide (joinEF X Y = Y) from rfl)
  obtain ⟨J, hJ⟩ : ∃ J, joinEF X Y = J := ⟨_, rfl⟩
  have hc := fun w hv hu => ejoin_any X Y (.agg #[.string ⟨X.key.toArray⟩, .int .i64 X.val.kind, .int .i64 X.val.time, .int .i64 X.val.node, .bool X.val.dead, .string ⟨X.val.text.toArray⟩, qa, ra, .int .u64 (X.val.flags.toNat : Int)]) (.agg #[.string ⟨Y.key.toArray⟩, .int .i64 Y.val.kind, .int .i64 Y.val.time, .int .i64 Y.val.node, .bool Y.val.dead, .string ⟨Y.val.text.toArray⟩, qb, rb, .int .u64 (Y.val.flags.toNat : Int)]) w hv hu hX hY
  rw [hJ] at hc HE FJ
  have HC := Kept.mk hc
  clear hc hJ
  go_enter Tryz.func79, Tryz.ntmps79
  go_wp2_with fail
  ((refine (HC.out _ Xa.out Xb.out).mono ?_); rintro e U ⟨v', rfl, ⟨p', m', rfl, hp', hm', _, _⟩, hb1⟩)
  obtain ⟨K1, K2, K3, K4, K5⟩ := enew U J p' m' hp' hm' U.heap.size rfl
  clear hp' hm'
  clear Xa Ya ka0 ka1 ka2 ka3 ka4 ka5 ka6 ka7 ka8
  clear Xb Yb kb0 kb1 kb2 kb3 kb4 kb5 kb6 kb7 kb8
  replace hB := Kept.mk (hB.out.trans ((hb1).mono hB.out.size))
  replace Va := Kept.mk (Va.out.keep (hb1))
  replace Vb := Kept.mk (Vb.out.keep (hb1))
  clear hb1
  go_wp2_with (have hz0 := K1; refine wpList_storeN 48 rfl (.tmp 5) (.tmp 11) rfl U.heap.size [.string ⟨J.key.toArray⟩, .int .i64 J.val.kind, .int .i64 J.val.time, .int .i64 J.val.node, .bool J.val.dead, .string ⟨J.val.text.toArray⟩, p', m', .int .u64 (J.val.flags.toNat : Int)] size_en rfl rfl K1.out rfl K2.out K5.out ?_; replace hB := Kept.mk (hB.out.trans ((K3.out).mono hB.out.size)); replace Va := Kept.mk (Va.out.keep (K3.out)); replace Vb := Kept.mk (Vb.out.keep (K3.out)); have Vc := Kept.mk (show VarN _ _ J from ⟨_, _, K4.out⟩); clear hz0 K1 K2 K3 K4 K5; generalize setN (U.alloc (.cells #[.string ⟨#[]⟩, .int .i64 0, .int .i64 0, .int .i64 0, .bool false, .string ⟨#[]⟩, .slice none 0 0, .slice none 0 0, .int .u64 0] 48)) U.heap.size 0 [.string ⟨J.key.toArray⟩, .int .i64 J.val.kind, .int .i64 J.val.time, .int .i64 J.val.node, .bool J.val.dead, .string ⟨J.val.text.toArray⟩, p', m', .int .u64 (J.val.flags.toNat : Int)] = W1 at *; generalize U.heap.size = gc at *; obtain ⟨qc, rc, xc, yc, kc0, kc1, kc2, kc3, kc4, kc5, kc6, kc7, kc8⟩ := Vc.out.open_; have Xc := Kept.mk xc; have Yc := Kept.mk yc; clear xc yc; obtain ⟨qb, rb, xb, yb, kb0, kb1, kb2, kb3, kb4, kb5, kb6, kb7, kb8⟩ := Vb.out.open_; have Xb := Kept.mk xb; have Yb := Kept.mk yb; clear xb yb)
  ((with_reducible refine (esame_any J Y _ _ _ Xc.out Xb.out FJ.out.val hY.val).mono ?_); rintro e W2 ⟨rfl, hb1⟩)
  clear Xc Yc kc0 kc1 kc2 kc3 kc4 kc5 kc6 kc7 kc8
  clear Xb Yb kb0 kb1 kb2 kb3 kb4 kb5 kb6 kb7 kb8
  replace hB := Kept.mk (hB.out.trans ((hb1).mono hB.out.size))
  replace Va := Kept.mk (Va.out.keep (hb1))
  replace Vb := Kept.mk (Vb.out.keep (hb1))
  replace Vc := Kept.mk (Vc.out.keep (hb1))
  clear hb1
  generalize decide (J = Y) = z at *
  go_wp2
  go_ret
  exact ⟨by rw [HE.out]; rfl, hB.out⟩
theorem isbelow_val (X Y : En) (z : Bool) (v u : Value) (w : World) (hv : isEn X v w) (hu : isEn Y u w) (hX : FitE X) (hY : FitE Y) (hz : belowE X Y = z) : Calls Tryz.prog 79 #[v, u] w fun e w' => ∃ x, e = .returned x ∧ isVal (.bool z) x w' ∧ Below w.heap.size w w' :=
  (isbelow_any X Y v u w hv hu hX hY).mono (by rintro e w' ⟨rfl, h⟩; exact ⟨_, rfl, by rw [hz]; rfl, h⟩)
noncomputable def blw1Ops : Array Oper := regionOfR Tryz.f49 6
set_option maxRecDepth 100000 in
set_option maxHeartbeats 2000000 in
theorem blw1_region {lp nn : Nat} (Q : Exit → Act → World → Prop) (a0 : Act) (w0 : World) (hQo : ¬ LetsOut Q) (hsz : a0.tmps.size = 39) (g h q bs os cs n : Nat) (cap : Int) (vi : Value) (z : Bool) (X Y : En) (xp xm yp ym : Value) (e7 : a0.tmps.getD 7 undef = .int .i64 (q : Int)) (e6 : a0.tmps.getD 6 undef = .pointer (some ⟨h, 0, none⟩)) (e3 : a0.tmps.getD 3 undef = .pointer (some ⟨g, 0, none⟩)) (HG : Blk w0 g [.int .i64 cap, .slice (some ⟨bs, os, none⟩) n cs, vi]) (HX : Blk w0 h [.string ⟨X.key.toArray⟩, .int .i64 X.val.kind, .int .i64 X.val.time, .int .i64 X.val.node, .bool X.val.dead, .string ⟨X.val.text.toArray⟩, xp, xm, .int .u64 (X.val.flags.toNat : Int)]) (hq : q < n) (hbs : bs < w0.heap.size) (hyc : ∀ (j : Nat) (x : Value), [.string ⟨Y.key.toArray⟩, .int .i64 Y.val.kind, .int .i64 Y.val.time, .int .i64 Y.val.node, .bool Y.val.dead, .string ⟨Y.val.text.toArray⟩, yp, ym, .int .u64 (Y.val.flags.toNat : Int)][j]? = some x → w0.cell? ⟨bs, os + q * 9 + j, none⟩ = some x) (hxp : isCells (X.val.plus.map intC) xp w0) (hxm : isCells (X.val.minus.map intC) xm w0) (hyp : isCells (Y.val.plus.map intC) yp w0) (hym : isCells (Y.val.minus.map intC) ym w0) (fX : FitE X) (fY : FitE Y) (hz : belowE X Y = z)
    (hQ : ∀ (g : Nat → Value) (w : World), g 38 = .bool !z → Below w0.heap.size w0 w → Q .normal { tmps := [27, 28, 29, 30, 31, 32, 33, 34, 35, 36, 37, 38].foldl (fun t s => t.setIfInBounds s (g s)) a0.tmps, defers := a0.defers } w) :
    (Code.region 6 blw1Ops true).wpIn (Fence.wide.inRound lp) nn Tryz.prog Q a0 w0 := by
  refine wpIn_region_flow (by kernel_rfl) hQo mixed (by rw [hsz]; kernel_rfl) ?_
  rw [show blw1Ops.size = 12 by kernel_rfl]
  refine ⟨isVal (.int .i64 (q : Int)), step_move (.tmp 7) (by kernel_rfl) (wanted_none (by kernel_rfl)) (stable_val _) (knows_old 7 (.int .i64 (q : Int)) (by kernel_rfl) e7), ?_⟩
  refine ⟨isVal (.bool false), step_bin .eql 3 3 (.tmp 27) (.const (.int .i64 (-1))) (.int .i64 (q : Int)) (.int .i64 (-1)) (.bool false) (by kernel_rfl) (wanted_none (by kernel_rfl)) (knows_new (V := isVal (.int .i64 (q : Int))) 27 0 (by kernel_rfl) (by kernel_rfl) (by kernel_rfl)) (knows_const _) (fun _ => rfl) (eql_int _ _ _ _ _ (by first | (simp; done) | (simp; omega))), ?_⟩
  refine ⟨isVal (.bool false), step_move (.tmp 28) (by kernel_rfl) (wanted_none (by kernel_rfl)) (stable_val _) (knows_new (V := isVal (.bool false)) 28 1 (by kernel_rfl) (by kernel_rfl) (by kernel_rfl)), ?_⟩
  refine ⟨isVal (.agg #[.string ⟨X.key.toArray⟩, .int .i64 X.val.kind, .int .i64 X.val.time, .int .i64 X.val.node, .bool X.val.dead, .string ⟨X.val.text.toArray⟩, xp, xm, .int .u64 (X.val.flags.toNat : Int)]), step_loadA 48 (.tmp 6) (h) (0) [.string ⟨X.key.toArray⟩, .int .i64 X.val.kind, .int .i64 X.val.time, .int .i64 X.val.node, .bool X.val.dead, .string ⟨X.val.text.toArray⟩, xp, xm, .int .u64 (X.val.flags.toNat : Int)] (by kernel_rfl) (wanted_some 2 29 false (by kernel_rfl) (by kernel_rfl) (by kernel_rfl) (by kernel_rfl)) (knows_old 6 (.pointer (some ⟨h, 0, none⟩)) (by kernel_rfl) e6) size_en agg_en (⟨HX.lt, fun j x hx => by rw [Nat.zero_add]; exact HX.cells.2 j x hx⟩), ?_⟩
  refine ⟨isVal (.pointer (some ⟨g, 1, none⟩)), step_field 25 (.tmp 3) 1 ⟨g, 0, none⟩ ⟨g, 1, none⟩ (by kernel_rfl) (wanted_some 2 29 false (by kernel_rfl) (by kernel_rfl) (by kernel_rfl) (by kernel_rfl)) (knows_old 3 (.pointer (some ⟨g, 0, none⟩)) (by kernel_rfl) e3) (f_ar_0_1 (g)), ?_⟩
  refine ⟨isVal (.slice (some ⟨bs, os, none⟩) n cs), step_read 22 (.tmp 31) ⟨g, 1, none⟩ (.slice (some ⟨bs, os, none⟩) n cs) (by kernel_rfl) (wanted_some 2 29 false (by kernel_rfl) (by kernel_rfl) (by kernel_rfl) (by kernel_rfl)) (knows_new (V := isVal (.pointer (some ⟨g, 1, none⟩))) 31 4 (by kernel_rfl) (by kernel_rfl) (by kernel_rfl)) (HG.cells.2 1 _ rfl) (HG.lt) (agg_noS), ?_⟩
  refine ⟨isVal (.int .i64 (q : Int)), step_move (.tmp 7) (by kernel_rfl) (wanted_some 2 29 false (by kernel_rfl) (by kernel_rfl) (by kernel_rfl) (by kernel_rfl)) (stable_val _) (knows_old 7 (.int .i64 (q : Int)) (by kernel_rfl) e7), ?_⟩
  refine ⟨isVal (.pointer (some ⟨bs, os + q * 9, none⟩)), step_placeE 22 48 (.tmp 32) (.tmp 33) bs (os) (n) (cs) (q) (os + q * 9) (by kernel_rfl) (wanted_some 2 29 false (by kernel_rfl) (by kernel_rfl) (by kernel_rfl) (by kernel_rfl)) (knows_new (V := isVal (.slice (some ⟨bs, os, none⟩) n cs)) 32 5 (by kernel_rfl) (by kernel_rfl) (by kernel_rfl)) (knows_new (V := isVal (.int .i64 (q : Int))) 33 6 (by kernel_rfl) (by kernel_rfl) (by kernel_rfl)) Tryz.underlying22 (by kernel_rfl) (⟨hq, rfl⟩), ?_⟩
  refine ⟨isVal (.agg #[.string ⟨Y.key.toArray⟩, .int .i64 Y.val.kind, .int .i64 Y.val.time, .int .i64 Y.val.node, .bool Y.val.dead, .string ⟨Y.val.text.toArray⟩, yp, ym, .int .u64 (Y.val.flags.toNat : Int)]), step_loadA 48 (.tmp 34) (bs) (os + q * 9) [.string ⟨Y.key.toArray⟩, .int .i64 Y.val.kind, .int .i64 Y.val.time, .int .i64 Y.val.node, .bool Y.val.dead, .string ⟨Y.val.text.toArray⟩, yp, ym, .int .u64 (Y.val.flags.toNat : Int)] (by kernel_rfl) (wanted_some 2 29 false (by kernel_rfl) (by kernel_rfl) (by kernel_rfl) (by kernel_rfl)) (knows_new (V := isVal (.pointer (some ⟨bs, os + q * 9, none⟩))) 34 7 (by kernel_rfl) (by kernel_rfl) (by kernel_rfl)) size_en agg_en (⟨hbs, hyc⟩), ?_⟩
  refine ⟨isVal (.bool z), step_call 79 #[.tmp 30, .tmp 35] #[48, 48] #[.agg #[.string ⟨X.key.toArray⟩, .int .i64 X.val.kind, .int .i64 X.val.time, .int .i64 X.val.node, .bool X.val.dead, .string ⟨X.val.text.toArray⟩, xp, xm, .int .u64 (X.val.flags.toNat : Int)], .agg #[.string ⟨Y.key.toArray⟩, .int .i64 Y.val.kind, .int .i64 Y.val.time, .int .i64 Y.val.node, .bool Y.val.dead, .string ⟨Y.val.text.toArray⟩, yp, ym, .int .u64 (Y.val.flags.toNat : Int)]] (by kernel_rfl) (wanted_some 2 29 false (by kernel_rfl) (by kernel_rfl) (by kernel_rfl) (by kernel_rfl)) (stable_val _) (args2 (.tmp 30) (.tmp 35) (.agg #[.string ⟨X.key.toArray⟩, .int .i64 X.val.kind, .int .i64 X.val.time, .int .i64 X.val.node, .bool X.val.dead, .string ⟨X.val.text.toArray⟩, xp, xm, .int .u64 (X.val.flags.toNat : Int)]) (.agg #[.string ⟨Y.key.toArray⟩, .int .i64 Y.val.kind, .int .i64 Y.val.time, .int .i64 Y.val.node, .bool Y.val.dead, .string ⟨Y.val.text.toArray⟩, yp, ym, .int .u64 (Y.val.flags.toNat : Int)]) (knows_new (V := isVal (.agg #[.string ⟨X.key.toArray⟩, .int .i64 X.val.kind, .int .i64 X.val.time, .int .i64 X.val.node, .bool X.val.dead, .string ⟨X.val.text.toArray⟩, xp, xm, .int .u64 (X.val.flags.toNat : Int)])) 30 3 (by kernel_rfl) (by kernel_rfl) (by kernel_rfl)) (knows_new (V := isVal (.agg #[.string ⟨Y.key.toArray⟩, .int .i64 Y.val.kind, .int .i64 Y.val.time, .int .i64 Y.val.node, .bool Y.val.dead, .string ⟨Y.val.text.toArray⟩, yp, ym, .int .u64 (Y.val.flags.toNat : Int)])) 35 8 (by kernel_rfl) (by kernel_rfl) (by kernel_rfl))) (enters_of Tryz.func79 (by kernel_rfl) rfl) (by intro w' hb; exact isbelow_val X Y z _ _ w' (en_mk hxp hxm hb) (en_mk hyp hym hb) fX fY hz), ?_⟩
  refine ⟨isVal (.bool !z), step_un .not 4 (.tmp 36) (.bool z) (.bool !z) (by kernel_rfl) (wanted_some 2 29 false (by kernel_rfl) (by kernel_rfl) (by kernel_rfl) (by kernel_rfl)) (knows_new (V := isVal (.bool z)) 36 9 (by kernel_rfl) (by kernel_rfl) (by kernel_rfl)) (fun _ => rfl), ?_⟩
  refine ⟨isVal (.bool !z), step_pick (.tmp 29) (.const (.bool true)) (.tmp 37) false (by kernel_rfl) (wanted_none (by kernel_rfl)) (stable_val _) (knows_new (V := isVal (.bool false)) 29 2 (by kernel_rfl) (by kernel_rfl) (by kernel_rfl)) (knows_new (V := isVal (.bool !z)) 37 10 (by kernel_rfl) (by kernel_rfl) (by kernel_rfl)), ?_⟩
  intro a w hkp hb hd
  rw [kept_of hkp [some 27, some 28, some 29, some 30, some 31, some 32, some 33, some 34, some 35, some 36, some 37, some 38] [27, 28, 29, 30, 31, 32, 33, 34, 35, 36, 37, 38] (by kernel_rfl) (by decide)]
  have d38 := fdone_of (hd 11 (by rw [show blw1Ops.size = 12 by kernel_rfl]; decide)) (t := 38) (V := isVal (.bool !z)) (by kernel_rfl) (by kernel_rfl)
  exact hQ (fun s => a.tmps.getD s undef) w d38 hb
noncomputable def blw2Ops : Array Oper := regionOfR Tryz.f49 6
set_option maxRecDepth 100000 in
set_option maxHeartbeats 2000000 in
theorem blw2_region {lp nn : Nat} (Q : Exit → Act → World → Prop) (a0 : Act) (w0 : World) (hQo : ¬ LetsOut Q) (hsz : a0.tmps.size = 39) (e7 : a0.tmps.getD 7 undef = .int .i64 (-1))
    (hQ : ∀ (g : Nat → Value) (w : World), g 38 = .bool true → Below w0.heap.size w0 w → Q .normal { tmps := [27, 28, 29, 30, 31, 32, 33, 34, 35, 36, 37, 38].foldl (fun t s => t.setIfInBounds s (g s)) a0.tmps, defers := a0.defers } w) :
    (Code.region 6 blw2Ops true).wpIn (Fence.wide.inRound lp) nn Tryz.prog Q a0 w0 := by
  refine wpIn_region_flow (by kernel_rfl) hQo mixed (by rw [hsz]; kernel_rfl) ?_
  rw [show blw2Ops.size = 12 by kernel_rfl]
  refine ⟨isVal (.int .i64 (-1)), step_move (.tmp 7) (by kernel_rfl) (wanted_none (by kernel_rfl)) (stable_val _) (knows_old 7 (.int .i64 (-1)) (by kernel_rfl) e7), ?_⟩
  refine ⟨isVal (.bool true), step_bin .eql 3 3 (.tmp 27) (.const (.int .i64 (-1))) (.int .i64 (-1)) (.int .i64 (-1)) (.bool true) (by kernel_rfl) (wanted_none (by kernel_rfl)) (knows_new (V := isVal (.int .i64 (-1))) 27 0 (by kernel_rfl) (by kernel_rfl) (by kernel_rfl)) (knows_const _) (fun _ => rfl) (eql_int _ _ _ _ _ (by decide)), ?_⟩
  refine ⟨isVal (.bool true), step_move (.tmp 28) (by kernel_rfl) (wanted_none (by kernel_rfl)) (stable_val _) (knows_new (V := isVal (.bool true)) 28 1 (by kernel_rfl) (by kernel_rfl) (by kernel_rfl)), ?_⟩
  refine ⟨_, step_skip 2 29 false true (by kernel_rfl) (by kernel_rfl) (by kernel_rfl) (by kernel_rfl) rfl, ?_⟩
  refine ⟨_, step_skip 2 29 false true (by kernel_rfl) (by kernel_rfl) (by kernel_rfl) (by kernel_rfl) rfl, ?_⟩
  refine ⟨_, step_skip 2 29 false true (by kernel_rfl) (by kernel_rfl) (by kernel_rfl) (by kernel_rfl) rfl, ?_⟩
  refine ⟨_, step_skip 2 29 false true (by kernel_rfl) (by kernel_rfl) (by kernel_rfl) (by kernel_rfl) rfl, ?_⟩
  refine ⟨_, step_skip 2 29 false true (by kernel_rfl) (by kernel_rfl) (by kernel_rfl) (by kernel_rfl) rfl, ?_⟩
  refine ⟨_, step_skip 2 29 false true (by kernel_rfl) (by kernel_rfl) (by kernel_rfl) (by kernel_rfl) rfl, ?_⟩
  refine ⟨_, step_skip 2 29 false true (by kernel_rfl) (by kernel_rfl) (by kernel_rfl) (by kernel_rfl) rfl, ?_⟩
  refine ⟨_, step_skip 2 29 false true (by kernel_rfl) (by kernel_rfl) (by kernel_rfl) (by kernel_rfl) rfl, ?_⟩
  refine ⟨isVal (.bool true), step_pick (.tmp 29) (.const (.bool true)) (.tmp 37) true (by kernel_rfl) (wanted_none (by kernel_rfl)) (stable_val _) (knows_new (V := isVal (.bool true)) 29 2 (by kernel_rfl) (by kernel_rfl) (by kernel_rfl)) (knows_const _), ?_⟩
  intro a w hkp hb hd
  rw [kept_of hkp [some 27, some 28, some 29, some 30, some 31, some 32, some 33, some 34, some 35, some 36, some 37, some 38] [27, 28, 29, 30, 31, 32, 33, 34, 35, 36, 37, 38] (by kernel_rfl) (by decide)]
  have d38 := fdone_of (hd 11 (by rw [show blw2Ops.size = 12 by kernel_rfl]; decide)) (t := 38) (V := isVal (.bool true)) (by kernel_rfl) (by kernel_rfl)
  exact hQ (fun s => a.tmps.getD s undef) w d38 hb
end Go.Proofs.YtkjghoomdefbbaaGreatDoor
end
section
namespace Go.Proofs.YtkjghoomdefbbaaGreatDoor
open Go.RowKit Go.Shelf
set_option linter.unusedVariables false
set_option linter.unusedSimpArgs false
attribute [local irreducible] setN
attribute [local go_sem] Oper.semAt_some

theorem find_name {C : Ar} {X Y : En} (h : nameB X Y = true) : findI C X = findI C Y := by
  have e1 : posN (ordA C) X = posN (ordA C) Y := by unfold posN; congr 1; funext y; exact less_right h
  have e2 : hitB (ordA C) X = hitB (ordA C) Y := by
    unfold hitB
    rw [e1]
    cases (ordA C)[posN (ordA C) Y]? with
    | none => rfl
    | some y =>
      show nameB y X = nameB y Y
      rw [Bool.eq_iff_iff]
      exact ⟨fun h2 => name_trans h2 h, fun h2 => name_trans h2 (name_symm h)⟩
  unfold findI placeI
  rw [e1, e2]
structure IBl (A C : Ar) (us ui : Value) (w : World) (N0 : Nat) (W : World) : Prop where
  rb : Blk W (w.heap.size + 1 + 1) [.bool false]
  cb : Blk W (w.heap.size + 1) [.int .i64 C.cap, us, ui]
  lo : Below w.heap.size w W
  sz : N0 ≤ W.heap.size
def IB (A C : Ar) (us ui : Value) (w : World) (N0 : Nat) (pre : List { x : El // OkEl A w x }) (W : World) : Prop := IBl A C us ui w N0 W ∧ ∀ x ∈ pre, inB C x.1.2.1 = true
def IBx (A C : Ar) (w : World) (c : Code) (pre : List { x : El // OkEl A w x }) (W : World) : Prop := c = .ret ∧ Blk W (w.heap.size + 1 + 1) [.bool false] ∧ Below w.heap.size w W ∧ ∃ x ∈ pre, inB C x.1.2.1 = false
theorem ib_own {A C : Ar} {us ui : Value} {w : World} {N0 : Nat} (h3 : w.heap.size + 1 + 1 + 1 ≤ N0) (B : Nat) (hB : N0 ≤ B) : OwnFrom B (IB A C us ui w N0) := by
  intro s W W' row ⟨h, hp⟩ hg hr
  have := h.sz
  exact ⟨⟨blk_own (by simp) h.rb hg hr, blk_own (by simp) h.cb hg hr, h.lo.grown hg (by omega) (fun k e => by have := (hr k e).1; omega), Nat.le_trans h.sz hg.size⟩, hp⟩
theorem ibx_own {A C : Ar} {w : World} (c : Code) (B : Nat) (hB : w.heap.size ≤ B) : OwnFrom B (IBx A C w c) := by
  intro s W W' row ⟨h1, h2, h3, h4⟩ hg hr
  exact ⟨h1, blk_own (by simp) h2 hg hr, h3.grown hg h3.size (fun k e => by have := (hr k e).1; omega), h4⟩
theorem IBl.keep {A C : Ar} {us ui : Value} {w : World} {N0 : Nat} {W W' : World} (h : IBl A C us ui w N0 W) (hN : w.heap.size ≤ N0) (hb : Below W.heap.size W W') : IBl A C us ui w N0 W' :=
  ⟨h.rb.keep hb, h.cb.keep hb, h.lo.trans (hb.mono (Nat.le_trans hN h.sz)), Nat.le_trans h.sz hb.size⟩
def AxB (A C : Ar) (vs vi us ui : Value) (w : World) (g3 N0 : Nat) (x : { x : El // OkEl A w x }) (a' : Act) (W : World) : Prop := ∃ h, a' = { tmps := #[.agg #[.int .i64 A.cap, vs, vi], .agg #[.int .i64 C.cap, us, ui], .pointer (some ⟨w.heap.size, 0, none⟩), .pointer (some ⟨w.heap.size + 1, 0, none⟩), .pointer (some ⟨w.heap.size + 1 + 1, 0, none⟩), undef, .pointer (some ⟨h, 0, none⟩), undef, .agg #[.int .i64 A.cap, vs, vi], .int .i64 0, .bool false, .bool false, .agg #[.int .i64 C.cap, us, ui], .int .i64 0, .bool false, .bool false, .agg #[.int .i64 A.cap, vs, vi], .func (.func 104) #[] #[.pointer (some ⟨g3, 0, none⟩)], .int .i64 (x.1.1 : Int), .agg #[.string ⟨x.1.2.1.key.toArray⟩, .int .i64 x.1.2.1.val.kind, .int .i64 x.1.2.1.val.time, .int .i64 x.1.2.1.val.node, .bool x.1.2.1.val.dead, .string ⟨x.1.2.1.val.text.toArray⟩, x.1.2.2.1, x.1.2.2.2, .int .u64 (x.1.2.1.val.flags.toNat : Int)], undef, undef, undef, undef, undef, undef, undef, undef, undef, undef, undef, undef, undef, undef, undef, undef, undef, undef, undef], defers := [] } ∧ Blk W h [.string ⟨x.1.2.1.key.toArray⟩, .int .i64 x.1.2.1.val.kind, .int .i64 x.1.2.1.val.time, .int .i64 x.1.2.1.val.node, .bool x.1.2.1.val.dead, .string ⟨x.1.2.1.val.text.toArray⟩, x.1.2.2.1, x.1.2.2.2, .int .u64 (x.1.2.1.val.flags.toNat : Int)] ∧ N0 ≤ h
set_option maxRecDepth 100000 in
set_option maxHeartbeats 2000000 in
theorem below_no (A C : Ar) (v u : Value) (w : World) (hv : isAr A v w) (hu : isAr C u w) (hA : FitA A) (hC : FitA C) (hno : okA A = false ∨ okA C = false) : Calls Tryz.prog 49 #[v, u] w fun e w' => e = .returned (.bool (belowA A C)) ∧ Below w.heap.size w w' := by
  obtain ⟨vs, vi, rfl, hs, hi⟩ := hv
  obtain ⟨us, ui, rfl, ks, ki⟩ := hu
  have hE := Kept.mk (show belowA A C = false by unfold belowA; rcases hno with h | h <;> rw [h] <;> simp)
  have hb0 : Below w.heap.size w (((w.alloc (.cells #[.int .i64 A.cap, vs, vi] 25)).alloc (.cells #[.int .i64 C.cap, us, ui] 25)).alloc (.cells #[.bool false] 4)) := (((Below.refl _ w).alloc (Nat.le_refl _) _).alloc (by simp) _).alloc (by simp; omega) _
  have hB := Kept.mk hb0
  have BA := Kept.mk (((Blk.new w 25 [.int .i64 A.cap, vs, vi] w.heap.size rfl).alloc (.cells #[.int .i64 C.cap, us, ui] 25)).alloc (.cells #[.bool false] 4))
  have BC := Kept.mk ((Blk.new (w.alloc (.cells #[.int .i64 A.cap, vs, vi] 25)) 25 [.int .i64 C.cap, us, ui] (w.heap.size + 1) (by simp)).alloc (.cells #[.bool false] 4))
  have BR := Kept.mk (Blk.new ((w.alloc (.cells #[.int .i64 A.cap, vs, vi] 25)).alloc (.cells #[.int .i64 C.cap, us, ui] 25)) 4 [.bool false] (w.heap.size + 1 + 1) (by simp))
  have XA := Kept.mk (show isAr A (.agg #[.int .i64 A.cap, vs, vi]) (((w.alloc (.cells #[.int .i64 A.cap, vs, vi] 25)).alloc (.cells #[.int .i64 C.cap, us, ui] 25)).alloc (.cells #[.bool false] 4)) from stable_ar A _ _ _ ⟨vs, vi, rfl, hs, hi⟩ hb0)
  have XC0 := Kept.mk (show isAr C (.agg #[.int .i64 C.cap, us, ui]) (((w.alloc (.cells #[.int .i64 A.cap, vs, vi] 25)).alloc (.cells #[.int .i64 C.cap, us, ui] 25)).alloc (.cells #[.bool false] 4)) from stable_ar C _ _ _ ⟨us, ui, rfl, ks, ki⟩ hb0)
  have ka0 := BA.out.cells.2 0 _ rfl
  have ka1 := BA.out.cells.2 1 _ rfl
  have ka2 := BA.out.cells.2 2 _ rfl
  clear hs hi ks ki hb0 BA
  go_enter Tryz.func49, Tryz.ntmps49
  go_wp2_with fail
  generalize (((w.alloc (.cells #[.int .i64 A.cap, vs, vi] 25)).alloc (.cells #[.int .i64 C.cap, us, ui] 25)).alloc (.cells #[.bool false] 4)) = W0 at *
  refine (acheck_any A _ _ XA.out hA).mono ?_
  rintro e W1 ⟨rfl, hb⟩
  replace hB := Kept.mk (hB.out.trans (hb.mono hB.out.size))
  replace BC := Kept.mk (BC.out.keep hb)
  replace BR := Kept.mk (BR.out.keep hb)
  have XC := Kept.mk (stable_ar C _ _ _ XC0.out hb)
  clear hb ka0 ka1 ka2 XA XC0
  cases hok : okA A with
  | false =>
    rw [chk_A0 hok]
    have kr := BR.out.cells.2 0 _ rfl
    have kf := BR.out.free 0
    have hc5 := World.cell?_setCell_same' W1 ⟨w.heap.size + 1 + 1, 0, none⟩ (.bool false) (by rw [kr]; rfl)
    go_wp2
    refine bodyPost_ret (v := .bool false) (by simp [results, Tryz.f49, go_sem, hc5]) rfl ?_
    exact ⟨by rw [hE.out], hB.out.setCell (p := ⟨w.heap.size + 1 + 1, 0, none⟩) (by show _ ≤ _ + 1 + 1; omega) _⟩
  | true =>
    rw [chk_A1 hok]
    have hoc : okA C = false := hno.resolve_left (by rw [hok]; decide)
    have kc0 := BC.out.cells.2 0 _ rfl
    have kc1 := BC.out.cells.2 1 _ rfl
    have kc2 := BC.out.cells.2 2 _ rfl
    clear hok hno
    go_wp2_with fail
    refine (acheck_any C _ _ XC.out hC).mono ?_
    rintro e W2 ⟨rfl, hb⟩
    replace hB := Kept.mk (hB.out.trans (hb.mono hB.out.size))
    replace BR := Kept.mk (BR.out.keep hb)
    clear hb kc0 kc1 kc2 XC BC
    rw [chk_A0 hoc]
    have kr := BR.out.cells.2 0 _ rfl
    have kf := BR.out.free 0
    have hc5 := World.cell?_setCell_same' W2 ⟨w.heap.size + 1 + 1, 0, none⟩ (.bool false) (by rw [kr]; rfl)
    go_wp2
    refine bodyPost_ret (v := .bool false) (by simp [results, Tryz.f49, go_sem, hc5]) rfl ?_
    exact ⟨by rw [hE.out], hB.out.setCell (p := ⟨w.heap.size + 1 + 1, 0, none⟩) (by show _ ≤ _ + 1 + 1; omega) _⟩
set_option maxRecDepth 100000 in
set_option maxHeartbeats 2000000 in
theorem below_yes (A C : Ar) (v u : Value) (w : World) (hv : isAr A v w) (hu : isAr C u w) (hA : FitA A) (hC : FitA C) (hoA : okA A = true) (hoC : okA C = true) : Calls Tryz.prog 49 #[v, u] w fun e w' => e = .returned (.bool (belowA A C)) ∧ Below w.heap.size w w' := by
  obtain ⟨vs, vi, rfl, hs, hi⟩ := hv
  obtain ⟨us, ui, rfl, ks, ki⟩ := hu
  have hE := Kept.mk (show belowA A C = A.slots.all (inB C) by unfold belowA; rw [hoA, hoC]; rfl)
  have hb0 : Below w.heap.size w (((w.alloc (.cells #[.int .i64 A.cap, vs, vi] 25)).alloc (.cells #[.int .i64 C.cap, us, ui] 25)).alloc (.cells #[.bool false] 4)) := (((Below.refl _ w).alloc (Nat.le_refl _) _).alloc (by simp) _).alloc (by simp; omega) _
  have hB := Kept.mk hb0
  have BA := Kept.mk (((Blk.new w 25 [.int .i64 A.cap, vs, vi] w.heap.size rfl).alloc (.cells #[.int .i64 C.cap, us, ui] 25)).alloc (.cells #[.bool false] 4))
  have BC := Kept.mk ((Blk.new (w.alloc (.cells #[.int .i64 A.cap, vs, vi] 25)) 25 [.int .i64 C.cap, us, ui] (w.heap.size + 1) (by simp)).alloc (.cells #[.bool false] 4))
  have BR := Kept.mk (Blk.new ((w.alloc (.cells #[.int .i64 A.cap, vs, vi] 25)).alloc (.cells #[.int .i64 C.cap, us, ui] 25)) 4 [.bool false] (w.heap.size + 1 + 1) (by simp))
  have HA0 := Kept.mk (show isAr A (.agg #[.int .i64 A.cap, vs, vi]) w from ⟨vs, vi, rfl, hs, hi⟩)
  have HC0 := Kept.mk (show isAr C (.agg #[.int .i64 C.cap, us, ui]) w from ⟨us, ui, rfl, ks, ki⟩)
  have XA := Kept.mk (stable_ar A _ _ _ HA0.out hb0)
  have CA := Kept.mk (chk_A1 hoA)
  have CC := Kept.mk (chk_A1 hoC)
  have ka0 := BA.out.cells.2 0 _ rfl
  have ka1 := BA.out.cells.2 1 _ rfl
  have ka2 := BA.out.cells.2 2 _ rfl
  have hsz0 : w.heap.size + 1 + 1 < (((w.alloc (.cells #[.int .i64 A.cap, vs, vi] 25)).alloc (.cells #[.int .i64 C.cap, us, ui] 25)).alloc (.cells #[.bool false] 4)).heap.size := BR.out.lt
  clear hb0
  refine (callsIn_wide (n := 5)).1 ?_
  refine callsIn_of_wp_marks Tryz.func49 rfl trivial ?_ rfl
  simp only [Tryz.ntmps49, List.size_toArray, List.length_cons, List.length_nil, Nat.reduceAdd, Nat.reduceSub, Array.replicate_succ, Array.replicate_zero, List.push_toArray, List.append_toArray, List.nil_append, List.cons_append]
  gi_wp2_with (first
    | (have hz0 := ka0; refine ⟨trivial, (callsIn_wide.2 (acheck_any A _ _ XA.out hA)).mono ?_⟩; rintro e W1 ⟨rfl, hb⟩; rw [CA.out]; have hB1 := Kept.mk (hB.out.trans (hb.mono hB.out.size)); have BA1 := Kept.mk (BA.out.keep hb); have BC1 := Kept.mk (BC.out.keep hb); have BR1 := Kept.mk (BR.out.keep hb); have XC := Kept.mk (stable_ar C _ _ _ HC0.out hB1.out); have hsz1 := hb.size; clear hz0 hb ka0 ka1 ka2 XA; have kc0 := BC1.out.cells.2 0 _ rfl; have kc1 := BC1.out.cells.2 1 _ rfl; have kc2 := BC1.out.cells.2 2 _ rfl)
    | (have hz0 := kc0; refine ⟨trivial, (callsIn_wide.2 (acheck_any C _ _ XC.out hC)).mono ?_⟩; rintro e W2 ⟨rfl, hb⟩; rw [CC.out]; have hB2 := Kept.mk (hB1.out.trans (hb.mono hB1.out.size)); have BA2 := Kept.mk (BA1.out.keep hb); have BC2 := Kept.mk (BC1.out.keep hb); have BR2 := Kept.mk (BR1.out.keep hb); have hsz2 := hb.size; clear hz0 hb kc0 kc1 kc2 XC; have kd0 := BA2.out.cells.2 0 _ rfl; have kd1 := BA2.out.cells.2 1 _ rfl; have kd2 := BA2.out.cells.2 2 _ rfl)
    | (have hz0 := kd0; refine ⟨trivial, (placec_call _ A vs vi _).mono ?_⟩; rintro e w' ⟨rfl, rfl⟩; clear hz0 kd0 kd1 kd2))
  have hB3 : Below w.heap.size w (W2.alloc (.cells #[.int .i64 A.cap, vs, vi] 25)) := hB2.out.trans ((lit_below W2 _).mono hB2.out.size)
  have hIt : ItA A vs vi w w.heap.size W2.heap.size (W2.alloc (.cells #[.int .i64 A.cap, vs, vi] 25)) := ⟨hB3.size, by simp, fun b hb => hB3.block b hb, heap_alloc_new W2 _⟩
  have hI0 : IB A C us ui w (W2.heap.size + 1) [] (W2.alloc (.cells #[.int .i64 A.cap, vs, vi] 25)) := ⟨⟨BR2.out.alloc _, BC2.out.alloc _, hB3, by simp⟩, (fun x hx => by cases hx)⟩
  have hszW : (W2.alloc (.cells #[.int .i64 A.cap, vs, vi] 25)).heap.size = W2.heap.size + 1 := by simp
  have hlow : w.heap.size + 1 + 1 < W2.heap.size := BR2.out.lt
  have f1 := hA.slots
  generalize (W2.alloc (.cells #[.int .i64 A.cap, vs, vi] 25)) = W0 at *
  generalize W2.heap.size = g3 at *
  refine wpIn_rangeFunc_ownH rfl (by decide) (gf := 104) (lb := #[.pointer (some ⟨g3, 0, none⟩)]) rfl trivial (enters_of Tryz.func104 (by kernel_rfl) rfl)
    (placec_stops 4 (by omega) g3 A vs vi w W0 hs hi hA hIt) (kpA_t _ _) (kpA_put _ _ _ (by omega) (by omega)) (Below.refl _ _) (fun _ => rfl)
    (IB A C us ui w (g3 + 1)) (IBx A C w) (ib_own (by omega) _ (by omega)) (fun c => ibx_own c _ (by omega)) hI0 (AxB A C vs vi us ui w g3 (g3 + 1))
    (fun x a' _ W W' row ⟨h, e, hb, hh⟩ hg hr => ⟨h, e, blk_own (by simp) hb hg hr, hh⟩) ?assign ?body ?done ?stop
  case assign =>
    intro l pre x W K hIp hK
    have hp := x.2.2.1
    have hm := x.2.2.2
    have hBw := hIp.1.lo
    have hNw := hIp.1.sz
    obtain ⟨K1, K2, K3, K4, K5⟩ := enew W x.1.2.1 x.1.2.2.1 x.1.2.2.2 (stable_cells _ _ _ _ hp hBw) (stable_cells _ _ _ _ hm hBw) W.heap.size rfl
    have HH := Kept.mk ((Blk.new W 48 [.string ⟨#[]⟩, .int .i64 0, .int .i64 0, .int .i64 0, .bool false, .string ⟨#[]⟩, .slice none 0 0, .slice none 0 0, .int .u64 0] W.heap.size rfl).all_ (l := [.string ⟨x.1.2.1.key.toArray⟩, .int .i64 x.1.2.1.val.kind, .int .i64 x.1.2.1.val.time, .int .i64 x.1.2.1.val.node, .bool x.1.2.1.val.dead, .string ⟨x.1.2.1.val.text.toArray⟩, x.1.2.2.1, x.1.2.2.2, .int .u64 (x.1.2.1.val.flags.toNat : Int)]) rfl)
    have hK2 := hK _ _ (keeps_below K3.out) (kpA_below K3.out (by omega) (by omega)) ⟨hIp.1.keep (by omega) K3.out, hIp.2⟩ ⟨W.heap.size, rfl, HH.out, hNw⟩
    have HK := Kept.mk hK2
    clear hK2 hK hp hm
    simp only [encE]
    gi_wp2_with (have hz0 := K1; refine wpListIn_storeN (fun _ => trivial) 48 rfl (.tmp 6) (.tmp 19) rfl W.heap.size [.string ⟨x.1.2.1.key.toArray⟩, .int .i64 x.1.2.1.val.kind, .int .i64 x.1.2.1.val.time, .int .i64 x.1.2.1.val.node, .bool x.1.2.1.val.dead, .string ⟨x.1.2.1.val.text.toArray⟩, x.1.2.2.1, x.1.2.2.2, .int .u64 (x.1.2.1.val.flags.toNat : Int)] size_en rfl rfl K1.out rfl K2.out K5.out ?_; clear hz0 K1 K2 K5)
    exact HK.out
  case body =>
    rintro l pre x a' W hl _ ⟨hI, hp⟩ ⟨h, rfl, hbl, hh⟩ hlt
    obtain ⟨hx1, hx2, hx3⟩ := x.2
    have FX := hA.ents _ (List.mem_of_getElem? hx1)
    have XC := Kept.mk (stable_ar C _ _ _ HC0.out hI.lo)
    have ke0 := hbl.cells.2 0 _ rfl
    have ke1 := hbl.cells.2 1 _ rfl
    have kc0 := hI.cb.cells.2 0 _ rfl
    have kc1 := hI.cb.cells.2 1 _ rfl
    have kc2 := hI.cb.cells.2 2 _ rfl
    obtain ⟨pl, hpl⟩ : ∃ pl, findI C (nameE x.1.2.1.val.kind x.1.2.1.key) = pl := ⟨_, rfl⟩
    have hpl2 : findI C x.1.2.1 = pl := by rw [← hpl]; exact find_name (by rw [name_iff]; exact ⟨rfl, rfl⟩)
    have HI := Kept.mk hI
    have HL := Kept.mk hbl
    have HPL := Kept.mk (And.intro hpl hpl2)
    clear hI hbl hpl hpl2
    gi_wp2_with (refine ⟨trivial, ((callsIn_wide.2 (find_any C x.1.2.1.val.kind x.1.2.1.key _ _ XC.out hC)).inRound l).mono ?_⟩; rintro e W2' ⟨rfl, hb2⟩; rw [HPL.out.1]; have HI2 := Kept.mk (HI.out.keep (by omega) hb2); have HL2 := Kept.mk (HL.out.keep hb2); clear ke0 ke1 kc0 kc1 kc2 XC)
    have ret : ∀ W9, Below W2'.heap.size W2' W9 → inB C x.1.2.1 = false → KeepsFrom W0.heap.size W (W9.setCell ⟨w.heap.size + 1 + 1, 0, none⟩ (.bool false)) ∧ IBx A C w .ret (pre ++ [x]) (W9.setCell ⟨w.heap.size + 1 + 1, 0, none⟩ (.bool false)) := fun W9 hb9 hno => by
      have h9 := HI2.out.keep (by omega) hb9
      have hb3 : Below W.heap.size W W9 := hb2.trans (hb9.mono hb2.size)
      refine ⟨⟨by have := hb3.size; simpa using this, fun k o hB hk ho => ?_⟩, rfl, h9.rb.set 0 _ (by simp), h9.lo.setCell (p := ⟨w.heap.size + 1 + 1, 0, none⟩) (by show _ ≤ _ + 1 + 1; omega) _, x, by simp, hno⟩
      rw [heap_setCell_other W9 ⟨w.heap.size + 1 + 1, 0, none⟩ k _ (by have := hszW; show k ≠ w.heap.size + 1 + 1; omega)]
      exact (hb3.block k (Array.getElem?_eq_some_iff.1 hk).1).trans hk
    have hsz0' : W0.heap.size = g3 + 1 := hszW
    have OKC := okA_iff.1 hoC
    have HIa := Kept.mk (show inB C x.1.2.1 = if pl = -1 then false else belowE x.1.2.1 (slotAt C.slots pl) by unfold inB; rw [HPL.out.2])
    by_cases hm1 : pl = -1
    · subst hm1
      have hno : inB C x.1.2.1 = false := by rw [HIa.out]; rfl
      refine blw2_region _ _ _ ?hout rfl rfl ?hfin
      case hout => rintro ⟨a2, w2, hh2⟩; first | exact hh2 | exact hh2.elim | (simp [ownPostG] at hh2)
      case hfin =>
        intro f9 W9 d38 hb9
        simp only [List.foldl_cons, List.foldl_nil, d38]
        generalize f9 27 = y27
        generalize f9 28 = y28
        generalize f9 29 = y29
        generalize f9 30 = y30
        generalize f9 31 = y31
        generalize f9 32 = y32
        generalize f9 33 = y33
        generalize f9 34 = y34
        generalize f9 35 = y35
        generalize f9 36 = y36
        generalize f9 37 = y37
        clear d38
        simp only [List.setIfInBounds_toArray, List.set_cons_succ, List.set_cons_zero]
        have hr := ret W9 hb9 hno
        have kr := (HI2.out.keep (by omega) hb9).rb.cells.2 0 _ rfl
        have kf := (HI2.out.keep (by omega) hb9).rb.free 0
        have HR2 := Kept.mk hr
        rw [hsz0'] at hr
        have HRR := Kept.mk hr
        clear hr ret
        gi_wp2
        first | exact HRR.out | exact HR2.out
    · have hhit : hitB (ordA C) x.1.2.1 = true := by
        cases hh3 : hitB (ordA C) x.1.2.1 with
        | true => rfl
        | false => exact absurd (HPL.out.2.symm.trans ((find_ne OKC).2 hh3)) hm1
      have hpi : placeI C x.1.2.1 = pl := by rw [← HPL.out.2]; unfold findI; rw [if_pos hoC, if_pos hhit]
      obtain ⟨pr, _, _, _⟩ := place_spec OKC hhit
      rw [hpi] at pr
      obtain ⟨q, rfl⟩ : ∃ q : Nat, pl = (q : Int) := ⟨pl.toNat, by omega⟩
      have hqn : q < C.slots.length := by omega
      obtain ⟨Y, hY⟩ : ∃ Y, C.slots[q]? = some Y := ⟨_, List.getElem?_eq_getElem hqn⟩
      obtain ⟨bs, os, cs, hvs, hbs, yp, ym, hyc, hyp, hym⟩ := ks.get hY
      have FY := hC.ents _ (List.mem_of_getElem? hY)
      obtain ⟨z, hz⟩ : ∃ z, belowE x.1.2.1 Y = z := ⟨_, rfl⟩
      have hin : inB C x.1.2.1 = z := by rw [HIa.out, if_neg hm1, slotAt_some hY, hz]
      have hlo2 := HI2.out.lo
      have cb2 := HI2.out.cb
      rw [hvs] at cb2
      refine blw1_region _ _ _ ?hout rfl (w.heap.size + 1) h q bs os cs C.slots.length C.cap ui z x.1.2.1 Y x.1.2.2.1 x.1.2.2.2 yp ym rfl rfl rfl cb2 HL2.out hqn (Nat.lt_of_lt_of_le hbs hlo2.size) (fun j y hy => (hlo2.cell (p := ⟨bs, os + q * 9 + j, none⟩) hbs).trans (hyc j y hy)) (stable_cells _ _ _ _ hx2 hlo2) (stable_cells _ _ _ _ hx3 hlo2) (stable_cells _ _ _ _ hyp hlo2) (stable_cells _ _ _ _ hym hlo2) FX FY hz ?hfin
      case hout => rintro ⟨a2, w2, hh2⟩; first | exact hh2 | exact hh2.elim | (simp [ownPostG] at hh2)
      case hfin =>
        clear hyc hyp hym cb2 hlo2
        intro f9 W9 d38 hb9
        simp only [List.foldl_cons, List.foldl_nil, d38]
        generalize f9 27 = y27
        generalize f9 28 = y28
        generalize f9 29 = y29
        generalize f9 30 = y30
        generalize f9 31 = y31
        generalize f9 32 = y32
        generalize f9 33 = y33
        generalize f9 34 = y34
        generalize f9 35 = y35
        generalize f9 36 = y36
        generalize f9 37 = y37
        clear d38
        simp only [List.setIfInBounds_toArray, List.set_cons_succ, List.set_cons_zero]
        cases z with
        | false =>
          have hr := ret W9 hb9 hin
          have kr := (HI2.out.keep (by omega) hb9).rb.cells.2 0 _ rfl
          have kf := (HI2.out.keep (by omega) hb9).rb.free 0
          have HR2 := Kept.mk hr
          rw [hsz0'] at hr
          have HRR := Kept.mk hr
          clear hr ret
          gi_wp2
          first | exact HRR.out | exact HR2.out
        | true =>
          have hb3 : Below W.heap.size W W9 := hb2.trans (hb9.mono hb2.size)
          have hsw := HI.out.sz
          have HRR := Kept.mk (show KeepsFrom (g3 + 1) W W9 ∧ KpA w.heap.size g3 W W9 ∧ IB A C us ui w (g3 + 1) (pre ++ [x]) W9 from ⟨keeps_below hb3, kpA_below hb3 (by omega) (by omega), HI2.out.keep (by omega) hb9, fun y hy => (List.mem_append.1 hy).elim (hp y) (fun hy => by rw [List.mem_singleton] at hy; subst hy; exact hin)⟩)
          have HR2 := Kept.mk (show KeepsFrom W0.heap.size W W9 ∧ KpA w.heap.size g3 W W9 ∧ IB A C us ui w (g3 + 1) (pre ++ [x]) W9 from ⟨keeps_below hb3, HRR.out.2⟩)
          clear ret
          gi_wp2
          first | exact HRR.out | exact HR2.out
  case done =>
    rintro D ys W hD ⟨_, hys⟩ ⟨hI, hp⟩ hK
    rw [hoA, if_pos rfl] at hys
    have hcl : belowA A C = true := by
      rw [hE.out, List.all_eq_true]
      intro e he
      rw [← hys] at he
      obtain ⟨y, hy, rfl⟩ := List.mem_map.1 he
      exact hp y hy
    have kr := hI.rb.cells.2 0 _ rfl
    have kf := hI.rb.free 0
    have hDb : D ≠ w.heap.size + 1 + 1 := by omega
    have hK' : (W.setCell ⟨w.heap.size + 1 + 1, 0, none⟩ (.bool true)).heap[D]? = some (.deferred (some [])) := (heap_setCell_other W ⟨w.heap.size + 1 + 1, 0, none⟩ D _ hDb).trans hK
    have hc5 : ((W.setCell ⟨w.heap.size + 1 + 1, 0, none⟩ (.bool true)).putObj D (.deferred none)).cell? ⟨w.heap.size + 1 + 1, 0, none⟩ = some (.bool true) := (World.cell?_of_block (a := ⟨w.heap.size + 1 + 1, 0, none⟩) (World.putObj_heap_other hDb.symm)).trans (World.cell?_setCell_same' W ⟨w.heap.size + 1 + 1, 0, none⟩ (.bool true) (by rw [kr]; rfl))
    have HBL := Kept.mk ((hI.lo.setCell (p := ⟨w.heap.size + 1 + 1, 0, none⟩) (by show _ ≤ _ + 1 + 1; omega) (.bool true)).trans (belowK_b (w := w) (Nat.le_refl _) _ D _ (.deferred none) (by omega) hK' rfl rfl))
    have HCL := Kept.mk hcl
    clear hcl hI hp hys
    gi_wp2
    refine ⟨by simp, .inl ⟨_, _, rfl, run_takeDeferred hK', ?_⟩⟩
    refine ⟨.bool true, ?_, by rw [HCL.out], HBL.out⟩
    simp [results, Tryz.f49, go_sem, hc5]
  case stop =>
    rintro D c pre W hD _ ⟨rfl, hr, hBx, y, hy, hyn⟩ hK
    have hDb : D ≠ w.heap.size + 1 + 1 := by omega
    have hcl : belowA A C = false := by
      rw [hE.out, List.all_eq_false]
      exact ⟨y.1.2.1, List.mem_of_getElem? y.2.1, by rw [hyn]; decide⟩
    have hc5 : (W.putObj D (.deferred none)).cell? ⟨w.heap.size + 1 + 1, 0, none⟩ = some (.bool false) := (World.cell?_of_block (a := ⟨w.heap.size + 1 + 1, 0, none⟩) (World.putObj_heap_other hDb.symm)).trans (hr.cells.2 0 _ rfl)
    have HBL := Kept.mk (hBx.trans (belowK_b (w := w) (Nat.le_refl _) W D _ (.deferred none) (by omega) hK rfl rfl))
    have HCL := Kept.mk hcl
    clear hcl
    gi_wp2
    refine ⟨by simp, .inl ⟨_, _, rfl, run_takeDeferred hK, ?_⟩⟩
    refine ⟨.bool false, ?_, by rw [HCL.out], HBL.out⟩
    simp [results, Tryz.f49, go_sem, hc5]
set_option maxRecDepth 100000 in
set_option maxHeartbeats 2000000 in
theorem below_any (A C : Ar) (v u : Value) (w : World) (hv : isAr A v w) (hu : isAr C u w) (hA : FitA A) (hC : FitA C) : Calls Tryz.prog 49 #[v, u] w fun e w' => e = .returned (.bool (belowA A C)) ∧ Below w.heap.size w w' := by
  cases h1 : okA A with
  | false => exact below_no A C v u w hv hu hA hC (.inl h1)
  | true =>
    cases h2 : okA C with
    | false => exact below_no A C v u w hv hu hA hC (.inr h2)
    | true => exact below_yes A C v u w hv hu hA hC h1 h2
set_option maxRecDepth 100000 in
set_option maxHeartbeats 2000000 in
theorem alike_any (A C : Ar) (v u : Value) (w : World) (hv : isAr A v w) (hu : isAr C u w) (hA : FitA A) (hC : FitA C) : Calls Tryz.prog 26 #[v, u] w fun e w' => e = .returned (.bool (alikeA A C)) ∧ Below w.heap.size w w' := by
  obtain ⟨vs, vi, rfl, hs, hi⟩ := hv
  obtain ⟨us, ui, rfl, ks, ki⟩ := hu
  obtain ⟨hB, Va⟩ := abox w A vs vi hs hi w.heap.size rfl
  obtain ⟨hBn, Vc⟩ := abox (w.alloc (.cells #[.int .i64 A.cap, vs, vi] 25)) C us ui (stable_ens _ _ _ _ ks hB.out) (stable_cells _ _ _ _ ki hB.out) (w.heap.size + 1) (by simp)
  replace Va := Kept.mk (Va.out.keep hBn.out)
  replace hB := Kept.mk (hB.out.trans (hBn.out.mono hB.out.size))
  clear hBn hs hi ks ki
  have HD := Kept.mk (show alikeA A C = (belowA A C && belowA C A) from rfl)
  obtain ⟨a1, a2, xa, _, _, ka0, ka1, ka2⟩ := Va.out.open_
  obtain ⟨c1, c2, xc, _, _, kc0, kc1, kc2⟩ := Vc.out.open_
  have XA := Kept.mk xa
  have XC := Kept.mk xc
  clear xa xc
  go_enter Tryz.func26, Tryz.ntmps26
  go_wp2_with fail
  refine (below_any A C _ _ _ XA.out XC.out hA hC).mono ?_
  rintro e W1 ⟨rfl, hb⟩
  replace hB := Kept.mk (hB.out.trans (hb.mono hB.out.size))
  replace Va := Kept.mk (Va.out.keep hb)
  replace Vc := Kept.mk (Vc.out.keep hb)
  clear hb ka0 ka1 ka2 kc0 kc1 kc2 XA XC
  cases h1 : belowA A C with
  | false =>
    rw [h1, Bool.false_and] at HD
    go_wp2
    go_ret
    exact ⟨by rw [HD.out]; rfl, hB.out⟩
  | true =>
    rw [h1, Bool.true_and] at HD
    obtain ⟨_, _, xa, _, _, ka0, ka1, ka2⟩ := Va.out.open_
    obtain ⟨_, _, xc, _, _, kc0, kc1, kc2⟩ := Vc.out.open_
    have XA := Kept.mk xa
    have XC := Kept.mk xc
    clear xa xc
    go_wp2_with fail
    refine (below_any C A _ _ _ XC.out XA.out hC hA).mono ?_
    rintro e W2 ⟨rfl, hb⟩
    replace hB := Kept.mk (hB.out.trans (hb.mono hB.out.size))
    clear hb ka0 ka1 ka2 kc0 kc1 kc2 XA XC
    cases h2 : belowA C A <;>
    · rw [h2] at HD
      go_wp2
      go_ret
      exact ⟨by rw [HD.out]; rfl, hB.out⟩
end Go.Proofs.YtkjghoomdefbbaaGreatDoor
end
section
namespace Go.Proofs.YtkjghoomdefbbaaGreatDoor
set_option linter.unusedVariables false
set_option linter.unusedSimpArgs false

/-! ### Entries below each other -/
theorem joinEE_mk {a b : En} (ha : okE a = true) (hb : okE b = true) (hn : nameB a b = true) : joinEE a b = 0 := by
  unfold joinEE; rw [ha, hb, hn]; rfl
theorem belowE_iff {a b : En} (h : joinEE a b = 0) : belowE a b = true ↔ belowB a.val b.val = true := by
  obtain ⟨e1, e2, e3⟩ := joinE_val h
  unfold belowE
  rw [decide_eq_true_eq, joinEF_some h, below_iff]
  constructor
  · intro e; exact ⟨e1, by rw [← e, ]; exact congrArg (fun z : En => joinF a.val z.val) e⟩
  · rintro ⟨_, e⟩; rw [e, e3]
theorem belowE_self {a : En} (h : okE a = true) : belowE a a = true := by
  have h0 := joinEE_mk h h (name_self a)
  rw [belowE_iff h0, below_iff]
  exact join_self (okE_val h)
theorem name_joinEF {a b : En} (h : joinEE a b = 0) : nameB (joinEF a b) a = true := by
  rw [joinEF_some h, name_iff]
  exact ⟨(join_ok (joinE_val h).1).2, rfl⟩
theorem belowE_join {a b : En} (h : joinEE a b = 0) : belowE a (joinEF a b) = true ∧ belowE b (joinEF a b) = true := by
  obtain ⟨h1, h2, h3⟩ := joinEE_zero h
  have hn := name_joinEF h
  have hok := joinEF_ok h
  have e := joinEF_some h
  rw [belowE_iff (joinEE_mk h1 hok (name_symm hn)), belowE_iff (joinEE_mk h2 hok (name_symm (name_trans hn h3))), e]
  exact ⟨below_join (joinE_val h).1, below_join2 (joinE_val h).1⟩
theorem belowE_trans {a b c : En} (ha : okE a = true) (hb : okE b = true) (hc : okE c = true) (n1 : nameB a b = true) (n2 : nameB b c = true) (h1 : belowE a b = true) (h2 : belowE b c = true) : belowE a c = true := by
  rw [belowE_iff (joinEE_mk ha hb n1)] at h1
  rw [belowE_iff (joinEE_mk hb hc n2)] at h2
  rw [belowE_iff (joinEE_mk ha hc (name_trans n1 n2))]
  exact below_trans h1 h2
theorem belowE_least {a b c : En} (h : joinEE a b = 0) (hc : okE c = true) (n1 : nameB a c = true) (h1 : belowE a c = true) (h2 : belowE b c = true) : belowE (joinEF a b) c = true := by
  obtain ⟨o1, o2, n3⟩ := joinEE_zero h
  rw [belowE_iff (joinEE_mk o1 hc n1)] at h1
  rw [belowE_iff (joinEE_mk o2 hc (name_trans (name_symm n3) n1))] at h2
  rw [belowE_iff (joinEE_mk (joinEF_ok h) hc (name_trans (name_joinEF h) n1)), joinEF_some h]
  show belowB (joinF a.val b.val) c.val = true
  rw [← below_both (joinE_val h).1, h1, h2]; rfl
theorem belowE_anti {a b : En} (ha : okE a = true) (hb : okE b = true) (n : nameB a b = true) (h1 : belowE a b = true) (h2 : belowE b a = true) : a = b := by
  rw [belowE_iff (joinEE_mk ha hb n)] at h1
  rw [belowE_iff (joinEE_mk hb ha (name_symm n))] at h2
  have hv := below_antisymm h1 h2
  have hk := (name_iff.1 n).2
  cases a; cases b
  simp only at hv hk
  rw [hv, hk]
theorem slotAt_nat (l : List En) (p : Int) (h : 0 ≤ p ∧ p < l.length) : l[p.toNat]? = some (slotAt l p) := by
  unfold slotAt
  rw [List.getElem?_eq_getElem (by omega)]; rfl
theorem asc_names {α : Type} {l : List α} {f g : α → En} (h : ∀ p ∈ l, nameB (f p) (g p) = true) (ha : Asc (l.map g)) : Asc (l.map f) := by
  unfold Asc at *
  rw [List.pairwise_map] at *
  refine ha.imp_of_mem ?_
  intro a b h1 h2 hr
  rw [less_left (h a h1), less_right (h b h2)]
  exact hr
theorem slot_set {l : List En} {k : Nat} {J : En} {p : Int} (hp : 0 ≤ p ∧ p < l.length) : slotAt (l.set k J) p = if k = p.toNat then J else slotAt l p := by
  unfold slotAt
  rw [List.getElem?_set]
  by_cases h : k = p.toNat
  · rw [if_pos h, if_pos h, if_pos (by omega)]; rfl
  · rw [if_neg h, if_neg h]
/-- The slot of that name, where there is one. -/
def slotOf (A : Ar) (x : En) : En := slotAt A.slots (placeI A x)
theorem slot_spec {A : Ar} (h : OkA A) {x : En} (hh : hitB (ordA A) x = true) : slotOf A x ∈ A.slots ∧ okE (slotOf A x) = true ∧ nameB (slotOf A x) x = true ∧ A.slots[(placeI A x).toNat]? = some (slotOf A x) := by
  obtain ⟨h1, _, _, h4⟩ := place_spec h hh
  exact ⟨slotAt_mem h1, h.ents _ (slotAt_mem h1), h4, slotAt_nat _ _ h1⟩
theorem slot_one {A : Ar} (h : OkA A) {x e : En} (hh : hitB (ordA A) x = true) (he : e ∈ A.slots) (hn : nameB e x = true) : e = slotOf A x := by
  obtain ⟨h1, _, h3, _⟩ := slot_spec h hh
  exact one_name h he h1 (name_trans hn (name_symm h3))
theorem ok_hit {A : Ar} (h : OkA A) {x : En} (hx : okE x = true) (hh : hitB (ordA A) x = true) : OkA ⟨A.cap, meetL A x, A.index⟩ := by
  obtain ⟨p1, _, _, p4⟩ := place_spec h hh
  obtain ⟨s1, s2, s3, s4⟩ := slot_spec h hh
  have hj := joinEE_mk s2 hx s3
  refine ⟨h.room, ?_, ?_, ?_, ?_, ?_⟩
  · show ((meetL A x).length : Int) ≤ A.cap
    unfold meetL; rw [List.length_set]; exact h.fits
  · intro e he
    rcases List.mem_or_eq_of_mem_set he with he | he
    · exact h.ents e he
    · rw [he]; exact joinEF_ok hj
  · show A.index.length = (meetL A x).length
    unfold meetL; rw [List.length_set]; exact h.len
  · intro p hp
    show 0 ≤ p ∧ p < (meetL A x).length
    unfold meetL; rw [List.length_set]; exact h.rng p hp
  · show Asc (A.index.map (slotAt (meetL A x)))
    refine asc_names (g := slotAt A.slots) ?_ h.asc
    intro p hp
    unfold meetL
    rw [slot_set (h.rng p hp)]
    split
    · rename_i e
      have : p = placeI A x := by have := (h.rng p hp).1; omega
      rw [this]
      exact name_joinEF hj
    · exact name_self _
theorem ord_new {A : Ar} (h : OkA A) (x : En) : ordA ⟨A.cap, A.slots ++ [x], putIdx A x⟩ = insE (ordA A) x := by
  have e1 : ∀ l : List Int, (∀ p ∈ l, p ∈ A.index) → l.map (slotAt (A.slots ++ [x])) = l.map (slotAt A.slots) := by
    intro l hl
    refine List.map_congr_left ?_
    intro p hp
    have := h.rng p (hl p hp)
    unfold slotAt
    rw [List.getElem?_append_left (by omega)]
  unfold ordA putIdx insE
  rw [List.map_append, List.map_cons, e1 _ (fun p hp => List.mem_of_mem_take hp), e1 _ (fun p hp => List.mem_of_mem_drop hp), List.map_take, List.map_drop]
  congr 2
  unfold slotAt
  simp
theorem ok_new {A : Ar} (h : OkA A) {x : En} (hx : okE x = true) (hh : hitB (ordA A) x = false) (hc : ¬ (A.slots.length : Int) = A.cap) : OkA ⟨A.cap, A.slots ++ [x], putIdx A x⟩ := by
  have hp : posN (ordA A) x ≤ A.index.length := by have := pos_le (ordA A) x; rw [ord_length h, ← h.len] at this; exact this
  refine ⟨h.room, ?_, ?_, ?_, ?_, ?_⟩
  · show ((A.slots ++ [x]).length : Int) ≤ A.cap
    have := h.fits
    rw [List.length_append, List.length_singleton]; omega
  · intro e he
    rcases List.mem_append.1 he with he | he
    · exact h.ents e he
    · rw [List.mem_singleton.1 he]; exact hx
  · show (putIdx A x).length = (A.slots ++ [x]).length
    unfold putIdx
    have := h.len
    simp only [List.length_append, List.length_cons, List.length_take, List.length_drop, List.length_nil]
    omega
  · intro p hp
    show 0 ≤ p ∧ p < (A.slots ++ [x]).length
    rw [List.length_append, List.length_singleton]
    unfold putIdx at hp
    rcases List.mem_append.1 hp with hp | hp
    · have := h.rng p (List.mem_of_mem_take hp); omega
    · rcases List.mem_cons.1 hp with hp | hp
      · omega
      · have := h.rng p (List.mem_of_mem_drop hp); omega
  · rw [ord_new h]; exact asc_ins h.asc hh
/-- The three ways of a join. -/
theorem join_ways (A : Ar) (x : En) (h : OkA A) : (¬ joinAE A x = 0 ∧ joinAB A x = false ∧ joinAF A x = A ∧ (okE x = false ∨ (hitB (ordA A) x = false ∧ (A.slots.length : Int) = A.cap))) ∨
    (okE x = true ∧ hitB (ordA A) x = true ∧ joinAE A x = 0 ∧ joinAB A x = !decide (slotOf A x = joinEF (slotOf A x) x) ∧ joinAF A x = ⟨A.cap, meetL A x, A.index⟩) ∨
    (okE x = true ∧ hitB (ordA A) x = false ∧ ¬ (A.slots.length : Int) = A.cap ∧ joinAE A x = 0 ∧ joinAB A x = true ∧ joinAF A x = ⟨A.cap, A.slots ++ [x], putIdx A x⟩) := by
  have hA := okA_iff.2 h
  cases hx : okE x with
  | false => obtain ⟨a, b, c⟩ := join_no (A := A) (Y := x) (by rw [hA, hx]; rfl); exact .inl ⟨by rw [a]; decide, b, c, .inl rfl⟩
  | true =>
    cases hh : hitB (ordA A) x with
    | true => obtain ⟨a, b, c⟩ := join_hit hA hx hh; exact .inr (.inl ⟨rfl, rfl, a, b, c⟩)
    | false =>
      by_cases hc : (A.slots.length : Int) = A.cap
      · obtain ⟨a, b, c⟩ := join_full hA hx hh hc; exact .inl ⟨by rw [a]; decide, b, c, .inr ⟨rfl, hc⟩⟩
      · obtain ⟨a, b, c⟩ := join_new hA hx hh hc; exact .inr (.inr ⟨rfl, rfl, hc, a, b, c⟩)
theorem join_cap {A : Ar} (h : OkA A) (x : En) : (joinAF A x).cap = A.cap := by
  rcases join_ways A x h with ⟨_, _, e, _⟩ | ⟨_, _, _, _, e⟩ | ⟨_, _, _, _, _, e⟩ <;> rw [e]
theorem join_okA {A : Ar} (h : OkA A) (x : En) : OkA (joinAF A x) := by
  rcases join_ways A x h with ⟨_, _, e, _⟩ | ⟨hx, hh, _, _, e⟩ | ⟨hx, hh, hc, _, _, e⟩
  · rw [e]; exact h
  · rw [e]; exact ok_hit h hx hh
  · rw [e]; exact ok_new h hx hh hc
/-- What is joined to an arena that is none leaves it. -/
theorem join_bad {A : Ar} (h : okA A = false) (x : En) : joinAE A x = 2 ∧ joinAB A x = false ∧ joinAF A x = A := join_no (by rw [h]; rfl)

/-! ### What an arena has -/
def InE (C : Ar) (x : En) : Prop := ∃ f ∈ C.slots, nameB f x = true ∧ belowE x f = true
def Named (C : Ar) (x : En) : Prop := ∃ f ∈ C.slots, nameB f x = true
theorem InE.named {C : Ar} {x : En} (h : InE C x) : Named C x := by obtain ⟨f, hf, hn, _⟩ := h; exact ⟨f, hf, hn⟩
theorem in_self {A : Ar} (h : OkA A) {e : En} (he : e ∈ A.slots) : InE A e := ⟨e, he, name_self e, belowE_self (h.ents e he)⟩
theorem inB_iff {C : Ar} (h : OkA C) {x : En} : inB C x = true ↔ InE C x := by
  unfold inB
  cases hh : hitB (ordA C) x with
  | false =>
    rw [if_pos ((find_ne h).2 hh)]
    constructor
    · intro h; cases h
    · rintro ⟨f, hf, hn, _⟩
      rw [(hit_iff h).2 ⟨f, hf, hn⟩] at hh; cases hh
  | true =>
    rw [if_neg (fun e => by rw [find_ne h, hh] at e; cases e)]
    have e : findI C x = placeI C x := by unfold findI; rw [if_pos (okA_iff.2 h), if_pos hh]
    rw [e]
    obtain ⟨s1, s2, s3, s4⟩ := slot_spec h hh
    constructor
    · intro hb; exact ⟨_, s1, s3, hb⟩
    · rintro ⟨f, hf, hn, hb⟩
      rw [slot_one h hh hf hn] at hb; exact hb
theorem belowA_iff {A C : Ar} : belowA A C = true ↔ OkA A ∧ OkA C ∧ ∀ e ∈ A.slots, InE C e := by
  unfold belowA
  rw [Bool.and_eq_true, Bool.and_eq_true, okA_iff, okA_iff, List.all_eq_true]
  constructor
  · rintro ⟨h1, h2, h3⟩; exact ⟨h1, h2, fun e he => (inB_iff h2).1 (h3 e he)⟩
  · rintro ⟨h1, h2, h3⟩; exact ⟨h1, h2, fun e he => (inB_iff h2).2 (h3 e he)⟩
theorem in_trans {B C : Ar} (hB : OkA B) (hC : OkA C) (h : ∀ e ∈ B.slots, InE C e) {x : En} (hx : okE x = true) (hi : InE B x) : InE C x := by
  obtain ⟨f, hf, n1, b1⟩ := hi
  obtain ⟨g, hg, n2, b2⟩ := h f hf
  exact ⟨g, hg, name_trans n2 n1, belowE_trans hx (hB.ents f hf) (hC.ents g hg) (name_symm n1) (name_symm n2) b1 b2⟩
/-- J1: what was there is below it. -/
theorem join_up {A : Ar} (h : OkA A) (x : En) : ∀ e ∈ A.slots, InE (joinAF A x) e := by
  intro e he
  have hok := join_okA h x
  rcases join_ways A x h with ⟨_, _, e0, _⟩ | ⟨hx, hh, _, _, e0⟩ | ⟨hx, hh, hc, _, _, e0⟩
  · rw [e0]; exact in_self h he
  · obtain ⟨s1, s2, s3, s4⟩ := slot_spec h hh
    have hj := joinEE_mk s2 hx s3
    have hlt : (placeI A x).toNat < A.slots.length := (List.getElem?_eq_some_iff.1 s4).1
    rw [e0]
    by_cases hn : nameB e x = true
    · have := slot_one h hh he hn
      subst this
      exact ⟨joinEF (slotOf A x) x, List.mem_set hlt _, name_joinEF hj, (belowE_join hj).1⟩
    · obtain ⟨k, hk⟩ := List.getElem?_of_mem he
      have hne : (placeI A x).toNat ≠ k := by
        rintro rfl; rw [s4] at hk; injection hk with hk; rw [← hk] at hn; exact hn s3
      refine ⟨e, ?_, name_self e, belowE_self (h.ents e he)⟩
      show e ∈ A.slots.set _ _
      refine List.mem_of_getElem? (i := k) ?_
      rw [List.getElem?_set_ne hne, hk]
  · rw [e0]; exact ⟨e, List.mem_append_left _ he, name_self e, belowE_self (h.ents e he)⟩
/-- J2: what is joined is below it. -/
theorem join_in1 {A : Ar} (h : OkA A) {x : En} (h0 : joinAE A x = 0) : okE x = true ∧ InE (joinAF A x) x := by
  rcases join_ways A x h with ⟨e, _⟩ | ⟨hx, hh, _, _, e0⟩ | ⟨hx, hh, hc, _, _, e0⟩
  · exact absurd h0 e
  · obtain ⟨s1, s2, s3, s4⟩ := slot_spec h hh
    have hj := joinEE_mk s2 hx s3
    have hlt : (placeI A x).toNat < A.slots.length := (List.getElem?_eq_some_iff.1 s4).1
    rw [e0]
    exact ⟨hx, joinEF (slotOf A x) x, List.mem_set hlt _, name_trans (name_joinEF hj) s3, (belowE_join hj).2⟩
  · rw [e0]; exact ⟨hx, x, List.mem_append_right _ (by simp), name_self x, belowE_self hx⟩
/-- J3: it is the least. -/
theorem join_least {A C : Ar} (h : OkA A) (hC : OkA C) {x : En} (hA : ∀ e ∈ A.slots, InE C e) (hx : InE C x) : ∀ f ∈ (joinAF A x).slots, InE C f := by
  rcases join_ways A x h with ⟨_, _, e0, _⟩ | ⟨hxo, hh, _, _, e0⟩ | ⟨hxo, hh, hc, _, _, e0⟩
  · rw [e0]; exact hA
  · obtain ⟨s1, s2, s3, s4⟩ := slot_spec h hh
    have hj := joinEE_mk s2 hxo s3
    rw [e0]
    intro f hf
    rcases List.mem_or_eq_of_mem_set hf with hf | hf
    · exact hA f hf
    · obtain ⟨g1, hg1, n1, b1⟩ := hA _ s1
      obtain ⟨g2, hg2, n2, b2⟩ := hx
      have : g1 = g2 := one_name hC hg1 hg2 (name_trans n1 (name_trans s3 (name_symm n2)))
      subst this
      rw [hf]
      exact ⟨g1, hg1, name_trans n1 (name_symm (name_joinEF hj)), belowE_least hj (hC.ents _ hg1) (name_symm n1) b1 b2⟩
  · rw [e0]
    intro f hf
    rcases List.mem_append.1 hf with hf | hf
    · exact hA f hf
    · rw [List.mem_singleton.1 hf]; exact hx
theorem merge_okA : ∀ (l : List En) {A : Ar}, OkA A → OkA (mergeF A l) ∧ (mergeF A l).cap = A.cap
  | [], A, h => ⟨h, rfl⟩
  | x :: r, A, h => by
    obtain ⟨h1, h2⟩ := merge_okA r (join_okA h x)
    exact ⟨h1, h2.trans (join_cap h x)⟩
theorem merge_up : ∀ (l : List En) {A : Ar}, OkA A → ∀ e ∈ A.slots, InE (mergeF A l) e
  | [], A, h, e, he => in_self h he
  | x :: r, A, h, e, he =>
    in_trans (join_okA h x) (merge_okA r (join_okA h x)).1 (merge_up r (join_okA h x)) (h.ents e he) (join_up h x e he)
theorem merge_all : ∀ (l : List En) {A : Ar}, OkA A → mergeO A l = 0 → ∀ x ∈ l, okE x = true ∧ InE (mergeF A l) x
  | [], A, h, _, x, hx => by simp at hx
  | y :: r, A, h, h0, x, hx => by
    have hj := join_okA h y
    unfold mergeO at h0
    have hy : joinAE A y = 0 := by
      by_cases c : joinAE A y = 0
      · exact c
      · rw [if_neg c] at h0; omega
    have hr : mergeO (joinAF A y) r = 0 := by omega
    rcases List.mem_cons.1 hx with rfl | hx
    · obtain ⟨o, i⟩ := join_in1 h hy
      exact ⟨o, in_trans hj (merge_okA r hj).1 (merge_up r hj) o i⟩
    · exact merge_all r hj hr x hx
theorem merge_least : ∀ (l : List En) {A C : Ar}, OkA A → OkA C → (∀ e ∈ A.slots, InE C e) → (∀ x ∈ l, InE C x) → ∀ f ∈ (mergeF A l).slots, InE C f
  | [], A, C, _, _, hA, _ => hA
  | x :: r, A, C, h, hC, hA, hl => merge_least r (join_okA h x) hC (join_least h hC hA (hl x (by simp))) (fun y hy => hl y (by simp [hy]))
/-- Names in their order, none twice. -/
def nmE (e : En) : Int × List UInt8 := (e.val.kind, e.key)
theorem nm_iff {a b : En} : nmE a = nmE b ↔ nameB a b = true := by
  rw [name_iff]; unfold nmE; exact Prod.mk.injEq .. ▸ Iff.rfl
theorem names_nodup {l : List En} (h : Asc l) : (l.map nmE).Nodup := by
  unfold List.Nodup
  rw [List.pairwise_map]
  refine List.Pairwise.imp ?_ h
  intro a b hab e
  rw [less_name a b (nm_iff.1 e)] at hab; cases hab
theorem room_for {D C : Ar} (hD : OkA D) (hC : OkA C) (hcap : D.cap = C.cap) (hn : ∀ e ∈ D.slots, Named C e) {x : En} (hx : okE x = true) (hxn : Named C x) : joinAE D x = 0 := by
  rcases join_ways D x hD with ⟨_, _, _, hno | ⟨hh, hc⟩⟩ | ⟨_, _, e, _⟩ | ⟨_, _, _, e, _⟩
  · rw [hx] at hno; cases hno
  · exfalso
    have key := nodup_length (nmE x :: (ordA D).map nmE) ((ordA C).map nmE) (List.nodup_cons.2 ⟨?_, names_nodup hD.asc⟩) ?_
    · rw [List.length_cons, List.length_map, List.length_map, ord_length hD, ord_length hC] at key
      have := hC.fits
      omega
    · intro hm
      obtain ⟨e, he, en⟩ := List.mem_map.1 hm
      rw [(hit_iff hD).2 ⟨e, (mem_ord hD e).1 he, nm_iff.1 en⟩] at hh; cases hh
    · intro z hz
      have hq : ∃ e, z = nmE e ∧ Named C e := by
        rcases List.mem_cons.1 hz with rfl | hz
        · exact ⟨x, rfl, hxn⟩
        · obtain ⟨e, he, rfl⟩ := List.mem_map.1 hz
          exact ⟨e, rfl, hn e ((mem_ord hD e).1 he)⟩
      obtain ⟨e, rfl, f, hf, hfn⟩ := hq
      exact List.mem_map.2 ⟨f, (mem_ord hC f).2 hf, nm_iff.2 hfn⟩
  · exact e
  · exact e
theorem named_join {D C : Ar} (hD : OkA D) {x : En} (hn : ∀ e ∈ D.slots, Named C e) (hx : Named C x) : ∀ e ∈ (joinAF D x).slots, Named C e := by
  rcases join_ways D x hD with ⟨_, _, e0, _⟩ | ⟨hxo, hh, _, _, e0⟩ | ⟨hxo, hh, hc, _, _, e0⟩
  · rw [e0]; exact hn
  · obtain ⟨s1, s2, s3, s4⟩ := slot_spec hD hh
    rw [e0]
    intro f hf
    rcases List.mem_or_eq_of_mem_set hf with hf | hf
    · exact hn f hf
    · obtain ⟨g, hg, n⟩ := hn _ s1
      rw [hf]
      exact ⟨g, hg, name_trans n (name_symm (name_joinEF (joinEE_mk s2 hxo s3)))⟩
  · rw [e0]
    intro f hf
    rcases List.mem_append.1 hf with hf | hf
    · exact hn f hf
    · rw [List.mem_singleton.1 hf]; exact hx
theorem merge_fits : ∀ (l : List En) {D C : Ar}, OkA D → OkA C → D.cap = C.cap → (∀ e ∈ D.slots, Named C e) → (∀ x ∈ l, okE x = true ∧ Named C x) → mergeO D l = 0
  | [], D, C, _, _, _, _, _ => rfl
  | x :: r, D, C, hD, hC, hcap, hn, hl => by
    obtain ⟨o, n⟩ := hl x (by simp)
    unfold mergeO
    rw [if_pos (room_for hD hC hcap hn o n), merge_fits r (join_okA hD x) hC ((join_cap hD x).trans hcap) (named_join hD hn n) (fun y hy => hl y (by simp [hy]))]
theorem asc_ext : ∀ {l m : List En}, Asc l → Asc m → (∀ x, x ∈ l ↔ x ∈ m) → l = m
  | [], [], _, _, _ => rfl
  | [], b :: m, _, _, h => by have := (h b).2 (by simp); simp at this
  | a :: l, [], _, _, h => by have := (h a).1 (by simp); simp at this
  | a :: l, b :: m, h1, h2, h => by
    have la : ∀ y ∈ l, lessE a y = true := fun y hy => List.rel_of_pairwise_cons h1 hy
    have lb : ∀ y ∈ m, lessE b y = true := fun y hy => List.rel_of_pairwise_cons h2 hy
    have hab : a = b := by
      rcases List.mem_cons.1 ((h a).1 (by simp)) with e | e
      · exact e
      · rcases List.mem_cons.1 ((h b).2 (by simp)) with e2 | e2
        · exact e2.symm
        · exact (less_both a b (la b e2) (lb a e)).elim
    subst hab
    rw [asc_ext (List.Pairwise.of_cons h1) (List.Pairwise.of_cons h2) (fun x => ?_)]
    constructor
    · intro hx
      rcases List.mem_cons.1 ((h x).1 (by simp [hx])) with e | e
      · subst e; have := la _ hx; rw [lessE_irrefl] at this; cases this
      · exact e
    · intro hx
      rcases List.mem_cons.1 ((h x).2 (by simp [hx])) with e | e
      · subst e; have := lb _ hx; rw [lessE_irrefl] at this; cases this
      · exact e
/-- Arenas that are alike have the same slots, in order. -/
theorem alike_ord {A B : Ar} (h : alikeA A B = true) : ordA A = ordA B := by
  unfold alikeA at h
  rw [Bool.and_eq_true] at h
  obtain ⟨h1, h2, h3⟩ := belowA_iff.1 h.1
  obtain ⟨_, _, h4⟩ := belowA_iff.1 h.2
  have one : ∀ {A B : Ar}, OkA A → OkA B → (∀ e ∈ A.slots, InE B e) → (∀ e ∈ B.slots, InE A e) → ∀ e ∈ A.slots, e ∈ B.slots := by
    intro A B hA hB h1 h2 e he
    obtain ⟨f, hf, n1, b1⟩ := h1 e he
    obtain ⟨g, hg, n2, b2⟩ := h2 f hf
    have : g = e := one_name hA hg he (name_trans n2 n1)
    subst this
    rw [belowE_anti (hA.ents g he) (hB.ents f hf) (name_symm n1) b1 b2]
    exact hf
  refine asc_ext h1.asc h2.asc (fun x => ?_)
  rw [mem_ord h1, mem_ord h2]
  exact ⟨one h1 h2 h3 h4 x, one h2 h1 h4 h3 x⟩
end Go.Proofs.YtkjghoomdefbbaaGreatDoor
end
section
namespace Go.Proofs.YtkjghoomdefbbaaGreatDoor
set_option linter.unusedVariables false
set_option linter.unusedSimpArgs false

/-- How many of the first are ahead of x. -/
def rankN (l : List En) (x : En) : Nat := (l.takeWhile (fun y => lessE y x)).length
def idxStep (l : List En) (out : List Int) (i : Nat) : List Int :=
  out.take (rankN (out.map (slotAt l)) (slotAt l i)) ++ ((i : Int) :: out.drop (rankN (out.map (slotAt l)) (slotAt l i)))
def idxP (l : List En) : Nat → List Int
  | 0 => []
  | i + 1 => idxStep l (idxP l i) i
def idxM (l : List En) : List Int := idxP l l.length
def apartB (l : List En) : Bool := decide (l.Pairwise (fun a b => nameB b a = false))
def slotsB (l : List En) : Bool := l.all okE && apartB l

theorem apart_of {l : List En} (h : ∀ (i j : Nat) (a b : En), l[i]? = some a → l[j]? = some b → j < i → nameB a b = false) : apartB l = true := by
  unfold apartB
  rw [decide_eq_true_eq]
  refine List.pairwise_iff_getElem.2 fun j i hj hi hlt => ?_
  exact h i j _ _ (List.getElem?_eq_getElem hi) (List.getElem?_eq_getElem hj) hlt
/-- All places stand in a rising index of as many places. -/
theorem idx_all {l : List En} {idx : List Int} (h1 : idx.length = l.length) (h2 : ∀ p ∈ idx, 0 ≤ p ∧ p < l.length) (h3 : Asc (idx.map (slotAt l))) {q : Nat} (hq : q < l.length) : (q : Int) ∈ idx := by
  have hn : (idx.map Int.toNat).Nodup := by
    unfold Asc at h3
    unfold List.Nodup
    rw [List.pairwise_map] at h3 ⊢
    refine h3.imp ?_
    intro a b hab e
    unfold slotAt at hab
    rw [e, lessE_irrefl] at hab
    cases hab
  have hm := nodup_all _ hn (n := l.length) (by
    intro p hp; obtain ⟨r, hr, rfl⟩ := List.mem_map.1 hp; have := h2 r hr; omega) (by rw [List.length_map, h1]) q hq
  obtain ⟨r, hr, e2⟩ := List.mem_map.1 hm
  have := h2 r hr
  rwa [show (q : Int) = r by omega]
theorem idx_apart {l : List En} {idx : List Int} (h1 : idx.length = l.length) (h2 : ∀ p ∈ idx, 0 ≤ p ∧ p < l.length) (h3 : Asc (idx.map (slotAt l))) : apartB l = true := by
  refine apart_of fun i j a b hi hj hlt => ?_
  have li := (List.getElem?_eq_some_iff.1 hi).1
  have lj := (List.getElem?_eq_some_iff.1 hj).1
  obtain ⟨r, hr, er⟩ := List.getElem_of_mem (idx_all h1 h2 h3 li)
  obtain ⟨s, hs, es⟩ := List.getElem_of_mem (idx_all h1 h2 h3 lj)
  have ha : slotAt l (i : Int) = a := slotAt_some hi
  have hb : slotAt l (j : Int) = b := slotAt_some hj
  unfold Asc at h3
  rw [List.pairwise_map] at h3
  cases hn : nameB a b with
  | false => rfl
  | true =>
    exfalso
    have hne : r ≠ s := by rintro rfl; rw [er] at es; omega
    by_cases c : r < s
    · have := List.pairwise_iff_getElem.1 h3 r s hr hs c
      rw [er, es, ha, hb, less_name _ _ hn] at this; cases this
    · have := List.pairwise_iff_getElem.1 h3 s r hs hr (by omega)
      rw [er, es, ha, hb, less_name _ _ (name_symm hn)] at this; cases this
end Go.Proofs.YtkjghoomdefbbaaGreatDoor
end
section
namespace Go.Proofs.YtkjghoomdefbbaaGreatDoor
set_option linter.unusedVariables false
set_option linter.unusedSimpArgs false

def firstE : List Int → Int
  | [] => 0
  | e :: r => if e = 0 then firstE r else e
def heldB (A : Ar) (kind : Int) (key : List UInt8) : Bool := decide (0 ≤ findI A (nameE kind key))
def heldV (A : Ar) (kind : Int) (key : List UInt8) : Va := if 0 ≤ findI A (nameE kind key) then (slotAt A.slots (findI A (nameE kind key))).val else leastF kind
def nodeE (node : Int) : Int := if node < 0 ∨ 8 ≤ node then 10 else 0
def keyE (key : List UInt8) : Int := if key.length = 0 ∨ 8 < key.length then 6 else 0
def longE (text : List UInt8) : Int := if 8 < text.length then 6 else 0
def roomE (A : Ar) (is : Bool) : Int := if is = false ∧ (A.slots.length : Int) = A.cap then 4 else 0
def timeE (v : Va) : Int := if v.time = 2147483647 then 5 else 0
def goneE (is : Bool) (v : Va) : Int := if is = false ∨ v.dead = true then 9 else 0
def argE (n : Int) : Int := if n = 0 ∨ 65535 < n ∨ n < -65535 then 1 else 0
def absI (n : Int) : Int := if n < 0 then -n else n
def sideL (v : Va) (n : Int) : List Int := if n < 0 then v.minus else v.plus
def togI (v : Va) (node n : Int) : Int := ((sideL v n)[node.toNat]?).getD 0 + absI n
def overE (v : Va) (node n : Int) : Int := if 65535 < togI v node n then 5 else 0
def putDE (A : Ar) (node : Int) (key text : List UInt8) : Int := firstE [chkA A, nodeE node, keyE key, longE text, roomE A (heldB A 1 key), timeE (heldV A 1 key)]
def delDE (A : Ar) (node : Int) (key : List UInt8) : Int := firstE [chkA A, nodeE node, keyE key, goneE (heldB A 1 key) (heldV A 1 key), timeE (heldV A 1 key)]
def addDE (A : Ar) (node : Int) (key : List UInt8) (n : Int) : Int := firstE [chkA A, nodeE node, keyE key, argE n, roomE A (heldB A 2 key), overE (heldV A 2 key) node n]
def setDE (A : Ar) (key : List UInt8) : Int := firstE [chkA A, keyE key, roomE A (heldB A 3 key)]
def regE (key : List UInt8) (time node : Int) (dead : Bool) (text : List UInt8) : En := ⟨key, ⟨1, time, node, dead, text, [], [], 0⟩⟩
def onlyI (node x : Int) : List Int := (List.replicate 8 (0 : Int)).set node.toNat x
def cntE (key : List UInt8) (node n x : Int) : En := ⟨key, ⟨2, 0, 0, false, [], if n < 0 then List.replicate 8 0 else onlyI node x, if n < 0 then onlyI node x else List.replicate 8 0, 0⟩⟩
def flgE (key : List UInt8) (flags : UInt64) : En := ⟨key, ⟨3, 0, 0, false, [], [], [], flags⟩⟩
def putDF (A : Ar) (node : Int) (key text : List UInt8) : En := if putDE A node key text = 0 then regE key ((heldV A 1 key).time + 1) node false text else zeroE
def delDF (A : Ar) (node : Int) (key : List UInt8) : En := if delDE A node key = 0 then regE key ((heldV A 1 key).time + 1) node true [] else zeroE
def addDF (A : Ar) (node : Int) (key : List UInt8) (n : Int) : En := if addDE A node key n = 0 then cntE key node n (togI (heldV A 2 key) node n) else zeroE
def setDF (A : Ar) (key : List UInt8) (flags : UInt64) : En := if setDE A key = 0 then flgE key flags else zeroE
def textT (A : Ar) (key : List UInt8) : List UInt8 := if heldB A 1 key = true then (heldV A 1 key).text else []
def textB (A : Ar) (key : List UInt8) : Bool := heldB A 1 key && !(heldV A 1 key).dead
def sumT (A : Ar) (key : List UInt8) : Int := if heldB A 2 key = true then sumN (heldV A 2 key) else 0
def flagT (A : Ar) (key : List UInt8) : UInt64 := if heldB A 3 key = true then (heldV A 3 key).flags else 0
def scanA (A : Ar) : List En := (allA A).filter (fun e => !e.val.dead)

end Go.Proofs.YtkjghoomdefbbaaGreatDoor
end
section
namespace Go.Proofs.YtkjghoomdefbbaaGreatDoor
set_option linter.unusedVariables false
set_option linter.unusedSimpArgs false

/-- An entry's own sum, and its bucket. -/
def sumE (E : En) : Nat := crcN (putEn E)
def bkE (E : En) : Nat := bucketN E.val.kind E.key
/-- The sum of bucket k. -/
def sumK (k : Nat) : List En → Nat
  | [] => 0
  | E :: r => (if bkE E = k then sumE E else 0) ^^^ sumK k r
theorem sumE_lt (E : En) : sumE E < 4294967296 := sumN_lt _
theorem sumK_lt (k : Nat) : ∀ l : List En, sumK k l < 4294967296
  | [] => by show 0 < 4294967296; decide
  | E :: r => by
    unfold sumK
    exact x32 (by split; exact sumE_lt E; decide) (sumK_lt k r)
theorem sumK_append (k : Nat) : ∀ l m : List En, sumK k (l ++ m) = sumK k l ^^^ sumK k m
  | [], m => by rw [List.nil_append]; simp [sumK]
  | E :: r, m => by rw [List.cons_append, sumK, sumK, sumK_append k r m, Nat.xor_assoc]
theorem sumK_snoc (k : Nat) (l : List En) (E : En) : sumK k (l ++ [E]) = sumK k l ^^^ (if bkE E = k then sumE E else 0) := by
  rw [sumK_append]; simp [sumK]
theorem sumK_perm (k : Nat) {l m : List En} (h : l.Perm m) : sumK k l = sumK k m := by
  induction h with
  | nil => rfl
  | cons x _ ih => rw [sumK, sumK, ih]
  | swap x y l => rw [sumK, sumK, sumK, sumK, ← Nat.xor_assoc, ← Nat.xor_assoc, Nat.xor_comm (if bkE x = k then _ else _)]
  | trans _ _ h1 h2 => exact h1.trans h2
/-- An arena's sums. -/
def sumA (A : Ar) (k : Nat) : Nat := if okA A = true then sumK k A.slots else 0
theorem sumA_ok {A : Ar} (h : OkA A) (k : Nat) : sumA A k = sumK k A.slots := by unfold sumA; rw [if_pos (okA_iff.2 h)]
theorem nodup_perm : ∀ {l m : List En}, l.Nodup → m.Nodup → (∀ x, x ∈ l ↔ x ∈ m) → l.Perm m
  | [], m, _, _, h => by
    cases m with
    | nil => exact .nil
    | cons a r => exact absurd ((h a).2 (List.mem_cons_self ..)) (by simp)
  | a :: r, m, hl, hm, h => by
    have ha : a ∈ m := (h a).1 (List.mem_cons_self ..)
    have hp := List.perm_cons_erase ha
    refine .trans (.cons a (nodup_perm (List.nodup_cons.1 hl).2 (hm.erase a) fun x => ?_)) hp.symm
    rw [hm.mem_erase_iff]
    have hx := h x
    rw [List.mem_cons] at hx
    constructor
    · intro hr
      exact ⟨fun e => (List.nodup_cons.1 hl).1 (e ▸ hr), hx.1 (.inr hr)⟩
    · rintro ⟨hne, hxm⟩
      exact (hx.2 hxm).resolve_left hne
theorem slots_nodup {A : Ar} (h : OkA A) : A.slots.Nodup := by
  have h1 := idx_apart h.len h.rng h.asc
  unfold apartB at h1
  rw [decide_eq_true_eq] at h1
  refine List.Pairwise.imp ?_ h1
  intro a b hr e
  rw [e, name_self] at hr
  cases hr
theorem alike_sums {A B : Ar} (h : alikeA A B = true) (k : Nat) : sumA A k = sumA B k := by
  have h1 := belowA_iff.1 (by unfold alikeA at h; exact (Bool.and_eq_true_iff.1 h).1)
  rw [sumA_ok h1.1, sumA_ok h1.2.1]
  refine sumK_perm k (nodup_perm (slots_nodup h1.1) (slots_nodup h1.2.1) fun x => ?_)
  rw [← mem_ord h1.1, ← mem_ord h1.2.1, alike_ord h]
def askB (mask : Int) (E : En) : Bool := maskB mask && decide (mask.toNat &&& 2 ^ bkE E ≠ 0)
def inL (mask most : Int) (l : List En) : List En := (l.filter (askB mask)).take most.toNat
def inA (A : Ar) (mask most : Int) : List En := if okA A = true then inL mask most A.slots else []
/-- A slot more. -/
def inStep (mask most : Int) (o : List En) (E : En) : List En := if (o.length : Int) < most ∧ askB mask E = true then o ++ [E] else o
theorem inL_nil (mask most : Int) : inL mask most [] = [] := by simp [inL]
theorem inL_snoc (mask most : Int) (l : List En) (E : En) : inL mask most (l ++ [E]) = inStep mask most (inL mask most l) E := by
  unfold inStep inL
  rw [List.filter_append]
  generalize l.filter (askB mask) = m
  cases hE : askB mask E with
  | false => simp [hE]
  | true =>
    rw [show List.filter (askB mask) [E] = [E] by simp [hE]]
    by_cases hc : m.length < most.toNat
    · rw [if_pos ⟨by rw [List.length_take]; omega, rfl⟩, List.take_of_length_le (by simp; omega), List.take_of_length_le (by omega)]
    · rw [if_neg (by rintro ⟨h, _⟩; rw [List.length_take] at h; omega), List.take_append_of_le_length (by omega)]
/-- Behind as many as are asked for nothing more comes. -/
theorem inL_full (mask most : Int) (l r : List En) (h : most ≤ ((inL mask most l).length : Int)) : inL mask most (l ++ r) = inL mask most l := by
  induction r generalizing l with
  | nil => rw [List.append_nil]
  | cons a r ih =>
    have e : inL mask most (l ++ [a]) = inL mask most l := by rw [inL_snoc]; unfold inStep; rw [if_neg (by omega)]
    rw [show l ++ a :: r = (l ++ [a]) ++ r by simp, ih (l ++ [a]) (by rw [e]; exact h), e]
end Go.Proofs.YtkjghoomdefbbaaGreatDoor
end
section
namespace Go.Proofs.YtkjghoomdefbbaaGreatDoor
open Go.RowKit Go.Shelf
set_option linter.unusedVariables false
set_option linter.unusedSimpArgs false

abbrev RowE := List (En × Value × Value)
structure OutV (N : Nat) (v : Value) (ps : RowE) (W : World) : Prop where
  own : W.ownsRow N 48 9 v ps.length (flatE ps)
  rows : RowsOk ps W
  off : ∀ q ∈ ps, ∀ b, v.ownBlock = some b → OffQ b q
theorem outV_nil (N : Nat) (W : World) : OutV N (.slice none 0 0) [] W := ⟨World.ownsRow_nil _ _ _ _, (fun q hq => by cases hq), (fun q hq => by cases hq)⟩
theorem OutV.keep {N : Nat} {v : Value} {ps : RowE} {W W' : World} (h : OutV N v ps W) (hb : Below W.heap.size W W') : OutV N v ps W' :=
  ⟨own_grow h.own hb, fun q hq => ⟨stable_cells _ _ _ _ (h.rows q hq).1 hb, stable_cells _ _ _ _ (h.rows q hq).2 hb⟩, h.off⟩
theorem OutV.ens {N : Nat} {v : Value} {ps : RowE} {W : World} (h : OutV N v ps W) : isEns (ps.map (·.1)) v W := own_ens h.own h.rows
theorem OutV.low {N N' : Nat} {v : Value} {ps : RowE} {W : World} (h : OutV N v ps W) (hN : N' ≤ N) : OutV N' v ps W := ⟨own_low h.own hN, h.rows, h.off⟩
theorem OutV.len {N : Nat} {v : Value} {ps : RowE} {W : World} (h : OutV N v ps W) : ∃ a c, v = .slice a ps.length c := by
  obtain ⟨_, ⟨rfl, h0⟩ | ⟨g, cap, cur, rfl, _⟩⟩ := h.own
  · exact ⟨_, _, by rw [h0]⟩
  · exact ⟨_, _, rfl⟩
/-- A row of entries as append reads it. -/
def SrcE (u : Value) (ps : RowE) (w : World) : Prop := (u = .slice none 0 0 ∧ ps = []) ∨ ∃ (a : Addr) (c : Nat), u = .slice (some a) ps.length c ∧ ∀ (j : Nat) (x : Value), (flatE ps)[j]? = some x → w.cell? (a.add j) = some x
theorem add_at (b off j : Nat) : (⟨b, off, none⟩ : Addr).add j = ⟨b, off + j, none⟩ := by
  by_cases e : j = 0
  · subst e; simp [Addr.add]
  · simp [Addr.add, e]
theorem flatE_at : ∀ {ps : RowE} {j : Nat} {x : Value}, (flatE ps)[j]? = some x → ∃ q, ps[j / 9]? = some q ∧ (enL q.1 q.2.1 q.2.2)[j % 9]? = some x
  | [], j, x, h => by simp [flatE] at h
  | p :: ps, j, x, h => by
    rw [flatE_cons] at h
    by_cases hj : j < 9
    · rw [List.getElem?_append_left (show j < (enL p.1 p.2.1 p.2.2).length from hj)] at h
      rw [Nat.div_eq_of_lt hj, Nat.mod_eq_of_lt hj]
      exact ⟨p, rfl, h⟩
    · rw [List.getElem?_append_right (show (enL p.1 p.2.1 p.2.2).length ≤ j from by show 9 ≤ j; omega)] at h
      have h' : (flatE ps)[j - 9]? = some x := h
      obtain ⟨q, h1, h2⟩ := flatE_at h'
      have e1 : j / 9 = (j - 9) / 9 + 1 := by omega
      have e2 : j % 9 = (j - 9) % 9 := by omega
      rw [e1, e2, List.getElem?_cons_succ]
      exact ⟨q, h1, h2⟩
theorem ens_rows : ∀ (l : List En) (b off : Nat) (w : World), (∀ (j : Nat) (E : En), l[j]? = some E → EnAt w b (off + j * 9) E) → ∃ ps : RowE, ps.map (·.1) = l ∧ RowsOk ps w ∧ ∀ (j : Nat) (q : En × Value × Value), ps[j]? = some q → ∀ (i : Nat) (x : Value), (enL q.1 q.2.1 q.2.2)[i]? = some x → w.cell? ⟨b, off + j * 9 + i, none⟩ = some x
  | [], b, off, w, h => ⟨[], rfl, (fun q hq => by cases hq), fun j q hq => by simp at hq⟩
  | E :: l, b, off, w, h => by
    obtain ⟨vp, vm, hc, hp, hm⟩ := h 0 E rfl
    obtain ⟨ps, h1, h2, h3⟩ := ens_rows l b (off + 9) w (fun j F hF => by
      have := h (j + 1) F (by rw [List.getElem?_cons_succ]; exact hF)
      rwa [show off + (j + 1) * 9 = off + 9 + j * 9 by omega] at this)
    refine ⟨(E, vp, vm) :: ps, by rw [List.map_cons, h1], fun q hq => ?_, fun j q hq i x hx => ?_⟩
    · rcases List.mem_cons.1 hq with rfl | hq
      · exact ⟨hp, hm⟩
      · exact h2 q hq
    · cases j with
      | zero =>
        simp only [List.getElem?_cons_zero, Option.some.injEq] at hq
        subst hq
        exact hc i x hx
      | succ j =>
        rw [List.getElem?_cons_succ] at hq
        have := h3 j q hq i x hx
        rwa [show off + 9 + j * 9 + i = off + (j + 1) * 9 + i by omega] at this
theorem isEns.src {l : List En} {u : Value} {w : World} (h : isEns l u w) : ∃ ps : RowE, ps.map (·.1) = l ∧ RowsOk ps w ∧ SrcE u ps w := by
  rcases h with ⟨rfl, rfl⟩ | ⟨a, cap, rfl, rfl⟩ | ⟨b, off, cap, rfl, hlt, hc⟩
  · exact ⟨[], rfl, (fun q hq => by cases hq), .inl ⟨rfl, rfl⟩⟩
  · exact ⟨[], rfl, (fun q hq => by cases hq), .inr ⟨a, cap, rfl, fun j x hx => by simp [flatE] at hx⟩⟩
  · obtain ⟨ps, h1, h2, h3⟩ := ens_rows l b off w hc
    refine ⟨ps, h1, h2, .inr ⟨⟨b, off, none⟩, cap, by rw [← h1, List.length_map], fun j x hx => ?_⟩⟩
    obtain ⟨q, hq, hx⟩ := flatE_at hx
    have := h3 _ q hq _ x hx
    rw [add_at]
    rwa [show off + j / 9 * 9 + j % 9 = off + j by omega] at this
/-- Rows of entries stand elsewhere. -/
theorem off_old {w0 : World} {ps : RowE} (h : RowsOk ps w0) {b : Nat} (hb : w0.heap.size ≤ b) : ∀ q ∈ ps, OffQ b q := fun q hq =>
  ⟨(cells_lt (h q hq).1).imp id (fun h3 e => by have := h3 b e; omega), (cells_lt (h q hq).2).imp id (fun h3 e => by have := h3 b e; omega)⟩
theorem ones_flat {ps : RowE} {w : World} (h : RowsOk ps w) : ∀ u ∈ flatE ps, u.oneCell' = true := by
  intro u hu
  unfold flatE at hu
  obtain ⟨q, hq, hu⟩ := List.mem_flatMap.1 hu
  exact ones_en (h q hq).1.one (h q hq).2.one u hu
theorem run_append_ens {N : Nat} {v : Value} {ps : RowE} {w : World} (h : OutV N v ps w) {u : Value} {ps2 : RowE} (hu : SrcE u ps2 w) (hr2 : RowsOk ps2 w) (hoff : ∀ q ∈ ps2, ∀ b, v.ownBlock = some b → OffQ b q) (hn : ps.length + ps2.length ≤ 1000) (hN : N ≤ w.heap.size) (ty : TypeId) :
    ∃ v' w', (Builtin.append_ #[22, 22] ty #[v, u]).run Tryz.prog w = .ok v' w' ∧ OutV N v' (ps ++ ps2) w' ∧ w.grownBy w' v.ownBlock := by
  obtain ⟨ie, hie, hz, hsz⟩ : ∃ ie, Tryz.prog.info? 48 = some ie ∧ ie.zero = some (.agg #[.string ⟨#[]⟩, .int .i64 0, .int .i64 0, .int .i64 0, .bool false, .string ⟨#[]⟩, .slice none 0 0, .slice none 0 0, .int .u64 0]) ∧ ie.size = 9 := by
    have := Tryz.infoEn
    obtain ⟨ie, h1, h2⟩ := Option.map_eq_some_iff.1 this
    simp only [Prod.mk.injEq] at h2
    exact ⟨ie, h1, h2.1, h2.2⟩
  have hbytes : ie.bytes ≤ 100000 := by
    have : (Tryz.prog.info? 48).all (fun i => decide (i.bytes ≤ 100000)) = true := by kernel_rfl
    rw [hie] at this
    simpa using this
  rcases hu with ⟨rfl, rfl⟩ | ⟨a, c, rfl, hcell⟩
  · refine ⟨v, w, run_append_owned_none (P := Tryz.prog) (w := w) N _ ty 48 ie 9 Tryz.underlying22 hie v _ _ h.own, ?_, ⟨rfl, rfl, rfl, Nat.le_refl _, fun _ _ _ => rfl⟩⟩
    rw [List.append_nil]; exact h
  · obtain ⟨v', w', hrun, how, hgr, _, hob⟩ := run_append_own_at (P := Tryz.prog) (w := w) N 22 ty 48 ie (.agg #[.string ⟨#[]⟩, .int .i64 0, .int .i64 0, .int .i64 0, .bool false, .string ⟨#[]⟩, .slice none 0 0, .slice none 0 0, .int .u64 0]) 9 ie.bytes Tryz.underlying22 hie hz hsz rfl rfl (by decide) v ps.length (flatE ps) h.own a ps2.length c (flatE ps2) (flatE_length _) hcell (ones_flat hr2) (by unfold maxLen; omega) (by have : (ps.length + ps2.length) * ie.bytes ≤ 1000 * 100000 := Nat.mul_le_mul hn hbytes; omega) hN
    refine ⟨v', w', hrun, ⟨?_, fun q hq => ?_, fun q hq b hb => ?_⟩, hgr⟩
    · rw [List.length_append]
      have e : flatE (ps ++ ps2) = flatE ps ++ flatE ps2 := by unfold flatE; simp
      rw [e]; exact how
    · have key : ∀ q, isCells (q.1.val.plus.map intC) q.2.1 w ∧ isCells (q.1.val.minus.map intC) q.2.2 w → (∀ b, v.ownBlock = some b → OffQ b q) → isCells (q.1.val.plus.map intC) q.2.1 w' ∧ isCells (q.1.val.minus.map intC) q.2.2 w' := by
        intro q hc ho
        refine ⟨hgr.cells hc.1 ?_, hgr.cells hc.2 ?_⟩
        · by_cases e : q.1.val.plus.map intC = []
          · exact .inl e
          · exact .inr (fun s hs => ((ho s hs).1.resolve_left e))
        · by_cases e : q.1.val.minus.map intC = []
          · exact .inl e
          · exact .inr (fun s hs => ((ho s hs).2.resolve_left e))
      rcases List.mem_append.1 hq with hq | hq
      · exact key q (h.rows q hq) (h.off q hq)
      · exact key q (hr2 q hq) (hoff q hq)
    · rcases hob with e | e
      · rw [e] at hb
        exact (List.mem_append.1 hq).elim (fun hq => h.off q hq b hb) (fun hq => hoff q hq b hb)
      · rw [e] at hb
        injection hb with hb
        subst hb
        exact (List.mem_append.1 hq).elim (fun hq => off_old h.rows (Nat.le_refl _) q hq) (fun hq => off_old hr2 (Nat.le_refl _) q hq)
theorem wpList_append_ens {ops : Array Oper} {rest : List Oper} {o : Oper} {a : Act} {w : World} {Q : Exit → Act → World → Prop} (hgd : o.guard = none) (s x : Operand) (ho : o.op = .call { callee := .builtin .append, args := #[s, x], argTypes := #[22, 22] })
    (N : Nat) (v : Value) (ps : RowE) (hs : a.eval s = v) (h : OutV N v ps w) (u : Value) (ps2 : RowE) (hx : a.eval x = u) (hu : SrcE u ps2 w) (hr2 : RowsOk ps2 w) (hoff : ∀ q ∈ ps2, ∀ b, v.ownBlock = some b → OffQ b q) (hn : ps.length + ps2.length ≤ 1000) (hN : N ≤ w.heap.size)
    (hr : ∀ v' w', OutV N v' (ps ++ ps2) w' → w.grownBy w' v.ownBlock → wpList Tryz.prog ops Q rest (a.put o.dst v') w') : wpList Tryz.prog ops Q (o :: rest) a w := by
  refine wpList_plain hgd fun K hK => ?_
  obtain ⟨v', w', hrun, h1, h2⟩ := run_append_ens h hu hr2 hoff hn hN o.type
  unfold Oper.wp execOp
  rw [ho]
  simp only [resolve, Sem.run_bind, Sem.run_pure, Result.andThen_ok, invoke, builtin, List.map_toArray, List.map_cons, List.map_nil, hs, hx, hrun, Oper.upon]
  exact hK _ _ (hr v' w' h1 h2)
/-- A row of entries that is new, with new rows. -/
def isEnsN (N : Nat) (l : List En) : VP := fun v w => ∃ ps : RowE, ps.map (·.1) = l ∧ OutV N v ps w ∧ ∀ q ∈ ps, NewB N q.2.1 ∧ NewB N q.2.2
theorem ensN_nil (N : Nat) (w : World) : isEnsN N [] (.slice none 0 0) w := ⟨[], rfl, outV_nil _ _, fun q hq => by cases hq⟩
theorem OutS.ensN {N N0 b1 : Nat} {v : Value} {ps : RowE} {W : World} (h : OutS N0 b1 v ps W) (hN : N ≤ N0) : isEnsN N (ps.map (·.1)) v W :=
  ⟨ps, rfl, ⟨own_low h.own hN, h.rows, h.off⟩, fun q hq => ⟨(h.nw q hq).1.low hN, (h.nw q hq).2.low hN⟩⟩
theorem isEnsN.ens {N : Nat} {l : List En} {v : Value} {w : World} (h : isEnsN N l v w) : isEns l v w := by
  obtain ⟨ps, rfl, h1, _⟩ := h
  exact h1.ens
/-- What is older than the row stays. -/
theorem grown_below {w0 w w' : World} {N : Nat} {v : Value} {ps : RowE} (h : OutV N v ps w) (hg : w.grownBy w' v.ownBlock) (hb : Below w0.heap.size w0 w) (hN : w0.heap.size ≤ N) : Below w0.heap.size w0 w' := by
  refine ⟨hg.os.trans hb.os, hg.tape.trans hb.tape, hg.output.trans hb.output, Nat.le_trans hb.size hg.size, fun b hlt => (hg.block b (Nat.lt_of_lt_of_le hlt hb.size) (fun e => ?_)).trans (hb.block b hlt)⟩
  have := (h.own.lt b e.symm).1
  omega
end Go.Proofs.YtkjghoomdefbbaaGreatDoor
end
