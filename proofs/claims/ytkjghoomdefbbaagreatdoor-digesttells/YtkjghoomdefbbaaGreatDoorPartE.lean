import Derived.Test.YtkjghoomdefbbaaGreatDoorPartD
import Derived.RangeFuncNested
import Derived.RangeFuncBound
import Derived.RangeFuncFrom
import Derived.Laws.AppendOwnNone
import Derived.SizedLaws
import Derived.SliceStrings
import Derived.Carry
set_option maxRecDepth 100000
set_option maxHeartbeats 8000000
section
namespace Go.Proofs.YtkjghoomdefbbaaGreatDoor
open Go.RowKit
attribute [local irreducible] setN
theorem zvn (A : Ar) (Y : En) (P : Nat) (Z : Bool) (v u : Value) (w : World) (hok : OkA A) (hv : isAr A v w) (hu : isEn Y u w) (hP : posN (ordA A) Y = P) (hZ : hitB (ordA A) Y = Z) : Calls Tryz.prog 54 #[v, u] w fun e w' => ∃ x, e = .returned x ∧ isVal (.tuple #[.int .i64 (P : Int), .bool Z]) x w' ∧ Below w.heap.size w w' :=
  (zvg A Y v u w hok hv hu).mono (by rintro e w' ⟨rfl, h⟩; exact ⟨_, rfl, by rw [hP, hZ]; rfl, h⟩)
noncomputable def jn3Ops : Array Oper := zat Tryz.f48 3
theorem zut (Q : Exit → Act → World → Prop) (a0 : Act) (w0 : World) (hsz : a0.tmps.size = 83) (A : Ar) (g h P : Nat) (Z : Bool) (Y : En) (vs vi yp ym : Value) (e0 : a0.tmps.getD 0 undef = .pointer (some ⟨g, 0, none⟩)) (e3 : a0.tmps.getD 3 undef = .pointer (some ⟨h, 0, none⟩)) (HG : Blk w0 g [.int .i64 A.cap, vs, vi]) (HE : Blk w0 h [.string ⟨Y.key.toArray⟩, .int .i64 Y.val.kind, .int .i64 Y.val.time, .int .i64 Y.val.node, .bool Y.val.dead, .string ⟨Y.val.text.toArray⟩, yp, ym, .int .u64 (Y.val.flags.toNat : Int)]) (hok : OkA A) (hA : isAr A (.agg #[.int .i64 A.cap, vs, vi]) w0) (hyp : isCells (Y.val.plus.map intC) yp w0) (hym : isCells (Y.val.minus.map intC) ym w0) (hP : posN (ordA A) Y = P) (hZ : hitB (ordA A) Y = Z)
    (hQ : ∀ (g : Nat → Value) (w : World), g 6 = .int .i64 (P : Int) → g 7 = .bool Z → Below w0.heap.size w0 w → Q .normal { tmps := [20, 21, 22, 23, 24, 25, 19, 26, 27, 6, 7].foldl (fun t s => t.setIfInBounds s (g s)) a0.tmps, defers := a0.defers } w) :
    (Code.region 3 jn3Ops true).wp Tryz.prog Q a0 w0 := by
  refine zam mixed (by rw [hsz]; kernel_rfl) ?_
  rw [show jn3Ops.size = 11 by kernel_rfl]
  refine ⟨isVal (.pointer (some ⟨g, 0, none⟩)), zag (.tmp 0) (by kernel_rfl) (zaa (by kernel_rfl)) (zad _) (zaf 0 (.pointer (some ⟨g, 0, none⟩)) (by kernel_rfl) e0), ?_⟩
  refine ⟨isVal (.pointer (some ⟨g, 0, none⟩)), zdd (.tmp 20) ⟨g, 0, none⟩ (by kernel_rfl) (zaa (by kernel_rfl)) (zab (V := isVal (.pointer (some ⟨g, 0, none⟩))) 20 0 (by kernel_rfl) (by kernel_rfl) (by kernel_rfl)), ?_⟩
  refine ⟨isVal (.pointer (some ⟨g, 0, none⟩)), zah 78 (.tmp 21) 0 ⟨g, 0, none⟩ ⟨g, 0, none⟩ (by kernel_rfl) (zaa (by kernel_rfl)) (zab (V := isVal (.pointer (some ⟨g, 0, none⟩))) 21 1 (by kernel_rfl) (by kernel_rfl) (by kernel_rfl)) (zea (g)), ?_⟩
  refine ⟨isVal (.agg #[.int .i64 A.cap, vs, vi]), zbh 25 (.tmp 22) (g) (0) [.int .i64 A.cap, vs, vi] (by kernel_rfl) (zaa (by kernel_rfl)) (zab (V := isVal (.pointer (some ⟨g, 0, none⟩))) 22 2 (by kernel_rfl) (by kernel_rfl) (by kernel_rfl)) zcs zfn (⟨HG.lt, fun j x hx => by rw [Nat.zero_add]; exact HG.cells.2 j x hx⟩), ?_⟩
  refine ⟨isVal (.agg #[.string ⟨Y.key.toArray⟩, .int .i64 Y.val.kind, .int .i64 Y.val.time, .int .i64 Y.val.node, .bool Y.val.dead, .string ⟨Y.val.text.toArray⟩, yp, ym, .int .u64 (Y.val.flags.toNat : Int)]), zbh 48 (.tmp 3) (h) (0) [.string ⟨Y.key.toArray⟩, .int .i64 Y.val.kind, .int .i64 Y.val.time, .int .i64 Y.val.node, .bool Y.val.dead, .string ⟨Y.val.text.toArray⟩, yp, ym, .int .u64 (Y.val.flags.toNat : Int)] (by kernel_rfl) (zaa (by kernel_rfl)) (zaf 3 (.pointer (some ⟨h, 0, none⟩)) (by kernel_rfl) e3) zay zck (⟨HE.lt, fun j x hx => by rw [Nat.zero_add]; exact HE.cells.2 j x hx⟩), ?_⟩
  refine ⟨isVal (.tuple #[.int .i64 (P : Int), .bool Z]), zap 54 #[.tmp 23, .tmp 24] #[25, 48] #[.agg #[.int .i64 A.cap, vs, vi], .agg #[.string ⟨Y.key.toArray⟩, .int .i64 Y.val.kind, .int .i64 Y.val.time, .int .i64 Y.val.node, .bool Y.val.dead, .string ⟨Y.val.text.toArray⟩, yp, ym, .int .u64 (Y.val.flags.toNat : Int)]] (by kernel_rfl) (zaa (by kernel_rfl)) (zad _) (args2 (.tmp 23) (.tmp 24) (.agg #[.int .i64 A.cap, vs, vi]) (.agg #[.string ⟨Y.key.toArray⟩, .int .i64 Y.val.kind, .int .i64 Y.val.time, .int .i64 Y.val.node, .bool Y.val.dead, .string ⟨Y.val.text.toArray⟩, yp, ym, .int .u64 (Y.val.flags.toNat : Int)]) (zab (V := isVal (.agg #[.int .i64 A.cap, vs, vi])) 23 3 (by kernel_rfl) (by kernel_rfl) (by kernel_rfl)) (zab (V := isVal (.agg #[.string ⟨Y.key.toArray⟩, .int .i64 Y.val.kind, .int .i64 Y.val.time, .int .i64 Y.val.node, .bool Y.val.dead, .string ⟨Y.val.text.toArray⟩, yp, ym, .int .u64 (Y.val.flags.toNat : Int)])) 24 4 (by kernel_rfl) (by kernel_rfl) (by kernel_rfl))) (enters_of Tryz.func54 (by kernel_rfl) rfl) (by intro w' hb; exact zvn A Y P Z _ _ w' hok (zbu _ _ _ _ hA hb) (zfo hyp hym hb) hP hZ), ?_⟩
  refine ⟨isVal (.tuple #[.int .i64 (P : Int), .bool Z]), zag (.tmp 25) (by kernel_rfl) (zaa (by kernel_rfl)) (zad _) (zab (V := isVal (.tuple #[.int .i64 (P : Int), .bool Z])) 25 5 (by kernel_rfl) (by kernel_rfl) (by kernel_rfl)), ?_⟩
  refine ⟨isVal (.int .i64 (P : Int)), zja (.tmp 19) 0 _ (.int .i64 (P : Int)) (by kernel_rfl) (zaa (by kernel_rfl)) (zab (V := isVal (.tuple #[.int .i64 (P : Int), .bool Z])) 19 6 (by kernel_rfl) (by kernel_rfl) (by kernel_rfl)) rfl, ?_⟩
  refine ⟨isVal (.bool Z), zja (.tmp 19) 1 _ (.bool Z) (by kernel_rfl) (zaa (by kernel_rfl)) (zab (V := isVal (.tuple #[.int .i64 (P : Int), .bool Z])) 19 6 (by kernel_rfl) (by kernel_rfl) (by kernel_rfl)) rfl, ?_⟩
  refine ⟨isVal (.int .i64 (P : Int)), zau (.tmp 26) (by kernel_rfl) (zaa (by kernel_rfl)) (zad _) (zab (V := isVal (.int .i64 (P : Int))) 26 7 (by kernel_rfl) (by kernel_rfl) (by kernel_rfl)), ?_⟩
  refine ⟨isVal (.bool Z), zau (.tmp 27) (by kernel_rfl) (zaa (by kernel_rfl)) (zad _) (zab (V := isVal (.bool Z)) 27 8 (by kernel_rfl) (by kernel_rfl) (by kernel_rfl)), ?_⟩
  intro a w hkp hb hd
  rw [zbg hkp [some 20, some 21, some 22, some 23, some 24, some 25, some 19, some 26, some 27, some 6, some 7] [20, 21, 22, 23, 24, 25, 19, 26, 27, 6, 7] (by kernel_rfl) (by decide)]
  have d6 := zal (hd 9 (by rw [show jn3Ops.size = 11 by kernel_rfl]; decide)) (t := 6) (V := isVal (.int .i64 (P : Int))) (by kernel_rfl) (by kernel_rfl)
  have d7 := zal (hd 10 (by rw [show jn3Ops.size = 11 by kernel_rfl]; decide)) (t := 7) (V := isVal (.bool Z)) (by kernel_rfl) (by kernel_rfl)
  exact hQ (fun s => a.tmps.getD s undef) w d6 d7 hb
theorem zyj {Q : Exit → Act → World → Prop} {a : Act} {d1 d2 d3 : Tmp} {v1 v2 v3 : Value} {t : Array Value} {ds : List Deferred} {w : World} (e : a = { tmps := t, defers := ds }) (h : Q .normal { tmps := ((t.setIfInBounds d1 v1).setIfInBounds d2 v2).setIfInBounds d3 v3, defers := ds } w) : Q .normal (((a.put (some d1) v1).put (some d2) v2).put (some d3) v3) w := by
  subst e; exact h
noncomputable def jn5Ops : Array Oper := zat Tryz.f48 5
theorem zwj (Q : Exit → Act → World → Prop) (a0 : Act) (w0 : World) (hsz : a0.tmps.size = 83) (A : Ar) (g h P q bi oi ci n : Nat) (Y : En) (vs yp ym : Value) (e0 : a0.tmps.getD 0 undef = .pointer (some ⟨g, 0, none⟩)) (e3 : a0.tmps.getD 3 undef = .pointer (some ⟨h, 0, none⟩)) (e6 : a0.tmps.getD 6 undef = .int .i64 (P : Int)) (HG : Blk w0 g [.int .i64 A.cap, vs, .slice (some ⟨bi, oi, none⟩) n ci]) (HE : Blk w0 h [.string ⟨Y.key.toArray⟩, .int .i64 Y.val.kind, .int .i64 Y.val.time, .int .i64 Y.val.node, .bool Y.val.dead, .string ⟨Y.val.text.toArray⟩, yp, ym, .int .u64 (Y.val.flags.toNat : Int)]) (hPn : P < n) (hci : w0.cell? ⟨bi, oi + P, none⟩ = some (.int .i64 (q : Int))) (hbi : bi < w0.heap.size)
    (hC : ∀ (y : Nat → Value) (w : World), Below w0.heap.size w0 w → Calls Tryz.prog 76 #[.pointer (some ⟨g, 0, none⟩), .int .i64 (q : Int), .agg #[.string ⟨Y.key.toArray⟩, .int .i64 Y.val.kind, .int .i64 Y.val.time, .int .i64 Y.val.node, .bool Y.val.dead, .string ⟨Y.val.text.toArray⟩, yp, ym, .int .u64 (Y.val.flags.toNat : Int)]] w fun e w' => ∃ z, e = .returned (.bool z) ∧ Q .normal { tmps := ((([29, 30, 31, 32, 33, 34, 35, 36, 37, 38, 39, 4, 5].foldl (fun t s => t.setIfInBounds s (y s)) a0.tmps).setIfInBounds 39 (.bool z)).setIfInBounds 4 (.bool z)).setIfInBounds 5 (.int .i64 0), defers := a0.defers } w') :
    (Code.region 5 jn5Ops true).wp Tryz.prog Q a0 w0 := by
  refine zba 10 mixed (by rw [hsz]; kernel_rfl) (by kernel_rfl) ?_
  rw [show jn5Ops.size - 10 = 3 by kernel_rfl]
  refine ⟨isVal (.pointer (some ⟨g, 0, none⟩)), zag (.tmp 0) (by kernel_rfl) (zaa (by kernel_rfl)) (zad _) (zaf 0 (.pointer (some ⟨g, 0, none⟩)) (by kernel_rfl) e0), ?_⟩
  refine ⟨isVal (.pointer (some ⟨g, 0, none⟩)), zag (.tmp 0) (by kernel_rfl) (zaa (by kernel_rfl)) (zad _) (zaf 0 (.pointer (some ⟨g, 0, none⟩)) (by kernel_rfl) e0), ?_⟩
  refine ⟨isVal (.pointer (some ⟨g, 0, none⟩)), zdd (.tmp 30) ⟨g, 0, none⟩ (by kernel_rfl) (zaa (by kernel_rfl)) (zab (V := isVal (.pointer (some ⟨g, 0, none⟩))) 30 1 (by kernel_rfl) (by kernel_rfl) (by kernel_rfl)), ?_⟩
  refine ⟨isVal (.pointer (some ⟨g, 0, none⟩)), zah 78 (.tmp 31) 0 ⟨g, 0, none⟩ ⟨g, 0, none⟩ (by kernel_rfl) (zaa (by kernel_rfl)) (zab (V := isVal (.pointer (some ⟨g, 0, none⟩))) 31 2 (by kernel_rfl) (by kernel_rfl) (by kernel_rfl)) (zea (g)), ?_⟩
  refine ⟨isVal (.pointer (some ⟨g, 2, none⟩)), zah 25 (.tmp 32) 2 ⟨g, 0, none⟩ ⟨g, 2, none⟩ (by kernel_rfl) (zaa (by kernel_rfl)) (zab (V := isVal (.pointer (some ⟨g, 0, none⟩))) 32 3 (by kernel_rfl) (by kernel_rfl) (by kernel_rfl)) (zgg (g)), ?_⟩
  refine ⟨isVal (.slice (some ⟨bi, oi, none⟩) n ci), zaj 23 (.tmp 33) ⟨g, 2, none⟩ (.slice (some ⟨bi, oi, none⟩) n ci) (by kernel_rfl) (zaa (by kernel_rfl)) (zab (V := isVal (.pointer (some ⟨g, 2, none⟩))) 33 4 (by kernel_rfl) (by kernel_rfl) (by kernel_rfl)) (HG.cells.2 2 _ rfl) (HG.lt) (zgy), ?_⟩
  refine ⟨isVal (.int .i64 (P : Int)), zag (.tmp 6) (by kernel_rfl) (zaa (by kernel_rfl)) (zad _) (zaf 6 (.int .i64 (P : Int)) (by kernel_rfl) e6), ?_⟩
  refine ⟨isVal (.pointer (some ⟨bi, oi + P, none⟩)), zdt 23 3 (.tmp 34) (.tmp 35) bi (oi) (n) (ci) (P) (by kernel_rfl) (zaa (by kernel_rfl)) (zab (V := isVal (.slice (some ⟨bi, oi, none⟩) n ci)) 34 5 (by kernel_rfl) (by kernel_rfl) (by kernel_rfl)) (zab (V := isVal (.int .i64 (P : Int))) 35 6 (by kernel_rfl) (by kernel_rfl) (by kernel_rfl)) Tryz.underlying23 (by kernel_rfl) (hPn), ?_⟩
  refine ⟨isVal (.int .i64 (q : Int)), zaj 3 (.tmp 36) ⟨bi, oi + P, none⟩ (.int .i64 (q : Int)) (by kernel_rfl) (zaa (by kernel_rfl)) (zab (V := isVal (.pointer (some ⟨bi, oi + P, none⟩))) 36 7 (by kernel_rfl) (by kernel_rfl) (by kernel_rfl)) (hci) (hbi) (zbr), ?_⟩
  refine ⟨isVal (.agg #[.string ⟨Y.key.toArray⟩, .int .i64 Y.val.kind, .int .i64 Y.val.time, .int .i64 Y.val.node, .bool Y.val.dead, .string ⟨Y.val.text.toArray⟩, yp, ym, .int .u64 (Y.val.flags.toNat : Int)]), zbh 48 (.tmp 3) (h) (0) [.string ⟨Y.key.toArray⟩, .int .i64 Y.val.kind, .int .i64 Y.val.time, .int .i64 Y.val.node, .bool Y.val.dead, .string ⟨Y.val.text.toArray⟩, yp, ym, .int .u64 (Y.val.flags.toNat : Int)] (by kernel_rfl) (zaa (by kernel_rfl)) (zaf 3 (.pointer (some ⟨h, 0, none⟩)) (by kernel_rfl) e3) zay zck (⟨HE.lt, fun j x hx => by rw [Nat.zero_add]; exact HE.cells.2 j x hx⟩), ?_⟩
  intro a w hkp hb hd
  have d29 : a.eval (.tmp 29) = _ := zal (hd 0 (by decide)) (t := 29) (V := isVal (.pointer (some ⟨g, 0, none⟩))) (by kernel_rfl) (by kernel_rfl)
  have d37 : a.eval (.tmp 37) = _ := zal (hd 8 (by decide)) (t := 37) (V := isVal (.int .i64 (q : Int))) (by kernel_rfl) (by kernel_rfl)
  have d38 : a.eval (.tmp 38) = _ := zal (hd 9 (by decide)) (t := 38) (V := isVal (.agg #[.string ⟨Y.key.toArray⟩, .int .i64 Y.val.kind, .int .i64 Y.val.time, .int .i64 Y.val.node, .bool Y.val.dead, .string ⟨Y.val.text.toArray⟩, yp, ym, .int .u64 (Y.val.flags.toNat : Int)])) (by kernel_rfl) (by kernel_rfl)
  refine zcq 76 #[.tmp 29, .tmp 37, .tmp 38] #[73, 3, 48] #[.pointer (some ⟨g, 0, none⟩), .int .i64 (q : Int), .agg #[.string ⟨Y.key.toArray⟩, .int .i64 Y.val.kind, .int .i64 Y.val.time, .int .i64 Y.val.node, .bool Y.val.dead, .string ⟨Y.val.text.toArray⟩, yp, ym, .int .u64 (Y.val.flags.toNat : Int)]] 39 (by kernel_rfl) (by kernel_rfl) (by simp only [List.map_toArray, List.map_cons, List.map_nil, d29, d37, d38]) (enters_of Tryz.func76 (by kernel_rfl) rfl) ?_
  obtain ⟨y, ey⟩ := zbx hkp [some 29, some 30, some 31, some 32, some 33, some 34, some 35, some 36, some 37, some 38, some 39, some 4, some 5] [29, 30, 31, 32, 33, 34, 35, 36, 37, 38, 39, 4, 5] (by kernel_rfl) (by decide)
  have hs : a.tmps.size = 83 := hkp.2.1.trans hsz
  refine (hC y w hb).mono ?_
  rintro e w' ⟨z, rfl, hq⟩
  refine ⟨_, rfl, ?_⟩
  refine zfv (.tmp 39) 4 (.bool z) (by kernel_rfl) (by kernel_rfl) (zbn (by rw [hs]; decide)) ?_
  refine zfv (.const (.int .i64 0)) 5 (.int .i64 0) (by kernel_rfl) (by kernel_rfl) rfl ?_
  exact zyj ey hq
def isLit1 (N : Nat) (x : Int) : VP := fun v w => ∃ b, v = .slice (some ⟨b, 0, none⟩) 1 1 ∧ N ≤ b ∧ w.heap[b]? = some (.cells #[intC x] 3 (0, 0))
theorem zsn (N : Nat) (x : Int) : Stable (isLit1 N x) := fun v w w' ⟨b, e, hN, h⟩ hb => ⟨b, e, hN, (hb.block b (Array.getElem?_eq_some_iff.1 h).1).trans h⟩
theorem zfn1 {N : Nat} {r : Option Nat} (hr : ∀ s, r = some s → s < N) (x : Int) : zep (GB r) (isLit1 N x) := fun v w w' ⟨b, e, hN, h⟩ hb => ⟨b, e, hN, (hb.block b (Array.getElem?_eq_some_iff.1 h).1 (fun e => by have := hr b e.symm; omega)).trans h⟩
theorem zxx {ops : Array Oper} {base : World} {a0 : Act} {Q : Exit → Act → World → Prop} {kn : Nat → VP} {i : Nat} (N : Nat) (x : Operand) (a1 : Int) (hop : (ops[i]?).map (·.op) = some (.buildSlice 23 1 #[(0, x)])) (hw : Wanted ops a0 kn i) (h0 : Knows ops a0 kn i x (isVal (.int .i64 a1))) (hN : N ≤ base.heap.size) : FStep Tryz.prog ops base a0 Q kn i (isLit1 N a1) :=
  zct (zsn _ _) hw fun o ho a w hk hb hd => by
    have e0 : a.eval x = intC a1 := h0 a w hk hd
    obtain ⟨ie, hie, h2⟩ := Option.map_eq_some_iff.1 Tryz.infoInt
    simp only [Prod.mk.injEq] at h2
    obtain ⟨hz, hsz, _⟩ := h2
    have hf : Instr.fill (fun i => some (i * ie.size, ie.size)) ((Array.range (1 * ie.size)).map ((Value.int .i64 0).cells[· % (Value.int .i64 0).cells.size]!)) ((#[(0, x)] : Array (Nat × Operand)).map fun (i, x) => (i, a.eval x)).toList = some #[intC a1] := by
      have e1 : ((#[(0, x)] : Array (Nat × Operand)).map fun (i, x) => (i, a.eval x)).toList = (([intC a1] : List Value).zipIdx 0).map fun x => (x.2, x.1) := by simp [e0]
      rw [e1, hsz, Great.fill_flat _ _ (fun v hv => by simp only [List.mem_cons, List.not_mem_nil, or_false] at hv; subst hv; rfl) (by simp)]
    refine wp_buildSlice 23 3 1 _ (zfs hop ho) _ ie (.int .i64 0) Tryz.underlying23 hie hz (by rw [hsz]; omega) (by rw [hsz]; omega) hf ?_
    exact ⟨_, rfl, ⟨w.heap.size, rfl, Nat.le_trans hN hb.size, heap_alloc_new w _⟩, (Below.refl _ _).alloc (Nat.le_refl _) _⟩
def isIns (B N : Nat) (r : Option Nat) (l : List Int) (P : Nat) (x : Int) : VP := fun v w => w.ownsRow B 3 1 v (l.length + 1) ((insL l P x).map intC) ∧ (v.ownBlock = r ∨ NewB N v)
theorem zab1 {ops : Array Oper} {base : World} {a0 : Act} {Q : Exit → Act → World → Prop} {kn : Nat → VP} {i : Nat} {k0 : Nat} {ups : List Nat} (B N : Nat) (r : Option Nat) (l : List Int) (P : Nat) (x : Int) (vi : Value) (o1 o2 o3 : Operand) (hop : (ops[i]?).map (fun o => (o.op, o.guard)) = some (.call { callee := .value (.func 77), args := #[o1, o2, o3], argTypes := #[23, 3, 23] }, none))
    (h1 : Knows ops a0 kn i o1 (isVal vi)) (h2 : Knows ops a0 kn i o2 (isVal (.int .i64 (P : Int)))) (h3 : Knows ops a0 kn i o3 (isLit1 N x)) (hP : P ≤ l.length) (hl : l.length ≤ 100) (hB : B ≤ base.heap.size) (hre : vi.ownBlock = r) (hrN : ∀ s, r = some s → s < N) (hdst : ((ops[i]?).bind (·.dst)).isSome = true) (hNb : N = base.heap.size := by rfl) : OStep (GB r) i ups (fun w => w.ownsRow B 3 1 vi l.length (l.map intC)) Tryz.prog ops base a0 Q k0 kn i (isIns B N r l P x) := by
  refine ⟨⟨fun _ => fun v w w' h hb => ⟨zcd h.1 hb, h.2⟩, fun h => absurd rfl h⟩, fun o ho a w hk0 hb h0 hd => ?_⟩
  have hkf := hk0.f
  have hown := h0 (.inl rfl)
  rw [ho] at hop hdst
  simp only [Option.map_some, Option.some.injEq, Prod.mk.injEq] at hop
  obtain ⟨ho1, ho2⟩ := hop
  have hd' : FDeps ops kn i a w := fun o' ho' e he hbd => zdi (hd o' ho' e he hbd)
  have e1 : a.eval o1 = vi := h1 a w hkf hd'
  have e2 : a.eval o2 = .int .i64 (P : Int) := h2 a w hkf hd'
  obtain ⟨vb, e3, hvN, hvb⟩ := h3 a w hkf hd'
  have hne : vi.ownBlock ≠ some vb := by
    intro e
    have := hrN vb (hre.symm.trans e)
    omega
  unfold wpOp
  simp only [ho]
  rw [show Region.wanted o (yielded ops a.tmps) = true by simp [Region.wanted, ho2]]
  refine .inl ?_
  unfold Oper.wp execOp
  rw [ho1]
  have e4 : a.eval (.func 77) = .func (.func 77) #[] #[] := rfl
  simp only [resolve, e4, Deferred.ofValue, Sem.run_bind, Sem.run_pure, Result.andThen_ok, invoke, Array.append_empty, Array.empty_append, List.map_toArray, List.map_cons, List.map_nil, e1, e2, e3]
  rw [enters_of Tryz.func77 (by kernel_rfl) rfl]
  simp only [Oper.upon]
  refine (zua B l P vb x vi w hown hP hl (Nat.le_trans hB hb.size) hvb hne).mono ?_
  rintro e w' ⟨v', rfl, q1, q2, q3⟩
  rw [hre] at q2 q3
  refine ⟨v', rfl, fun hn => by simp [hn] at hdst, ⟨q1, q3.imp id (fun e b hb' => ?_)⟩, q2, fun h => absurd rfl h⟩
  have h4 := zdp e
  rw [hb'] at h4
  injection h4 with h4
  have := hb.size
  omega
noncomputable def jn8Ops : Array Oper := zat Tryz.f48 8
theorem zwi (Q : Exit → Act → World → Prop) (a0 : Act) (w0 : World) (hsz : a0.tmps.size = 83) (A : Ar) (B g P m cs : Nat) (sa : Option Addr) (vi : Value) (e0 : a0.tmps.getD 0 undef = .pointer (some ⟨g, 0, none⟩)) (e6 : a0.tmps.getD 6 undef = .int .i64 (P : Int)) (HG : Blk w0 g [.int .i64 A.cap, .slice sa m cs, vi]) (hown : w0.ownsRow B 3 1 vi A.index.length (A.index.map intC)) (hB : B ≤ w0.heap.size) (hP : P ≤ A.index.length) (hl : A.index.length ≤ 100) (hng0 : vi.ownBlock ≠ some g)
    (hQ : ∀ (y : Nat → Value) (v' : Value) (w : World), w.ownsRow B 3 1 v' (A.index.length + 1) ((insL A.index P (m : Int)).map intC) → w0.grownBy w vi.ownBlock → (v'.ownBlock = vi.ownBlock ∨ NewB w0.heap.size v') →
      Q .normal { tmps := [52, 53, 54, 55, 56, 57, 58, 59, 60, 61, 62, 63, 64, 65, 66, 67, 68, 69].foldl (fun t s => t.setIfInBounds s (y s)) a0.tmps, defers := a0.defers } (w.setCell ⟨g, 2, none⟩ v')) :
    (Code.region 8 jn8Ops true).wp Tryz.prog Q a0 w0 := by
  obtain ⟨r, hre⟩ : ∃ r, vi.ownBlock = r := ⟨_, rfl⟩
  have hng : r ≠ some g := by rw [← hre]; exact hng0
  have hrN : ∀ s, r = some s → s < w0.heap.size := fun s e => (hown.lt s (hre.trans e)).2
  have hR := zgm r
  refine zee hR 14 [] (fun w => w.ownsRow B 3 1 vi A.index.length (A.index.map intC)) (by kernel_rfl) (fun _ _ h hb => zcd h hb) (fun _ h => zcd h ((Below.refl _ _).drew)) 18 mixed (by rw [hsz]; kernel_rfl) (by kernel_rfl) hown ?_
  rw [show jn8Ops.size - 18 = 1 by kernel_rfl]
  refine ⟨isVal (.pointer (some ⟨g, 0, none⟩)), OStep.of hR (by decide) (stabR_val' _ _) (by kernel_rfl) (by intro w hr; exact zag (.tmp 0) (by kernel_rfl) (zaa (by kernel_rfl)) (zad _) (zaf 0 (.pointer (some ⟨g, 0, none⟩)) (by kernel_rfl) e0)), ?_⟩
  refine ⟨isVal (.pointer (some ⟨g, 0, none⟩)), OStep.of hR (by decide) (stabR_val' _ _) (by kernel_rfl) (by intro w hr; exact zag (.tmp 0) (by kernel_rfl) (zaa (by kernel_rfl)) (zad _) (zaf 0 (.pointer (some ⟨g, 0, none⟩)) (by kernel_rfl) e0)), ?_⟩
  refine ⟨isVal (.pointer (some ⟨g, 0, none⟩)), OStep.of hR (by decide) (stabR_val' _ _) (by kernel_rfl) (by intro w hr; exact zdd (.tmp 53) ⟨g, 0, none⟩ (by kernel_rfl) (zaa (by kernel_rfl)) (zab (V := isVal (.pointer (some ⟨g, 0, none⟩))) 53 1 (by kernel_rfl) (by kernel_rfl) (by kernel_rfl))), ?_⟩
  refine ⟨isVal (.pointer (some ⟨g, 0, none⟩)), OStep.of hR (by decide) (stabR_val' _ _) (by kernel_rfl) (by intro w hr; exact zah 78 (.tmp 54) 0 ⟨g, 0, none⟩ ⟨g, 0, none⟩ (by kernel_rfl) (zaa (by kernel_rfl)) (zab (V := isVal (.pointer (some ⟨g, 0, none⟩))) 54 2 (by kernel_rfl) (by kernel_rfl) (by kernel_rfl)) (zea (g))), ?_⟩
  refine ⟨isVal (.pointer (some ⟨g, 2, none⟩)), OStep.of hR (by decide) (stabR_val' _ _) (by kernel_rfl) (by intro w hr; exact zah 25 (.tmp 55) 2 ⟨g, 0, none⟩ ⟨g, 2, none⟩ (by kernel_rfl) (zaa (by kernel_rfl)) (zab (V := isVal (.pointer (some ⟨g, 0, none⟩))) 55 3 (by kernel_rfl) (by kernel_rfl) (by kernel_rfl)) (zgg (g))), ?_⟩
  refine ⟨isVal vi, OStep.of hR (by decide) (stabR_val' _ _) (by kernel_rfl) (by intro w hr; exact zaj 23 (.tmp 56) ⟨g, 2, none⟩ vi (by kernel_rfl) (zaa (by kernel_rfl)) (zab (V := isVal (.pointer (some ⟨g, 2, none⟩))) 56 4 (by kernel_rfl) (by kernel_rfl) (by kernel_rfl)) ((hr.cell_ (HG.cells.2 2 _ rfl) HG.lt hng)) ((Nat.lt_of_lt_of_le HG.lt hr.size)) (zgy)), ?_⟩
  refine ⟨isVal (.int .i64 (P : Int)), OStep.of hR (by decide) (stabR_val' _ _) (by kernel_rfl) (by intro w hr; exact zag (.tmp 6) (by kernel_rfl) (zaa (by kernel_rfl)) (zad _) (zaf 6 (.int .i64 (P : Int)) (by kernel_rfl) e6)), ?_⟩
  refine ⟨isVal (.pointer (some ⟨g, 0, none⟩)), OStep.of hR (by decide) (stabR_val' _ _) (by kernel_rfl) (by intro w hr; exact zag (.tmp 0) (by kernel_rfl) (zaa (by kernel_rfl)) (zad _) (zaf 0 (.pointer (some ⟨g, 0, none⟩)) (by kernel_rfl) e0)), ?_⟩
  refine ⟨isVal (.pointer (some ⟨g, 0, none⟩)), OStep.of hR (by decide) (stabR_val' _ _) (by kernel_rfl) (by intro w hr; exact zdd (.tmp 59) ⟨g, 0, none⟩ (by kernel_rfl) (zaa (by kernel_rfl)) (zab (V := isVal (.pointer (some ⟨g, 0, none⟩))) 59 7 (by kernel_rfl) (by kernel_rfl) (by kernel_rfl))), ?_⟩
  refine ⟨isVal (.pointer (some ⟨g, 0, none⟩)), OStep.of hR (by decide) (stabR_val' _ _) (by kernel_rfl) (by intro w hr; exact zah 78 (.tmp 60) 0 ⟨g, 0, none⟩ ⟨g, 0, none⟩ (by kernel_rfl) (zaa (by kernel_rfl)) (zab (V := isVal (.pointer (some ⟨g, 0, none⟩))) 60 8 (by kernel_rfl) (by kernel_rfl) (by kernel_rfl)) (zea (g))), ?_⟩
  refine ⟨isVal (.pointer (some ⟨g, 1, none⟩)), OStep.of hR (by decide) (stabR_val' _ _) (by kernel_rfl) (by intro w hr; exact zah 25 (.tmp 61) 1 ⟨g, 0, none⟩ ⟨g, 1, none⟩ (by kernel_rfl) (zaa (by kernel_rfl)) (zab (V := isVal (.pointer (some ⟨g, 0, none⟩))) 61 9 (by kernel_rfl) (by kernel_rfl) (by kernel_rfl)) (zbs (g))), ?_⟩
  refine ⟨isVal (.slice sa m cs), OStep.of hR (by decide) (stabR_val' _ _) (by kernel_rfl) (by intro w hr; exact zaj 22 (.tmp 62) ⟨g, 1, none⟩ (.slice sa m cs) (by kernel_rfl) (zaa (by kernel_rfl)) (zab (V := isVal (.pointer (some ⟨g, 1, none⟩))) 62 10 (by kernel_rfl) (by kernel_rfl) (by kernel_rfl)) ((hr.cell_ (HG.cells.2 1 _ rfl) HG.lt hng)) ((Nat.lt_of_lt_of_le HG.lt hr.size)) (zcn)), ?_⟩
  refine ⟨isVal (.int .i64 (m : Int)), OStep.of hR (by decide) (stabR_val' _ _) (by kernel_rfl) (by intro w hr; exact zds 22 (.tmp 63) (.slice sa m cs) (.int .i64 (m : Int)) (by kernel_rfl) (zaa (by kernel_rfl)) (zab (V := isVal (.slice sa m cs)) 63 11 (by kernel_rfl) (by kernel_rfl) (by kernel_rfl)) (fun ty w => by kernel_rfl)), ?_⟩
  refine ⟨(isLit1 w0.heap.size (m : Int)), OStep.of hR (by decide) (zfn1 hrN _) (by kernel_rfl) (by intro w hr; exact zxx w0.heap.size (.tmp 64) (m : Int) (by kernel_rfl) (zaa (by kernel_rfl)) (zab (V := isVal (.int .i64 (m : Int))) 64 12 (by kernel_rfl) (by kernel_rfl) (by kernel_rfl)) hr.size), ?_⟩
  refine ⟨isIns B w0.heap.size r A.index P (m : Int), zab1 B w0.heap.size r A.index P (m : Int) vi (.tmp 57) (.tmp 58) (.tmp 65) (by kernel_rfl) (zab (V := isVal vi) 57 5 (by kernel_rfl) (by kernel_rfl) (by kernel_rfl)) (zab (V := isVal (.int .i64 (P : Int))) 58 6 (by kernel_rfl) (by kernel_rfl) (by kernel_rfl)) (zab (V := (isLit1 w0.heap.size (m : Int))) 65 13 (by kernel_rfl) (by kernel_rfl) (by kernel_rfl)) hP hl hB hre hrN (by kernel_rfl), ?_⟩
  refine ⟨isVal (.pointer (some ⟨g, 0, none⟩)), OStep.of hR (by decide) (stabR_val' _ _) (by kernel_rfl) (by intro w hr; exact zdd (.tmp 52) ⟨g, 0, none⟩ (by kernel_rfl) (zaa (by kernel_rfl)) (zab (V := isVal (.pointer (some ⟨g, 0, none⟩))) 52 0 (by kernel_rfl) (by kernel_rfl) (by kernel_rfl))), ?_⟩
  refine ⟨isVal (.pointer (some ⟨g, 0, none⟩)), OStep.of hR (by decide) (stabR_val' _ _) (by kernel_rfl) (by intro w hr; exact zah 78 (.tmp 67) 0 ⟨g, 0, none⟩ ⟨g, 0, none⟩ (by kernel_rfl) (zaa (by kernel_rfl)) (zab (V := isVal (.pointer (some ⟨g, 0, none⟩))) 67 15 (by kernel_rfl) (by kernel_rfl) (by kernel_rfl)) (zea (g))), ?_⟩
  refine ⟨isVal (.pointer (some ⟨g, 2, none⟩)), OStep.of hR (by decide) (stabR_val' _ _) (by kernel_rfl) (by intro w hr; exact zah 25 (.tmp 68) 2 ⟨g, 0, none⟩ ⟨g, 2, none⟩ (by kernel_rfl) (zaa (by kernel_rfl)) (zab (V := isVal (.pointer (some ⟨g, 0, none⟩))) 68 16 (by kernel_rfl) (by kernel_rfl) (by kernel_rfl)) (zgg (g))), ?_⟩
  intro a w hk0 hb hd
  have d66 := zal (zdi (hd 14 (by decide))) (t := 66) (V := isIns B w0.heap.size r A.index P (m : Int)) (by kernel_rfl) (by kernel_rfl)
  have d69 := zal (zdi (hd 17 (by decide))) (t := 69) (V := isVal (.pointer (some ⟨g, 2, none⟩))) (by kernel_rfl) (by kernel_rfl)
  generalize hv : a.tmps.getD 66 undef = v' at d66
  obtain ⟨h1, h3⟩ := d66
  have gl : g < w.heap.size := Nat.lt_of_lt_of_le HG.lt hb.size
  have HG3 : Blk w g [.int .i64 A.cap, .slice sa m cs, vi] := ⟨⟨gl, fun j x hx => hb.cell_ (HG.cells.2 j x hx) HG.lt hng⟩, fun j => (hb.frozen_ HG.lt hng).trans (HG.free j)⟩
  refine zev 23 (.tmp 69) (.tmp 66) ⟨g, 2, none⟩ v' vi (by kernel_rfl) (by kernel_rfl) d69 hv (by kernel_rfl) (zet h1).1 (zet h1).2 (HG3.cells.2 2 _ rfl) (HG3.free 2) ?_
  obtain ⟨y, ey⟩ := zbx hk0.f [some 52, some 53, some 54, some 55, some 56, some 57, some 58, some 59, some 60, some 61, some 62, some 63, some 64, some 65, some 66, some 67, some 68, some 69, none] [52, 53, 54, 55, 56, 57, 58, 59, 60, 61, 62, 63, 64, 65, 66, 67, 68, 69] (by kernel_rfl) (by decide)
  rw [ey]
  rw [← hre] at hb h3
  exact hQ y v' w h1 hb h3
end Go.Proofs.YtkjghoomdefbbaaGreatDoor
end
section
namespace Go.Proofs.YtkjghoomdefbbaaGreatDoor
open Go.RowKit
attribute [local irreducible] setN
theorem zxl {A : Ar} {Y : En} (h : (okA A && okE Y) = false) : joinAE A Y = 2 ∧ joinAB A Y = false ∧ joinAF A Y = A := by
  unfold joinAE joinAB joinAF; rw [h]; exact ⟨rfl, rfl, rfl⟩
theorem zco1 {A : Ar} {Y : En} (h1 : okA A = true) (h2 : okE Y = true) (h3 : hitB (ordA A) Y = true) : joinAE A Y = 0 ∧ joinAB A Y = !decide (slotAt A.slots (placeI A Y) = joinEF (slotAt A.slots (placeI A Y)) Y) ∧ joinAF A Y = ⟨A.cap, meetL A Y, A.index⟩ := by
  unfold joinAE joinAB joinAF; rw [h1, h2, h3]; exact ⟨rfl, rfl, rfl⟩
theorem zzu {A : Ar} {Y : En} (h1 : okA A = true) (h2 : okE Y = true) (h3 : hitB (ordA A) Y = false) (h4 : (A.slots.length : Int) = A.cap) : joinAE A Y = 4 ∧ joinAB A Y = false ∧ joinAF A Y = A := by
  unfold joinAE joinAB joinAF; rw [h1, h2, h3]; simp [h4]
theorem zat1 {A : Ar} {Y : En} (h1 : okA A = true) (h2 : okE Y = true) (h3 : hitB (ordA A) Y = false) (h4 : ¬ (A.slots.length : Int) = A.cap) : joinAE A Y = 0 ∧ joinAB A Y = true ∧ joinAF A Y = ⟨A.cap, A.slots ++ [Y], putIdx A Y⟩ := by
  unfold joinAE joinAB joinAF; rw [h1, h2, h3]; simp [h4]
def isEnO (B : Nat) (E : En) : VP := fun v w => ∃ vp vm, v = .agg #[.string ⟨E.key.toArray⟩, .int .i64 E.val.kind, .int .i64 E.val.time, .int .i64 E.val.node, .bool E.val.dead, .string ⟨E.val.text.toArray⟩, vp, vm, .int .u64 (E.val.flags.toNat : Int)] ∧ isCells (E.val.plus.map intC) vp w ∧ isCells (E.val.minus.map intC) vm w ∧ (E.val.plus.map intC = [] ∨ ∀ b, blk vp = some b → b < B) ∧ (E.val.minus.map intC = [] ∨ ∀ b, blk vm = some b → b < B)
theorem zgh1 {E : En} {v : Value} {w w' : World} (h : isEn E v w) (hb : Below w.heap.size w w') (B : Nat) (hB : w.heap.size ≤ B) : isEnO B E v w' := by
  obtain ⟨vp, vm, e, hp, hm⟩ := h
  exact ⟨vp, vm, e, zac _ _ _ _ hp hb, zac _ _ _ _ hm hb, (zbq hp).imp id (fun h b hb => Nat.lt_of_lt_of_le (h b hb) hB), (zbq hm).imp id (fun h b hb => Nat.lt_of_lt_of_le (h b hb) hB)⟩
def JPost (B g : Nat) (A' : Ar) (w : World) : Prop := ∃ vs vi ps, ChA B w g A' vs vi ps
theorem ChA.idxput {B : Nat} {w0 w : World} {g : Nat} {A : Ar} {vs vi : Value} {ps : List (En × Value × Value)} (h : ChA B w0 g A vs vi ps) (l : List Int) (v' : Value) (h1 : w.ownsRow B 3 1 v' l.length (l.map intC)) (h2 : w0.grownBy w vi.ownBlock) (h3 : v'.ownBlock = vi.ownBlock ∨ NewB w0.heap.size v') : ChA B (w.setCell ⟨g, 2, none⟩ v') g ⟨A.cap, A.slots, l⟩ vs v' ps ∧ Bt (fun b => b = g ∨ vi.ownBlock = some b) w0 (w.setCell ⟨g, 2, none⟩ v') := by
  have bt0 : Bt (fun b => b = g ∨ vi.ownBlock = some b) w0 w := zlm h2 (fun b e => .inr e)
  have bts := zhr (S := fun b => b = g ∨ vi.ownBlock = some b) g 2 v' w (.inl rfl)
  have bt := bt0.trans bts
  have hg := h.lt
  have new_v : ∀ b, v'.ownBlock = some b → vi.ownBlock = some b ∨ w0.heap.size ≤ b := fun b hb => h3.imp (fun e => by rw [← e]; exact hb) (fun e => e b (zdp hb))
  have hst : Blk w g [.int .i64 A.cap, vs, vi] := (zlm (S := fun b => vi.ownBlock = some b) h2 (fun b e => e)).blk h.st h.n2
  have vs_lt : ∀ b, vs.ownBlock = some b → b < w0.heap.size := fun b hb => (h.own.lt b hb).2
  have hvg : v'.ownBlock ≠ some g := by
    intro e
    rcases new_v g e with e | e
    · exact h.n2 e
    · omega
  refine ⟨⟨hst.set 2 v' (by simp), h.lo, bt.own h.own (fun b hb e => ?_), h.sl, zmz h1 hvg, fun q hq => ?_, h.n1, hvg, ?_, ?_, h.nw⟩, bt⟩
  · rcases e with e | e
    · exact h.n1 (by rw [hb, e])
    · exact h.n3 b hb e
  · obtain ⟨r1, r2⟩ := h.rows q hq
    have o := h.off q hq
    refine ⟨bt.cells r1 ?_, bt.cells r2 ?_⟩
    · by_cases e : q.1.val.plus.map intC = []
      · exact .inl e
      · exact .inr (fun b hb hS => ((o b (by rcases hS with hS | hS; exact .inl hS; exact .inr (.inr hS))).1.resolve_left e) hb)
    · by_cases e : q.1.val.minus.map intC = []
      · exact .inl e
      · exact .inr (fun b hb hS => ((o b (by rcases hS with hS | hS; exact .inl hS; exact .inr (.inr hS))).2.resolve_left e) hb)
  · intro b hb e
    rcases new_v b e with e | e
    · exact h.n3 b hb e
    · have := vs_lt b hb; omega
  · intro q hq b hb
    have o := h.off q hq
    rcases hb with hb | hb | hb
    · exact o b (.inl hb)
    · exact o b (.inr (.inl hb))
    · rcases new_v b hb with e | e
      · exact o b (.inr (.inr e))
      · refine ⟨(zbq (h.rows q hq).1).imp id (fun h3 e3 => ?_), (zbq (h.rows q hq).2).imp id (fun h3 e3 => ?_)⟩
        · have := h3 b e3; omega
        · have := h3 b e3; omega
theorem zag1 (B g : Nat) (A : Ar) (Y : En) (vs vi v : Value) (ps : List (En × Value × Value)) (w : World) (h : ChA B w g A vs vi ps) (hv : isEnO B Y v w) (hF : FitA A) (hY : FitE Y) (hBw : B ≤ w.heap.size) :
    Calls Tryz.prog 48 #[.pointer (some ⟨g, 0, none⟩), v] w fun e w' => e = .returned (.tuple #[.bool (joinAB A Y), .int .i64 (joinAE A Y)]) ∧ JPost B g (joinAF A Y) w' ∧ Below B w w' := by
  obtain ⟨yp, ym, rfl, hyp, hym, oyp, oym⟩ := hv
  have OY := Kept.mk (And.intro oyp oym)
  have hvi0 : ∀ b, vi.ownBlock = some b → B ≤ b ∧ b < w.heap.size := fun b hb => h.idx.lt b hb
  have hvs0 : ∀ b, vs.ownBlock = some b → B ≤ b ∧ b < w.heap.size := fun b hb => h.own.lt b hb
  have hb0 := zar w (.cells #[.string ⟨Y.key.toArray⟩, .int .i64 Y.val.kind, .int .i64 Y.val.time, .int .i64 Y.val.node, .bool Y.val.dead, .string ⟨Y.val.text.toArray⟩, yp, ym, .int .u64 (Y.val.flags.toNat : Int)] 48)
  have hB := Kept.mk hb0
  have HC := Kept.mk (h.keep hb0)
  have HE := Kept.mk (Blk.new w 48 [.string ⟨Y.key.toArray⟩, .int .i64 Y.val.kind, .int .i64 Y.val.time, .int .i64 Y.val.node, .bool Y.val.dead, .string ⟨Y.val.text.toArray⟩, yp, ym, .int .u64 (Y.val.flags.toNat : Int)] w.heap.size rfl)
  have RY0 := Kept.mk (And.intro (zbq hyp) (zbq hym))
  have RY := Kept.mk (And.intro (zac _ _ _ _ hyp hb0) (zac _ _ _ _ hym hb0))
  have hgw := h.lt
  have hlo := h.lo
  have hN0 : w.heap.size < (w.alloc (.cells #[.string ⟨Y.key.toArray⟩, .int .i64 Y.val.kind, .int .i64 Y.val.time, .int .i64 Y.val.node, .bool Y.val.dead, .string ⟨Y.val.text.toArray⟩, yp, ym, .int .u64 (Y.val.flags.toNat : Int)] 48)).heap.size := HE.out.lt
  obtain ⟨RB, hRB⟩ : ∃ r, joinAB A Y = r := ⟨_, rfl⟩
  obtain ⟨RE, hRE⟩ : ∃ r, joinAE A Y = r := ⟨_, rfl⟩
  obtain ⟨RF, hRF⟩ : ∃ r, joinAF A Y = r := ⟨_, rfl⟩
  rw [hRB, hRE, hRF]
  have HR := Kept.mk (And.intro hRB (And.intro hRE hRF))
  clear h hyp hym hb0 hRB hRE hRF
  have k0 := HC.out.st.cells.2 0 _ rfl
  have k1 := HC.out.st.cells.2 1 _ rfl
  have k2 := HC.out.st.cells.2 2 _ rfl
  have XA := Kept.mk HC.out.ar
  go_enter Tryz.func48, Tryz.ntmps48
  go_wp2_with fail
  generalize (w.alloc (.cells #[.string ⟨Y.key.toArray⟩, .int .i64 Y.val.kind, .int .i64 Y.val.time, .int .i64 Y.val.node, .bool Y.val.dead, .string ⟨Y.val.text.toArray⟩, yp, ym, .int .u64 (Y.val.flags.toNat : Int)] 48)) = W0 at *
  refine (zil A _ _ XA.out hF).mono ?_
  rintro e W1 ⟨rfl, hb⟩
  have hN1 := hb.size
  replace HC := Kept.mk (HC.out.keep hb)
  replace HE := Kept.mk (HE.out.keep hb)
  replace RY := Kept.mk (And.intro (zac _ _ _ _ RY.out.1 hb) (zac _ _ _ _ RY.out.2 hb))
  replace hB := Kept.mk (hB.out.trans (hb.mono (by omega)))
  clear hb k0 k1 k2 XA
  cases hok : okA A with
  | false =>
    rw [zmk hok]
    obtain ⟨j1, j2, j3⟩ := zxl (A := A) (Y := Y) (by rw [hok]; rfl)
    obtain ⟨r1, r2, r3⟩ := HR.out
    have HP := Kept.mk (show JPost B g RF W1 from ⟨_, _, _, by rw [← r3, j3]; exact HC.out⟩)
    have HQ := Kept.mk (And.intro (r1.symm.trans j2) (r2.symm.trans j1))
    clear j1 j2 j3 r1 r2 r3 HR
    go_wp2
    go_ret2
    exact ⟨by rw [HQ.out.1, HQ.out.2]; rfl, HP.out, hB.out.mono hBw⟩
  | true =>
    rw [zzo hok]
    have HO := Kept.mk hok
    clear hok
    have ke0 := HE.out.cells.2 0 _ rfl
    have ke1 := HE.out.cells.2 1 _ rfl
    have ke2 := HE.out.cells.2 2 _ rfl
    have ke3 := HE.out.cells.2 3 _ rfl
    have ke4 := HE.out.cells.2 4 _ rfl
    have ke5 := HE.out.cells.2 5 _ rfl
    have ke6 := HE.out.cells.2 6 _ rfl
    have ke7 := HE.out.cells.2 7 _ rfl
    have ke8 := HE.out.cells.2 8 _ rfl
    have XE := Kept.mk (show isEn Y (.agg #[.string ⟨Y.key.toArray⟩, .int .i64 Y.val.kind, .int .i64 Y.val.time, .int .i64 Y.val.node, .bool Y.val.dead, .string ⟨Y.val.text.toArray⟩, yp, ym, .int .u64 (Y.val.flags.toNat : Int)]) W1 from ⟨yp, ym, rfl, RY.out.1, RY.out.2⟩)
    go_wp2_with fail
    refine (zdl Y _ _ XE.out hY).mono ?_
    rintro e W2 ⟨rfl, hb⟩
    have hN2 := hb.size
    replace HC := Kept.mk (HC.out.keep hb)
    replace HE := Kept.mk (HE.out.keep hb)
    replace RY := Kept.mk (And.intro (zac _ _ _ _ RY.out.1 hb) (zac _ _ _ _ RY.out.2 hb))
    replace hB := Kept.mk (hB.out.trans (hb.mono (by omega)))
    clear hb XE ke0 ke1 ke2 ke3 ke4 ke5 ke6 ke7 ke8
    cases hoe : okE Y with
    | false =>
      rw [zpf hoe]
      obtain ⟨j1, j2, j3⟩ := zxl (A := A) (Y := Y) (by rw [hoe, Bool.and_false])
      obtain ⟨r1, r2, r3⟩ := HR.out
      have HP := Kept.mk (show JPost B g RF W2 from ⟨_, _, _, by rw [← r3, j3]; exact HC.out⟩)
      have HQ := Kept.mk (And.intro (r1.symm.trans j2) (r2.symm.trans j1))
      clear j1 j2 j3 r1 r2 r3 HR
      go_wp2
      go_ret2
      exact ⟨by rw [HQ.out.1, HQ.out.2]; rfl, HP.out, hB.out.mono hBw⟩
    | true =>
      rw [zog hoe]
      have HOE := Kept.mk hoe
      clear hoe
      have OKA := Kept.mk (okA_iff.1 HO.out)
      obtain ⟨P, hP⟩ : ∃ P, posN (ordA A) Y = P := ⟨_, rfl⟩
      obtain ⟨Z, hZ⟩ : ∃ Z, hitB (ordA A) Y = Z := ⟨_, rfl⟩
      have HPZ := Kept.mk (And.intro hP hZ)
      clear hP hZ
      go_wp2_with fail
      refine zut _ _ _ rfl A g w.heap.size P Z Y _ _ yp ym rfl rfl HC.out.st HE.out OKA.out HC.out.ar RY.out.1 RY.out.2 HPZ.out.1 HPZ.out.2 ?_
      intro f9 W3 d6 d7 hb9
      simp only [List.foldl_cons, List.foldl_nil, d6, d7]
      generalize f9 20 = y20
      generalize f9 21 = y21
      generalize f9 22 = y22
      generalize f9 23 = y23
      generalize f9 24 = y24
      generalize f9 25 = y25
      generalize f9 19 = y19
      generalize f9 26 = y26
      generalize f9 27 = y27
      clear d6 d7
      simp only [List.setIfInBounds_toArray, List.set_cons_succ, List.set_cons_zero]
      have hN3 := hb9.size
      replace HC := Kept.mk (HC.out.keep hb9)
      replace HE := Kept.mk (HE.out.keep hb9)
      replace RY := Kept.mk (And.intro (zac _ _ _ _ RY.out.1 hb9) (zac _ _ _ _ RY.out.2 hb9))
      replace hB := Kept.mk (hB.out.trans (hb9.mono (by omega)))
      clear hb9
      cases Z with
      | true =>
        obtain ⟨pr, pi, _, pn⟩ := zvx OKA.out HPZ.out.2
        rw [HPZ.out.1] at pi
        obtain ⟨q, hq⟩ : ∃ q : Nat, placeI A Y = (q : Int) := ⟨(placeI A Y).toNat, by omega⟩
        rw [hq] at pr pi pn
        obtain ⟨X, hX⟩ : ∃ X, A.slots[q]? = some X := ⟨_, List.getElem?_eq_getElem (by omega)⟩
        rw [zci hX] at pn
        have hoX := OKA.out.ents X (List.mem_of_getElem? hX)
        have hjj : joinEE X Y = 0 := by unfold joinEE; rw [hoX, HOE.out, pn]; rfl
        obtain ⟨J, hJ⟩ : ∃ J, joinEF X Y = J := ⟨_, rfl⟩
        obtain ⟨j1, j2, j3⟩ := zco1 HO.out HOE.out HPZ.out.2
        rw [hq, zci hX, hJ] at j2
        have j4 : meetL A Y = A.slots.set q J := by unfold meetL; rw [hq, zci hX, hJ]; rfl
        obtain ⟨bi, oi, ci, hvi, hbi, hci⟩ := zkf HC.out.ints (by intro e; rw [e] at pi; simp at pi)
        have hPn : P < A.index.length := (List.getElem?_eq_some_iff.1 pi).1
        have kq := hci P _ pi
        have KH := Kept.mk (And.intro hX (And.intro hjj (And.intro hJ (And.intro kq (ok_fit' hoX)))))
        obtain ⟨r1, r2, r3⟩ := HR.out
        have HQ := Kept.mk (And.intro (r1.symm.trans j2) (And.intro (r2.symm.trans j1) (r3.symm.trans (by rw [j3, j4]))))
        subst hvi
        clear hX hjj hJ kq hci pr pi pn hoX j1 j2 j3 j4 r1 r2 r3 HR hq
        go_wp2_with fail
        refine zwj _ _ _ rfl A g w.heap.size P q bi oi ci A.index.length Y _ yp ym rfl rfl rfl HC.out.st HE.out hPn KH.out.2.2.2.1 hbi ?_
        intro y W4 hb4
        have hN4 := hb4.size
        refine (zaq1 B g q A X Y J _ _ _ _ W4 KH.out.2.2.1 (HC.out.keep hb4) KH.out.1 (zfo RY.out.1 RY.out.2 hb4) KH.out.2.2.2.2 hY KH.out.2.1 (by omega)).mono ?_
        rintro e W5 ⟨ps', rfl, hch, hb5⟩
        have HP := Kept.mk (show JPost B g RF W5 from ⟨_, _, _, by rw [HQ.out.2.2]; exact hch⟩)
        have B5 := Kept.mk (((hB.out.trans (hb4.mono (by omega))).mono hBw).trans hb5)
        clear hch hb5 hb4
        refine ⟨_, rfl, ?_⟩
        simp only [List.foldl_cons, List.foldl_nil]
        generalize y 29 = z29
        generalize y 30 = z30
        generalize y 31 = z31
        generalize y 32 = z32
        generalize y 33 = z33
        generalize y 34 = z34
        generalize y 35 = z35
        generalize y 36 = z36
        generalize y 37 = z37
        generalize y 38 = z38
        generalize y 39 = z39
        generalize y 4 = z4
        generalize y 5 = z5
        simp only [List.setIfInBounds_toArray, List.set_cons_succ, List.set_cons_zero]
        have HQ1 := Kept.mk HQ.out.1
        have HQ2 := Kept.mk HQ.out.2.1
        generalize decide (X = J) = dz at *
        go_wp2
        go_ret2
        exact ⟨by rw [HQ1.out, HQ2.out]; rfl, HP.out, B5.out⟩
      | false =>
        obtain ⟨sa, cs, hvs⟩ := HC.out.ens.len
        subst hvs
        obtain ⟨r1, r2, r3⟩ := HR.out
        have f1 := hF.slots
        have D := (Below.refl W3.heap.size W3).drew
        have hPl : P ≤ A.index.length := by
          have := zzr (ordA A) Y
          rw [HPZ.out.1] at this
          unfold ordA at this
          rwa [List.length_map] at this
        have f2 := hF.index
        have hix : A.index.length ≤ 100 := by have := OKA.out.len; have := OKA.out.fits; have := OKA.out.room; omega
        by_cases hfull : (A.slots.length : Int) = A.cap
        · obtain ⟨j1, j2, j3⟩ := zzu HO.out HOE.out HPZ.out.2 hfull
          have k0 := HC.out.st.cells.2 0 _ rfl
          have k1 := HC.out.st.cells.2 1 _ rfl
          rw [← hfull] at k0
          have hd : ((A.slots.length : Int) == (A.slots.length : Int)) = true := by simp
          have HP := Kept.mk (show JPost B g RF W3.drew from ⟨_, _, _, by rw [← r3, j3]; exact HC.out.keep D⟩)
          have B5 := Kept.mk ((hB.out.mono hBw).trans (D.mono (by omega)))
          have HQ := Kept.mk (And.intro (r1.symm.trans j2) (r2.symm.trans j1))
          clear j1 j2 j3 r1 r2 r3 HR D hfull
          go_wp2_with fail
          go_region
          all_goals go_wp2
          all_goals go_ret2
          all_goals exact ⟨by rw [HQ.out.1, HQ.out.2]; rfl, HP.out, B5.out⟩
        · obtain ⟨j1, j2, j3⟩ := zat1 HO.out HOE.out HPZ.out.2 hfull
          have k0 := HC.out.st.cells.2 0 _ rfl
          have k1 := HC.out.st.cells.2 1 _ rfl
          have hd : ((A.slots.length : Int) == A.cap) = false := by simpa using hfull
          have j4 : putIdx A Y = insL A.index P (A.slots.length : Int) := by unfold putIdx insL; rw [HPZ.out.1]
          have HQ := Kept.mk (And.intro (r1.symm.trans j2) (And.intro (r2.symm.trans j1) (r3.symm.trans (by rw [j3, j4]))))
          have HC4 := Kept.mk (HC.out.keep D)
          have HE4 := Kept.mk (HE.out.keep D)
          have RY4 := Kept.mk (And.intro (zac _ _ _ _ RY.out.1 D) (zac _ _ _ _ RY.out.2 D))
          have B4 := Kept.mk (hB.out.trans (D.mono (by omega)))
          have hN4 : W3.heap.size ≤ W3.drew.heap.size := D.size
          clear j1 j2 j3 j4 r1 r2 r3 HR D hfull HC HE RY hB
          go_wp2_with fail
          go_region
          all_goals go_wp2_with fail
          generalize W3.drew = W4 at *
          clear k0 k1
          refine zwi _ _ _ rfl A B g P A.slots.length cs sa vi rfl rfl HC4.out.st HC4.out.idx (by omega) hPl hix HC4.out.n2 ?_
          intro y v' W5 h1 h2 h3
          obtain ⟨hch, bt⟩ := HC4.out.idxput (insL A.index P (A.slots.length : Int)) v' (by rw [zkz _ _ _ hPl]; exact h1) h2 h3
          simp only [List.foldl_cons, List.foldl_nil]
          generalize y 52 = z52
          generalize y 53 = z53
          generalize y 54 = z54
          generalize y 55 = z55
          generalize y 56 = z56
          generalize y 57 = z57
          generalize y 58 = z58
          generalize y 59 = z59
          generalize y 60 = z60
          generalize y 61 = z61
          generalize y 62 = z62
          generalize y 63 = z63
          generalize y 64 = z64
          generalize y 65 = z65
          generalize y 66 = z66
          generalize y 67 = z67
          generalize y 68 = z68
          generalize y 69 = z69
          simp only [List.setIfInBounds_toArray, List.set_cons_succ, List.set_cons_zero]
          generalize W5.setCell ⟨g, 2, none⟩ v' = W6 at *
          have hN6 := bt.size
          have hE6 := bt.blk HE4.out (show ¬ (w.heap.size = g ∨ vi.ownBlock = some w.heap.size) by rintro (e | e); (· omega); (· have := (hvi0 _ e).2; omega))
          have yoff : ∀ b, B ≤ b → (Y.val.plus.map intC = [] ∨ blk yp ≠ some b) ∧ (Y.val.minus.map intC = [] ∨ blk ym ≠ some b) := fun b hb => ⟨OY.out.1.imp id (fun h e => by have := h b e; omega), OY.out.2.imp id (fun h e => by have := h b e; omega)⟩
          have lowS : ∀ b, (b = g ∨ vi.ownBlock = some b) → B ≤ b := fun b hb => by rcases hb with rfl | hb; (· exact hlo); (· exact (hvi0 b hb).1)
          have ry6 : isCells (Y.val.plus.map intC) yp W6 := bt.cells RY4.out.1 (OY.out.1.imp id (fun h b hb hS => by have := h b hb; have := lowS b hS; omega))
          have rm6 : isCells (Y.val.minus.map intC) ym W6 := bt.cells RY4.out.2 (OY.out.2.imp id (fun h b hb hS => by have := h b hb; have := lowS b hS; omega))
          have hps : ps.length ≤ 1000 := by rw [hch.len]; exact f1
          have K6 := Kept.mk (And.intro hch (And.intro hE6 (And.intro ry6 rm6)))
          have B6 := Kept.mk ((B4.out.mono hBw).trans (bt.below lowS (by omega)))
          clear h1 h2 h3 hch bt hE6 ry6 rm6 lowS
          go_wp2_with fail
          refine zpr _ _ _ rfl g w.heap.size B ps.length _ Y _ yp ym (flatE ps) rfl rfl K6.out.1.st rfl K6.out.2.1 K6.out.2.2.1 K6.out.2.2.2 hY K6.out.1.own hps (by omega) (fun s hs => ⟨fun e => K6.out.1.n1 (by rw [hs, e]), by have := (hvs0 s hs).2; omega, yoff s (hvs0 s hs).1⟩) ?_
          intro y v vp vm W7 h1 h2 h3 h4 h5 h6 h7 h8 h9
          have hch7 := K6.out.1.push Y v vp vm h1 h2 h3 h4 h5 h6 h7 h8 h9
          have HP := Kept.mk (show JPost B g RF W7 from ⟨_, _, _, by rw [HQ.out.2.2]; exact hch7⟩)
          have B7 := Kept.mk (B6.out.trans (h9.below (fun b hb => by rcases hb with rfl | hb; (· exact hlo); (· exact (hvs0 b hb).1)) (by omega)))
          clear h1 h2 h3 h4 h5 h6 h7 h8 h9 hch7 K6
          simp only [List.foldl_cons, List.foldl_nil]
          generalize y 70 = x70
          generalize y 71 = x71
          generalize y 72 = x72
          generalize y 73 = x73
          generalize y 74 = x74
          generalize y 75 = x75
          generalize y 76 = x76
          generalize y 77 = x77
          generalize y 78 = x78
          generalize y 79 = x79
          generalize y 80 = x80
          generalize y 81 = x81
          generalize y 82 = x82
          simp only [List.setIfInBounds_toArray, List.set_cons_succ, List.set_cons_zero]
          go_wp2
          go_ret2
          exact ⟨by rw [HQ.out.1, HQ.out.2.1]; rfl, HP.out, B7.out⟩
end Go.Proofs.YtkjghoomdefbbaaGreatDoor
end
section
namespace Go.Proofs.YtkjghoomdefbbaaGreatDoor
open Go.RowKit
attribute [local irreducible] setN
theorem zwp {P : Program} {fn : Func} {p u1 u2 : Tmp} {t : TypeId} (h : fn.results = #[.cell p t, .tmp u1, .tmp u2]) (tmps : Array Value) (w : World) (g : Nat) (l : List Value) (x1 x2 : Value) (hs : (P.info? t).map (·.size) = some l.length) (ha : ∀ w, (isAgg t).run P w = .ok true w) (hp : tmps.getD p undef = .pointer (some ⟨g, 0, none⟩)) (h1 : tmps.getD u1 undef = x1) (h2 : tmps.getD u2 undef = x2) (hc : CellsN w g l) :
    (results fn tmps).run P w = .ok (.tuple #[.agg l.toArray, x1, x2]) w := by
  have hp' : tmps[p]?.getD undef = .pointer (some ⟨g, 0, none⟩) := by simpa using hp
  have h1' : tmps[u1]?.getD undef = x1 := by simpa using h1
  have h2' : tmps[u2]?.getD undef = x2 := by simpa using h2
  simp [results, h, hp', h1', h2', asAddr, loadN t g w l hs ha hc]
theorem Blk.keepB {B : Nat} {W W' : World} {b : Nat} {cs : List Value} (h : Blk W b cs) (k : Below B W W') (hb : b < B) : Blk W' b cs := ⟨h.cells.keep k hb, h.free.keep k hb⟩
def newAE (n : Int) : Int := if roomB n = true then 0 else 1
def newAF (n : Int) : Ar := if roomB n = true then ⟨n, [], []⟩ else zeroA
theorem zcq1 (n : Int) (w : World) : Calls Tryz.prog 33 #[.int .i64 n] w fun e w' => ∃ v', e = .returned (.tuple #[v', .int .i64 (newAE n)]) ∧ isAr (newAF n) v' w' ∧ Below w.heap.size w w' := by
  have HR := Kept.mk (Blk.new w 25 [.int .i64 0, .slice none 0 0, .slice none 0 0] w.heap.size rfl)
  have hB := Kept.mk (zar w (.cells #[.int .i64 0, .slice none 0 0, .slice none 0 0] 25))
  go_enter Tryz.func33, Tryz.ntmps33
  go_wp2_with fail
  generalize (w.alloc (.cells #[.int .i64 0, .slice none 0 0, .slice none 0 0] 25)) = W0 at *
  refine (zsv n _).mono ?_
  rintro e W1 ⟨rfl, hb⟩
  replace HR := Kept.mk (HR.out.keep hb)
  replace hB := Kept.mk (hB.out.trans (hb.mono hB.out.size))
  clear hb
  cases hr : roomB n with
  | true =>
    have e1 : newAE n = 0 := by unfold newAE; rw [hr]; rfl
    have e2 : newAF n = ⟨n, [], []⟩ := by unfold newAF; rw [hr]; rfl
    have HO : Kept (Ones [.int .i64 n, .slice none 0 0, .slice none 0 0]) := ⟨⟨rfl, rfl, rfl, trivial⟩⟩
    go_wp2_with (have hz0 := HO; refine zao 25 rfl (.tmp 2) (.tmp 9) rfl w.heap.size [.int .i64 n, .slice none 0 0, .slice none 0 0] zcs rfl rfl HR.out.cells rfl HR.out.free HO.out ?_; clear hz0 HO)
    rw [e1, e2]
    exact bodyPost_ret (zbw rfl _ _ w.heap.size [.int .i64 n, .slice none 0 0, .slice none 0 0] (.int .i64 0) zcs zfn rfl rfl (HR.out.all_ (l := [.int .i64 n, .slice none 0 0, .slice none 0 0]) rfl).cells) rfl ⟨_, rfl, ⟨.slice none 0 0, .slice none 0 0, rfl, .inl ⟨rfl, rfl⟩, .inl ⟨rfl, rfl⟩⟩, zbi (Nat.le_refl _) _ 0 _ hB.out⟩
  | false =>
    have e1 : newAE n = 1 := by unfold newAE; rw [hr]; rfl
    have e2 : newAF n = zeroA := by unfold newAF; rw [hr]; rfl
    have HO : Kept (Ones [.int .i64 0, .slice none 0 0, .slice none 0 0]) := ⟨⟨rfl, rfl, rfl, trivial⟩⟩
    go_wp2_with (have hz0 := HO; refine zao 25 rfl (.tmp 2) (.tmp 7) rfl w.heap.size [.int .i64 0, .slice none 0 0, .slice none 0 0] zcs rfl rfl HR.out.cells rfl HR.out.free HO.out ?_; clear hz0 HO)
    rw [e1, e2]
    exact bodyPost_ret (zbw rfl _ _ w.heap.size [.int .i64 0, .slice none 0 0, .slice none 0 0] (.int .i64 1) zcs zfn rfl rfl (HR.out.all_ rfl).cells) rfl ⟨_, rfl, ⟨.slice none 0 0, .slice none 0 0, rfl, .inl ⟨rfl, rfl⟩, .inl ⟨rfl, rfl⟩⟩, zbi (Nat.le_refl _) _ 0 _ hB.out⟩
theorem zwu (A : Ar) (Y : En) (v u : Value) (w : World) (hv : isAr A v w) (hu : isEn Y u w) (hF : FitA A) (hY : FitE Y) : Calls Tryz.prog 29 #[v, u] w fun e w' => ∃ v', e = .returned (.tuple #[v', .bool (joinAB A Y), .int .i64 (joinAE A Y)]) ∧ isAr (joinAF A Y) v' w' ∧ Below w.heap.size w w' := by
  obtain ⟨vs, vi, rfl, hs, hi⟩ := hv
  obtain ⟨yp, ym, rfl, hyp, hym⟩ := hu
  have hb0 : Below w.heap.size w (((w.alloc (.cells #[.int .i64 A.cap, vs, vi] 25)).alloc (.cells #[.string ⟨Y.key.toArray⟩, .int .i64 Y.val.kind, .int .i64 Y.val.time, .int .i64 Y.val.node, .bool Y.val.dead, .string ⟨Y.val.text.toArray⟩, yp, ym, .int .u64 (Y.val.flags.toNat : Int)] 48)).alloc (.cells #[.int .i64 0, .slice none 0 0, .slice none 0 0] 25)) := (((Below.refl _ w).alloc (Nat.le_refl _) _).alloc (by simp) _).alloc (by simp; omega) _
  have hsz : (((w.alloc (.cells #[.int .i64 A.cap, vs, vi] 25)).alloc (.cells #[.string ⟨Y.key.toArray⟩, .int .i64 Y.val.kind, .int .i64 Y.val.time, .int .i64 Y.val.node, .bool Y.val.dead, .string ⟨Y.val.text.toArray⟩, yp, ym, .int .u64 (Y.val.flags.toNat : Int)] 48)).alloc (.cells #[.int .i64 0, .slice none 0 0, .slice none 0 0] 25)).heap.size = w.heap.size + 3 := by simp
  have HA := Kept.mk (show isAr A (.agg #[.int .i64 A.cap, vs, vi]) (((w.alloc (.cells #[.int .i64 A.cap, vs, vi] 25)).alloc (.cells #[.string ⟨Y.key.toArray⟩, .int .i64 Y.val.kind, .int .i64 Y.val.time, .int .i64 Y.val.node, .bool Y.val.dead, .string ⟨Y.val.text.toArray⟩, yp, ym, .int .u64 (Y.val.flags.toNat : Int)] 48)).alloc (.cells #[.int .i64 0, .slice none 0 0, .slice none 0 0] 25)) from zbu A _ _ _ ⟨vs, vi, rfl, hs, hi⟩ hb0)
  have HY := Kept.mk (show isEn Y (.agg #[.string ⟨Y.key.toArray⟩, .int .i64 Y.val.kind, .int .i64 Y.val.time, .int .i64 Y.val.node, .bool Y.val.dead, .string ⟨Y.val.text.toArray⟩, yp, ym, .int .u64 (Y.val.flags.toNat : Int)]) w from ⟨yp, ym, rfl, hyp, hym⟩)
  have BA := (((Blk.new w 25 [.int .i64 A.cap, vs, vi] w.heap.size rfl).alloc (.cells #[.string ⟨Y.key.toArray⟩, .int .i64 Y.val.kind, .int .i64 Y.val.time, .int .i64 Y.val.node, .bool Y.val.dead, .string ⟨Y.val.text.toArray⟩, yp, ym, .int .u64 (Y.val.flags.toNat : Int)] 48)).alloc (.cells #[.int .i64 0, .slice none 0 0, .slice none 0 0] 25))
  have BY := Kept.mk ((Blk.new (w.alloc (.cells #[.int .i64 A.cap, vs, vi] 25)) 48 [.string ⟨Y.key.toArray⟩, .int .i64 Y.val.kind, .int .i64 Y.val.time, .int .i64 Y.val.node, .bool Y.val.dead, .string ⟨Y.val.text.toArray⟩, yp, ym, .int .u64 (Y.val.flags.toNat : Int)] (w.heap.size + 1) (by simp)).alloc (.cells #[.int .i64 0, .slice none 0 0, .slice none 0 0] 25))
  have BR := Kept.mk (Blk.new ((w.alloc (.cells #[.int .i64 A.cap, vs, vi] 25)).alloc (.cells #[.string ⟨Y.key.toArray⟩, .int .i64 Y.val.kind, .int .i64 Y.val.time, .int .i64 Y.val.node, .bool Y.val.dead, .string ⟨Y.val.text.toArray⟩, yp, ym, .int .u64 (Y.val.flags.toNat : Int)] 48)) 25 [.int .i64 0, .slice none 0 0, .slice none 0 0] (w.heap.size + 1 + 1) (by simp))
  have ka0 := BA.cells.2 0 _ rfl
  have ka1 := BA.cells.2 1 _ rfl
  have ka2 := BA.cells.2 2 _ rfl
  have hB := Kept.mk hb0
  clear hs hi hyp hym BA hb0
  go_enter Tryz.func29, Tryz.ntmps29
  go_wp2_with fail
  generalize (((w.alloc (.cells #[.int .i64 A.cap, vs, vi] 25)).alloc (.cells #[.string ⟨Y.key.toArray⟩, .int .i64 Y.val.kind, .int .i64 Y.val.time, .int .i64 Y.val.node, .bool Y.val.dead, .string ⟨Y.val.text.toArray⟩, yp, ym, .int .u64 (Y.val.flags.toNat : Int)] 48)).alloc (.cells #[.int .i64 0, .slice none 0 0, .slice none 0 0] 25)) = W0 at *
  refine (zvc A _ _ HA.out hF).mono ?_
  rintro e W1 ⟨c, vs', vi', ps, rfl, hch, hb⟩
  have hN := hb.size
  have HC := Kept.mk hch
  replace BY := Kept.mk (BY.out.keep hb)
  replace BR := Kept.mk (BR.out.keep hb)
  replace hB := Kept.mk (hB.out.trans (hb.mono (by omega)))
  have ky0 := BY.out.cells.2 0 _ rfl
  have ky1 := BY.out.cells.2 1 _ rfl
  have ky2 := BY.out.cells.2 2 _ rfl
  have ky3 := BY.out.cells.2 3 _ rfl
  have ky4 := BY.out.cells.2 4 _ rfl
  have ky5 := BY.out.cells.2 5 _ rfl
  have ky6 := BY.out.cells.2 6 _ rfl
  have ky7 := BY.out.cells.2 7 _ rfl
  have ky8 := BY.out.cells.2 8 _ rfl
  have XY := Kept.mk (zgh1 HY.out hB.out W0.heap.size (by omega))
  clear ka0 ka1 ka2 hb hch HA
  go_wp2_with fail
  refine (zag1 W0.heap.size c A Y _ _ _ _ W1 HC.out XY.out hF hY hN).mono ?_
  rintro e W2 ⟨rfl, ⟨vs2, vi2, ps2, hch2⟩, hb⟩
  have HC2 := Kept.mk hch2
  have BR2 := Kept.mk (BR.out.keepB hb (by omega))
  have hB2 := Kept.mk (hB.out.trans (hb.mono (by omega)))
  have k0 := HC2.out.st.cells.2 0 _ rfl
  have k1 := HC2.out.st.cells.2 1 _ rfl
  have k2 := HC2.out.st.cells.2 2 _ rfl
  clear hch2 hb BR hB HC BY XY ky0 ky1 ky2 ky3 ky4 ky5 ky6 ky7 ky8
  have HO : Kept (Ones [.int .i64 (joinAF A Y).cap, vs2, vi2]) := ⟨⟨rfl, (zet HC2.out.own).2, (zet HC2.out.idx).2, trivial⟩⟩
  go_wp2_with (have hz0 := HO; refine zao 25 rfl (.tmp 4) (.tmp 21) rfl (w.heap.size + 1 + 1) [.int .i64 (joinAF A Y).cap, vs2, vi2] zcs rfl rfl BR2.out.cells rfl BR2.out.free HO.out ?_; clear hz0 HO)
  exact bodyPost_ret (zwp rfl _ _ (w.heap.size + 1 + 1) [.int .i64 (joinAF A Y).cap, vs2, vi2] (.bool (joinAB A Y)) (.int .i64 (joinAE A Y)) zcs zfn rfl rfl rfl (BR2.out.all_ (l := [.int .i64 (joinAF A Y).cap, vs2, vi2]) rfl).cells) rfl ⟨_, rfl, HC2.out.ar_set (by omega) 0 _, zbi (by omega) _ 0 _ hB2.out⟩
end Go.Proofs.YtkjghoomdefbbaaGreatDoor
end
section
namespace Go.Proofs.YtkjghoomdefbbaaGreatDoor
open Go.RowKit
attribute [local irreducible] setN
end Go.Proofs.YtkjghoomdefbbaaGreatDoor
end
section
namespace Go.Proofs.YtkjghoomdefbbaaGreatDoor
open Go.RowKit Go.Shelf
attribute [local irreducible] setN
attribute [local go_sem] Oper.semAt_some
abbrev El := Nat × En × Value × Value
def encE (x : El) : Array Value := #[.int .i64 (x.1 : Int), .agg #[.string ⟨x.2.1.key.toArray⟩, .int .i64 x.2.1.val.kind, .int .i64 x.2.1.val.time, .int .i64 x.2.1.val.node, .bool x.2.1.val.dead, .string ⟨x.2.1.val.text.toArray⟩, x.2.2.1, x.2.2.2, .int .u64 (x.2.1.val.flags.toNat : Int)]]
def OkEl (A : Ar) (w : World) (x : El) : Prop := A.slots[x.1]? = some x.2.1 ∧ isCells (x.2.1.val.plus.map intC) x.2.2.1 w ∧ isCells (x.2.1.val.minus.map intC) x.2.2.2 w
def KpA (n0 Bs : Nat) (W W' : World) : Prop := W.heap.size ≤ W'.heap.size ∧ ∀ b, (b < n0 ∨ b = Bs) → W'.heap[b]? = W.heap[b]?
theorem zgx1 (n0 Bs : Nat) {A B C : World} (h : KpA n0 Bs A B) (k : KpA n0 Bs B C) : KpA n0 Bs A C := ⟨Nat.le_trans h.1 k.1, fun b hb => (k.2 b hb).trans (h.2 b hb)⟩
theorem zju {n0 Bs : Nat} {W W' : World} (h : Below W.heap.size W W') (h1 : n0 ≤ W.heap.size) (h2 : Bs < W.heap.size) : KpA n0 Bs W W' := ⟨h.size, fun b hb => h.block b (by omega)⟩
structure ItA (A : Ar) (vs vi : Value) (w : World) (n0 Bs : Nat) (W : World) : Prop where
  size : n0 ≤ W.heap.size
  lt : Bs < W.heap.size
  old : ∀ b, b < n0 → W.heap[b]? = w.heap[b]?
  box : W.heap[Bs]? = some (.cells #[.int .i64 A.cap, vs, vi] 25 (0, 0))
theorem ItA.kp {A : Ar} {vs vi : Value} {w : World} {n0 Bs : Nat} {W W' : World} (h : ItA A vs vi w n0 Bs W) (k : KpA n0 Bs W W') : ItA A vs vi w n0 Bs W' :=
  ⟨Nat.le_trans h.size k.1, Nat.lt_of_lt_of_le h.lt k.1, fun b hb => (k.2 b (.inl hb)).trans (h.old b hb), (k.2 Bs (.inr rfl)).trans h.box⟩
theorem ItA.up {A : Ar} {vs vi : Value} {w : World} {Bs : Nat} {W : World} (h : ItA A vs vi w w.heap.size Bs W) : Below w.heap.size w { w with heap := W.heap } := ⟨rfl, rfl, rfl, h.size, h.old⟩
theorem ItA.ar {A : Ar} {vs vi : Value} {w : World} {Bs : Nat} {W : World} (h : ItA A vs vi w w.heap.size Bs W) (ha : isAr A (.agg #[.int .i64 A.cap, vs, vi]) w) : isAr A (.agg #[.int .i64 A.cap, vs, vi]) W := by
  have := zbu A _ w { w with heap := W.heap } ha h.up
  exact this
theorem ItA.cells_ {A : Ar} {vs vi : Value} {w : World} {Bs : Nat} {W : World} (h : ItA A vs vi w w.heap.size Bs W) {cs : List Value} {v : Value} (hc : isCells cs v w) : isCells cs v W := by
  have := zac cs v w { w with heap := W.heap } hc h.up
  exact this
theorem ItA.cell {A : Ar} {vs vi : Value} {w : World} {n0 Bs : Nat} {W : World} (h : ItA A vs vi w n0 Bs W) (j : Nat) : W.cell? ⟨Bs, j, none⟩ = #[.int .i64 A.cap, vs, vi][j]? := by simp [World.cell?, h.box]
theorem ItA.at_ {A : Ar} {vs vi : Value} {w : World} {n0 Bs : Nat} {W : World} (h : ItA A vs vi w n0 Bs W) {b k : Nat} (hb : b < n0) : W.cell? ⟨b, k, none⟩ = w.cell? ⟨b, k, none⟩ := World.cell?_of_block (a := ⟨b, k, none⟩) (h.old b hb)
theorem abide {J : List El → World → Prop} {B : Nat} (h : AbidesFrom B J) {p : List El} {W W' : World} (hJ : J p W) (hb : Below W.heap.size W W') : J p W' := h p W W' none hJ ⟨hb.os, hb.tape, hb.output, hb.size, fun k hk _ => hb.block k hk⟩ (fun r e => by cases e)
theorem zem1 {A : Ar} {p : List El} {k : Nat} {E : En} (hp : p.map (·.1) = List.range k) (hs : p.map (·.2.1) = A.slots.take k) (hE : A.slots[k]? = some E) (ep em : Value) : (p ++ [(k, E, ep, em)]).map (·.1) = List.range (k + 1) ∧ (p ++ [(k, E, ep, em)]).map (·.2.1) = A.slots.take (k + 1) := by
  rw [List.map_append, List.map_append, hp, hs, List.range_succ, List.take_add_one, hE]
  exact ⟨rfl, rfl⟩
section
variable {P : Program} {ops : Array Oper} {rest : List Oper} {o : Oper} {a : Act} {w : World} {Q : Exit → Act → World → Prop} {F : Fence} {n : Nat}
theorem zcf (hFn : ∀ f, F.fn f) (t : TypeId) (hgd : o.guard = none) (x y : Operand) (ho : o.op = .store t x y)
    (g : Nat) (l : List Value) (hs : (P.info? t).map (·.size) = some l.length) (hx : a.eval x = .pointer (some ⟨g, 0, none⟩)) (hy : a.eval y = .agg l.toArray) {old : List Value} (h : CellsN w g old) (hl : old.length = l.length) (hf : Free5 w g) (h1 : Ones l)
    (hr : wpListIn F n P ops Q rest (a.put o.dst undef) (setN w g 0 l)) : wpListIn F n P ops Q (o :: rest) a w :=
  wpListIn_plain hgd fun K hK => by
    unfold Oper.wpIn
    refine ⟨fun f _ => hFn f, ?_⟩
    rw [Oper.semAt_eq _ _ _ (by intro c e; rw [ho] at e; cases e)]
    unfold execOp
    rw [ho]
    simp only [hx, hy, Sem.run_bind, storeN t g w old l hs h hl hf h1, Result.andThen_ok, Sem.run_pure, Oper.uponIn]
    exact hK _ _ hr
end
def PlPost (A : Ar) (w : World) (J Jx : List El → World → Prop) (W' : World) : Prop := (∃ ys, (∀ x ∈ ys, OkEl A w x) ∧ ys.map (·.1) = (if okA A = true then List.range A.slots.length else []) ∧ ys.map (·.2.1) = (if okA A = true then A.slots else []) ∧ J ys W') ∨ (∃ pre, (∀ x ∈ pre, OkEl A w x) ∧ okA A = true ∧ Jx pre W')
theorem zye (m : Nat) (hm : 1 ≤ m) (l Bs : Nat) (A : Ar) (vs vi : Value) (w : World) (hs : isEns A.slots vs w) (hi : isCells (A.index.map intC) vi w) (hF : FitA A) (J Jx : List El → World → Prop) (B0 : Nat) (hJa : AbidesFrom B0 J)
    (hY : ∀ pre x W, J pre W → OkEl A w x → pre.length < A.slots.length → YieldAt Fence.wide (m - 1) Tryz.prog l (encE x) W fun e W' =>
      (e = .returned (.bool true) ∧ J (pre ++ [x]) W' ∧ KpA w.heap.size Bs W W') ∨ (e = .returned (.bool false) ∧ Jx (pre ++ [x]) W'))
    (W : World) (hI : ItA A vs vi w w.heap.size Bs W) (h0 : J [] W) :
    CallsIn Fence.wide m Tryz.prog 104 #[.func (.yield l) #[] #[], .pointer (some ⟨Bs, 0, none⟩)] W fun e W' => (∃ v, e = .returned v) ∧
      PlPost A w J Jx W' := by
  have k0 := hI.cell 0
  have k1 := hI.cell 1
  have k2 := hI.cell 2
  simp only [List.getElem?_toArray, List.getElem?_cons_zero, List.getElem?_cons_succ] at k0 k1 k2
  have XA := Kept.mk (hI.ar ⟨vs, vi, rfl, hs, hi⟩)
  have HI := Kept.mk hI
  have HJ := Kept.mk h0
  have HS := Kept.mk hs
  obtain ⟨sa, cs, e0⟩ := hs.len
  subst e0
  clear hI h0 hs hi
  have f1 := hF.slots
  cases hok : okA A with
  | false =>
    have CK := Kept.mk (zmk hok)
    refine callsIn_of_wp Tryz.func104 rfl trivial ?_ rfl
    simp only [Tryz.ntmps104, List.size_toArray, List.length_cons, List.length_nil, Nat.reduceAdd, Nat.reduceSub, Array.replicate_succ, Array.replicate_zero, List.push_toArray, List.append_toArray, List.nil_append, List.cons_append]
    gi_wp2_with (refine ⟨trivial, (callsIn_wide.2 (zil A _ _ XA.out hF)).mono ?_⟩; rintro e W1 ⟨rfl, hb⟩; rw [CK.out])
    refine bodyPost_ret (results_none rfl _ _ _) rfl ?_
    exact ⟨⟨_, rfl⟩, .inl ⟨[], (fun x hx => by cases hx), by rw [hok]; rfl, by rw [hok]; rfl, abide hJa HJ.out hb⟩⟩
  | true =>
    have CK := Kept.mk (zzo hok)
    generalize hN : A.slots.length = N at *
    have HN := Kept.mk hN
    clear hN
    refine callsIn_of_wp Tryz.func104 rfl trivial ?_ rfl
    simp only [Tryz.ntmps104, List.size_toArray, List.length_cons, List.length_nil, Nat.reduceAdd, Nat.reduceSub, Array.replicate_succ, Array.replicate_zero, List.push_toArray, List.append_toArray, List.nil_append, List.cons_append]
    gi_wp2_with (refine ⟨trivial, (callsIn_wide.2 (zil A _ _ XA.out hF)).mono ?_⟩; rintro e W1 ⟨rfl, hb⟩; rw [CK.out]; have HI1 := Kept.mk (HI.out.kp (zju hb HI.out.size HI.out.lt)); have HJ1 := Kept.mk (abide hJa HJ.out hb); have k3 := HI1.out.cell 1; simp only [List.getElem?_toArray, List.getElem?_cons_zero, List.getElem?_cons_succ] at k3)
    gi_loopw [11] (fun i wr => ∃ k : Nat, k ≤ N ∧ i = .int .i64 (k : Int) ∧ Kept (ItA A (.slice sa N cs) vi w w.heap.size Bs wr) ∧ Kept (∃ p : List El, (∀ x ∈ p, OkEl A w x) ∧ p.map (·.1) = List.range k ∧ p.map (·.2.1) = A.slots.take k ∧ J p wr)) (fun i _ => N - (intOf i).toNat)
    case atStart => exact ⟨0, Nat.zero_le _, rfl, HI1, ⟨[], (fun x hx => by cases hx), rfl, rfl, HJ1.out⟩⟩
    case round =>
      clear HI1 HJ1 k3 HI HJ XA k0 k1 k2
      obtain ⟨k, hk, rfl, HI, HP⟩ := hrel
      by_cases hlt : k < N
      · have hlt' : (k : Int) < (N : Int) := by omega
        obtain ⟨E, hE⟩ : ∃ E, A.slots[k]? = some E := ⟨_, List.getElem?_eq_getElem (by rw [HN.out]; exact hlt)⟩
        obtain ⟨bs, os, cs', hvs, hbs, ep, em, hcell, hp, hm⟩ := HS.out.get hE
        injection hvs with h1 hx1 h2
        clear hx1
        subst h1 h2
        obtain ⟨p, hpo, hp1, hp2, hpJ⟩ := HP.out
        obtain ⟨K1, K2, K3, K4, K5⟩ := enew wr E ep em (HI.out.cells_ hp) (HI.out.cells_ hm) wr.heap.size rfl
        obtain ⟨q1, q2⟩ := zem1 hp1 hp2 hE ep em
        have hlen : p.length = k := by have := congrArg List.length hp1; simpa using this
        have hJ2 := abide hJa hpJ K3.out
        obtain ⟨fn, tmps, assign, body, hy, hR⟩ := hY p (k, E, ep, em) _ hJ2 ⟨hE, hp, hm⟩ (by omega)
        simp only [encE] at hy
        have HI2 := Kept.mk (HI.out.kp (zju K3.out HI.out.size HI.out.lt))
        have HQ := Kept.mk (And.intro (show ∀ x ∈ p ++ [(k, E, ep, em)], OkEl A w x from fun x hx => (List.mem_append.1 hx).elim (hpo x) (fun hx => by rw [List.mem_singleton] at hx; subst hx; exact ⟨hE, hp, hm⟩)) (And.intro q1 q2))
        have kc0 : wr.cell? ⟨bs, os + k * 9, none⟩ = _ := (HI.out.at_ (k := os + k * 9 + 0) hbs).trans (hcell 0 _ rfl)
        have kc1 : wr.cell? ⟨bs, os + k * 9 + 1, none⟩ = _ := (HI.out.at_ (k := os + k * 9 + 1) hbs).trans (hcell 1 _ rfl)
        have kc2 : wr.cell? ⟨bs, os + k * 9 + 2, none⟩ = _ := (HI.out.at_ (k := os + k * 9 + 2) hbs).trans (hcell 2 _ rfl)
        have kc3 : wr.cell? ⟨bs, os + k * 9 + 3, none⟩ = _ := (HI.out.at_ (k := os + k * 9 + 3) hbs).trans (hcell 3 _ rfl)
        have kc4 : wr.cell? ⟨bs, os + k * 9 + 4, none⟩ = _ := (HI.out.at_ (k := os + k * 9 + 4) hbs).trans (hcell 4 _ rfl)
        have kc5 : wr.cell? ⟨bs, os + k * 9 + 5, none⟩ = _ := (HI.out.at_ (k := os + k * 9 + 5) hbs).trans (hcell 5 _ rfl)
        have kc6 : wr.cell? ⟨bs, os + k * 9 + 6, none⟩ = _ := (HI.out.at_ (k := os + k * 9 + 6) hbs).trans (hcell 6 _ rfl)
        have kc7 : wr.cell? ⟨bs, os + k * 9 + 7, none⟩ = _ := (HI.out.at_ (k := os + k * 9 + 7) hbs).trans (hcell 7 _ rfl)
        have kc8 : wr.cell? ⟨bs, os + k * 9 + 8, none⟩ = _ := (HI.out.at_ (k := os + k * 9 + 8) hbs).trans (hcell 8 _ rfl)
        clear hcell hp hm hp1 hp2 hpJ hpo q1 q2 hE hJ2
        gi_wp2_with (have hz0 := K1; refine zcf (fun _ => trivial) 48 rfl (.tmp 4) (.tmp 15) rfl wr.heap.size [.string ⟨E.key.toArray⟩, .int .i64 E.val.kind, .int .i64 E.val.time, .int .i64 E.val.node, .bool E.val.dead, .string ⟨E.val.text.toArray⟩, ep, em, .int .u64 (E.val.flags.toNat : Int)] zay rfl rfl K1.out rfl K2.out K5.out ?_; clear hz0 K1 K2 K5 kc0 kc1 kc2 kc3 kc4 kc5 kc6 kc7 kc8; have kx0 := K4.out.1.2 0 _ rfl; have kx1 := K4.out.1.2 1 _ rfl; have kx2 := K4.out.1.2 2 _ rfl; have kx3 := K4.out.1.2 3 _ rfl; have kx4 := K4.out.1.2 4 _ rfl; have kx5 := K4.out.1.2 5 _ rfl; have kx6 := K4.out.1.2 6 _ rfl; have kx7 := K4.out.1.2 7 _ rfl; have kx8 := K4.out.1.2 8 _ rfl; generalize setN (wr.alloc (.cells #[.string ⟨#[]⟩, .int .i64 0, .int .i64 0, .int .i64 0, .bool false, .string ⟨#[]⟩, .slice none 0 0, .slice none 0 0, .int .u64 0] 48)) wr.heap.size 0 [.string ⟨E.key.toArray⟩, .int .i64 E.val.kind, .int .i64 E.val.time, .int .i64 E.val.node, .bool E.val.dead, .string ⟨E.val.text.toArray⟩, ep, em, .int .u64 (E.val.flags.toNat : Int)] = W2 at *)
        refine hR.mono ?_
        rintro e W3 (⟨rfl, hJ3, hk3⟩ | ⟨rfl, hJx3⟩)
        · have HI3 := Kept.mk (HI2.out.kp hk3)
          have HP3 : Kept (∃ p : List El, (∀ x ∈ p, OkEl A w x) ∧ p.map (·.1) = List.range (k + 1) ∧ p.map (·.2.1) = A.slots.take (k + 1) ∧ J p W3) := ⟨_, HQ.out.1, HQ.out.2.1, HQ.out.2.2, hJ3⟩
          clear hJ3 hk3
          gi_wp2
          go_roundw
          case rel => exact ⟨k + 1, by omega, by go_num, HI3, HP3⟩
          case measure => simp [intOf]; omega
        · have HX := Kept.mk hJx3
          clear hJx3
          gi_wp2
          refine bodyPost_ret (results_none rfl _ _ _) rfl ?_
          exact ⟨⟨_, rfl⟩, .inr ⟨_, HQ.out.1, hok, HX.out⟩⟩
      · have hlt' : ¬ (k : Int) < (N : Int) := by omega
        obtain rfl : k = N := by omega
        obtain ⟨p, hpo, hp1, hp2, hpJ⟩ := HP.out
        have HP2 := Kept.mk (show PlPost A w J Jx wr from .inl ⟨p, hpo, by rw [hok, if_pos rfl, HN.out]; exact hp1, by rw [hok, if_pos rfl, hp2]; exact List.take_of_length_le (by rw [HN.out]; exact Nat.le_refl _), hpJ⟩)
        clear hpo hp1 hp2 hpJ
        gi_wp2
        go_end0
        exact ⟨⟨_, rfl⟩, HP2.out⟩
end Go.Proofs.YtkjghoomdefbbaaGreatDoor
end
section
namespace Go.Proofs.YtkjghoomdefbbaaGreatDoor
open Go.RowKit Go.Shelf
attribute [local irreducible] setN
attribute [local go_sem] Oper.semAt_some
def NmPost (A : Ar) (w : World) (J Jx : List El → World → Prop) (W' : World) : Prop := (∃ ys, (∀ x ∈ ys, OkEl A w x) ∧ ys.map (·.2.1) = (if okA A = true then ordA A else []) ∧ J ys W') ∨ (∃ pre, (∀ x ∈ pre, OkEl A w x) ∧ okA A = true ∧ Jx pre W')
theorem zrp (m : Nat) (A : Ar) (vs vi : Value) (w : World) : CallsIn Fence.wide m Tryz.prog 78 #[.agg #[.int .i64 A.cap, vs, vi]] w fun e w' => e = .returned (.func (.func 104) #[] #[.pointer (some ⟨w.heap.size, 0, none⟩)]) ∧ w' = w.alloc (.cells #[.int .i64 A.cap, vs, vi] 25) := by
  refine callsIn_of_wp Tryz.func78 rfl trivial ?_ rfl
  simp only [Tryz.ntmps78, List.size_toArray, List.length_cons, List.length_nil, Nat.reduceAdd, Nat.reduceSub, Array.replicate_succ, Array.replicate_zero, List.push_toArray, List.append_toArray, List.nil_append, List.cons_append]
  gi_wp2
  go_ret
  exact ⟨by simp, rfl⟩
theorem zoo (m : Nat) (hm : 1 ≤ m) (Bs : Nat) (A : Ar) (vs vi : Value) (w w0 : World) (hs : isEns A.slots vs w) (hi : isCells (A.index.map intC) vi w) (hF : FitA A) (hI : ItA A vs vi w w.heap.size Bs w0) :
    SeqStopsK Fence.wide m Tryz.prog 104 #[.pointer (some ⟨Bs, 0, none⟩)] (fun x : { x : El // OkEl A w x } => encE x.1) (KpA w.heap.size Bs) (fun ys => ys.map (·.1.1) = (if okA A = true then List.range A.slots.length else []) ∧ ys.map (·.1.2.1) = (if okA A = true then A.slots else [])) (fun _ => okA A = true) A.slots.length w0 := fun l J Jx W hW hJa _ hY h0 =>
  (zye m hm l Bs A vs vi w hs hi hF (fun ns W => ∃ p : List { x : El // OkEl A w x }, p.map (·.1) = ns ∧ J p W) (fun ns W => ∃ p : List { x : El // OkEl A w x }, p.map (·.1) = ns ∧ Jx p W) W.heap.size
    (fun s W W' row ⟨p, hp, hJ⟩ hg hr => ⟨p, hp, hJa p W W' row hJ hg hr⟩)
    (fun pre x W ⟨p, hp, hJ⟩ hx h2 => (hY p ⟨x, hx⟩ W hJ (by rw [← hp, List.length_map] at h2; exact h2)).mono fun e W' h => by
      rcases h with ⟨rfl, h, hk⟩ | ⟨rfl, h⟩
      · exact .inl ⟨rfl, ⟨_, by simp [hp], h⟩, hk⟩
      · exact .inr ⟨rfl, ⟨_, by simp [hp], h⟩⟩) W (hI.kp ⟨hW.size, fun b hb => hW.block b (by have := hI.size; have := hI.lt; omega)⟩) ⟨[], rfl, h0⟩).mono fun e W' ⟨he, h⟩ => by
    refine ⟨he, ?_⟩
    rcases h with ⟨ys, _, h1, h2, p, hp, hJ⟩ | ⟨pre, _, hok, p, hp, hJ⟩
    · exact .inl ⟨p, ⟨by rw [← h1, ← hp, List.map_map]; rfl, by rw [← h2, ← hp, List.map_map]; rfl⟩, hJ⟩
    · exact .inr ⟨p, hok, hJ⟩
end Go.Proofs.YtkjghoomdefbbaaGreatDoor
end
section
namespace Go.Proofs.YtkjghoomdefbbaaGreatDoor
open Go.RowKit Go.Shelf
attribute [local irreducible] setN
attribute [local go_sem] Oper.semAt_some
structure OutS (N0 b1 : Nat) (v : Value) (ps : List (En × Value × Value)) (W : World) : Prop where
  st : Blk W b1 [v]
  own : W.ownsRow N0 48 9 v ps.length (flatE ps)
  rows : RowsOk ps W
  off : ∀ q ∈ ps, ∀ b, v.ownBlock = some b → OffQ b q
  nw : ∀ q ∈ ps, NewB N0 q.2.1 ∧ NewB N0 q.2.2
theorem OutS.bt {N0 b1 : Nat} {v : Value} {ps : List (En × Value × Value)} {S : Nat → Prop} {W W' : World} (h : OutS N0 b1 v ps W) (bt : Bt S W W') (h1 : ¬ S b1) (h2 : ∀ b, N0 ≤ b → (∃ k x, W.cell? ⟨b, k, none⟩ = some x) → ¬ S b) (h3 : ∀ b, v.ownBlock = some b → ¬ S b) : OutS N0 b1 v ps W' := by
  refine ⟨bt.blk h.st h1, bt.own h.own h3, fun q hq => ?_, h.off, h.nw⟩
  have key : ∀ {cs : List Value} {u : Value}, isCells cs u W → NewB N0 u → cs = [] ∨ ∀ b, blk u = some b → ¬ S b := by
    intro cs u hc hn
    by_cases e : cs = []
    · exact .inl e
    · refine .inr (fun b hb => ?_)
      rcases hc with ⟨_, e'⟩ | ⟨_, _, _, e'⟩ | ⟨b', off, cap, eu, hlt, hcc⟩
      · exact absurd e' e
      · exact absurd e' e
      · rw [eu] at hb
        injection hb with hb
        have hbb : b' = b := hb
        subst hbb
        obtain ⟨x, r, rfl⟩ := List.exists_cons_of_ne_nil e
        exact h2 b' (hn b' (by rw [eu]; rfl)) ⟨off + 0, x, hcc 0 x rfl⟩
  exact ⟨bt.cells (h.rows q hq).1 (key (h.rows q hq).1 (h.nw q hq).1), bt.cells (h.rows q hq).2 (key (h.rows q hq).2 (h.nw q hq).2)⟩
theorem OutS.keep {N0 b1 : Nat} {v : Value} {ps : List (En × Value × Value)} {W W' : World} (h : OutS N0 b1 v ps W) (hb : Below W.heap.size W W') : OutS N0 b1 v ps W' :=
  ⟨h.st.keep hb, zcd h.own hb, fun q hq => ⟨zac _ _ _ _ (h.rows q hq).1 hb, zac _ _ _ _ (h.rows q hq).2 hb⟩, h.off, h.nw⟩
theorem OutS.push {N0 b1 : Nat} {vs : Value} {ps : List (En × Value × Value)} {w w' : World} (h : OutS N0 b1 vs ps w) (hb1 : b1 < N0) (hN : N0 ≤ w.heap.size) (E : En) (v vp vm : Value)
    (h1 : w'.ownsRow N0 48 9 v (ps.length + 1) (flatE ps ++ enL E vp vm)) (h2 : isCells (E.val.plus.map intC) vp w') (h3 : isCells (E.val.minus.map intC) vm w') (h4 : NewB w.heap.size vp) (h5 : NewB w.heap.size vm) (h6 : v.ownBlock = vs.ownBlock ∨ NewB w.heap.size v) (h7 : ∀ b, v.ownBlock = some b → (E.val.plus.map intC = [] ∨ blk vp ≠ some b) ∧ (E.val.minus.map intC = [] ∨ blk vm ≠ some b)) (h8 : Blk w' b1 [v]) (h9 : Bt (fun b => b = b1 ∨ vs.ownBlock = some b) w w') : OutS N0 b1 v (ps ++ [(E, vp, vm)]) w' := by
  refine ⟨h8, by rw [List.length_append, zms]; exact h1, fun q hq => ?_, fun q hq b hb => ?_, fun q hq => (List.mem_append.1 hq).elim (h.nw q) (fun hq => by rw [List.mem_singleton] at hq; subst hq; exact ⟨h4.low hN, h5.low hN⟩)⟩
  · rcases List.mem_append.1 hq with hq | hq
    · have o := h.off q hq
      have nw := h.nw q hq
      refine ⟨h9.cells (h.rows q hq).1 ?_, h9.cells (h.rows q hq).2 ?_⟩
      · by_cases e : q.1.val.plus.map intC = []
        · exact .inl e
        · exact .inr (fun b hb hS => by rcases hS with rfl | hS; (· have := nw.1 _ hb; omega); (· exact ((o b hS).1.resolve_left e) hb))
      · by_cases e : q.1.val.minus.map intC = []
        · exact .inl e
        · exact .inr (fun b hb hS => by rcases hS with rfl | hS; (· have := nw.2 _ hb; omega); (· exact ((o b hS).2.resolve_left e) hb))
    · rw [List.mem_singleton] at hq
      subst hq
      exact ⟨h2, h3⟩
  · rcases List.mem_append.1 hq with hq | hq
    · rcases h6 with e | e
      · exact h.off q hq b (by rw [← e]; exact hb)
      · have hbn := e b (zdp hb)
        refine ⟨(zbq (h.rows q hq).1).imp id (fun h3 e3 => ?_), (zbq (h.rows q hq).2).imp id (fun h3 e3 => ?_)⟩
        · have := h3 b e3; omega
        · have := h3 b e3; omega
    · rw [List.mem_singleton] at hq
      subst hq
      exact h7 b hb
theorem OutS.ens {N0 b1 : Nat} {v : Value} {ps : List (En × Value × Value)} {W : World} (h : OutS N0 b1 v ps W) : isEns (ps.map (·.1)) v W := zjx h.own h.rows
theorem zgf {W : World} {b k : Nat} {x : Value} (h : W.cell? ⟨b, k, none⟩ = some x) {o : Obj} (ho : W.heap[b]? = some o) : o.isCells = true := by
  cases o <;> first | rfl | (simp [World.cell?, ho] at h)
theorem zla {B N0 b1 : Nat} (hb : b1 < B) : ∀ {v ps W W' row}, OutS N0 b1 v ps W → W.grownBy W' row → (∀ r, row = some r → B ≤ r ∧ ∃ o : Obj, W.heap[r]? = some o ∧ o.isCells = false) → OutS N0 b1 v ps W' := by
  intro v ps W W' row h hg hr
  have bt : Bt (fun b => row = some b) W W' := zlm hg (fun b e => e)
  refine h.bt bt (fun e => by have := (hr _ e).1; omega) (fun b _ ⟨k, x, hx⟩ e => ?_) (fun b hb e => ?_)
  · obtain ⟨_, o, ho, hc⟩ := hr b e
    rw [zgf hx ho] at hc; cases hc
  · obtain ⟨_, o, ho, hc⟩ := hr b e
    obtain ⟨_, ⟨rfl, _⟩ | ⟨g, cap, cur, rfl, _, hg', _⟩⟩ := h.own
    · cases hb
    · have : g = b := by injection hb
      subst this
      rw [hg'] at ho
      injection ho with ho
      subst ho
      cases hc
theorem zei {B h : Nat} {cs : List Value} (hne : cs ≠ []) {W W' : World} {row : Option Nat} (hb : Blk W h cs) (hg : W.grownBy W' row) (hr : ∀ r, row = some r → B ≤ r ∧ ∃ o : Obj, W.heap[r]? = some o ∧ o.isCells = false) : Blk W' h cs := by
  have bt : Bt (fun b => row = some b) W W' := zlm hg (fun b e => e)
  refine bt.blk hb (fun e => ?_)
  obtain ⟨_, o, ho, hc⟩ := hr h e
  obtain ⟨x, r, rfl⟩ := List.exists_cons_of_ne_nil hne
  rw [zgf (hb.cells.2 0 x rfl) ho] at hc; cases hc
theorem zfg1 (n0 Bs m : Nat) (h0 : n0 ≤ m) (hb : Bs < m) (W : World) (l : Nat) (o o' : Obj) (h : m ≤ l) (h1 : W.heap[l]? = some o) (h2 : o.isCells = false) (h3 : o.isWalk = false) : KpA n0 Bs W (W.putObj l o') := by
  have hg := grownBy_putObj' W l o'
  exact ⟨hg.size, fun b hb' => hg.block b (by have := (Array.getElem?_eq_some_iff.1 h1).1; omega) (by intro e; injection e with e; omega)⟩
noncomputable def ckappOps : Array Oper := zfx Tryz.f71 8
theorem zpe {lp nn : Nat} (Q : Exit → Act → World → Prop) (a0 : Act) (w0 : World) (hQo : ¬ LetsOut Q) (hsz : a0.tmps.size = 31) (g h B n : Nat) (l : List Value) (E : En) (vs ep em : Value) (xs : List Value) (e1 : a0.tmps.getD 7 undef = .pointer (some ⟨g, 0, none⟩)) (e2 : a0.tmps.getD 9 undef = .pointer (some ⟨h, 0, none⟩))
    (HG : Blk w0 g l) (hl : l[0]? = some vs) (hE : Blk w0 h [.string ⟨E.key.toArray⟩, .int .i64 E.val.kind, .int .i64 E.val.time, .int .i64 E.val.node, .bool E.val.dead, .string ⟨E.val.text.toArray⟩, ep, em, .int .u64 (E.val.flags.toNat : Int)]) (hp : isCells (E.val.plus.map intC) ep w0) (hm : isCells (E.val.minus.map intC) em w0) (hF : FitE E) (hown : w0.ownsRow B 48 9 vs n xs) (hn : n ≤ 1000) (hB : B ≤ w0.heap.size)
    (hap : ∀ s, vs.ownBlock = some s → s ≠ g ∧ s ≠ h ∧ (E.val.plus.map intC = [] ∨ blk ep ≠ some s) ∧ (E.val.minus.map intC = [] ∨ blk em ≠ some s))
    (hQ : ∀ (y : Nat → Value) (v vp vm : Value) (w : World), w.ownsRow B 48 9 v (n + 1) (xs ++ enL E vp vm) → isCells (E.val.plus.map intC) vp w → isCells (E.val.minus.map intC) vm w → NewB w0.heap.size vp → NewB w0.heap.size vm → (v.ownBlock = vs.ownBlock ∨ NewB w0.heap.size v) → (∀ b, v.ownBlock = some b → (E.val.plus.map intC = [] ∨ blk vp ≠ some b) ∧ (E.val.minus.map intC = [] ∨ blk vm ≠ some b)) → Blk w g (l.set 0 v) → Bt (fun b => b = g ∨ vs.ownBlock = some b) w0 w →
      Q .normal { tmps := [25, 26, 27, 28, 29].foldl (fun t s => t.setIfInBounds s (y s)) a0.tmps, defers := a0.defers } w) :
    (Code.region 8 ckappOps true).wpIn (Fence.wide.inRound lp) nn Tryz.prog Q a0 w0 := by
  obtain ⟨r, hr0⟩ : ∃ r, vs.ownBlock = r := ⟨_, rfl⟩
  have hcell : w0.cell? ⟨g, 0, none⟩ = some vs := HG.cells.2 _ _ hl
  have hg := HG.lt
  have hgr : r ≠ some g := by intro e; exact (hap g (hr0.trans e)).1 rfl
  have hhr : r ≠ some h := by intro e; exact (hap h (hr0.trans e)).2.1 rfl
  have opr : E.val.plus.map intC = [] ∨ ∀ s, r = some s → blk ep ≠ some s := by
    cases r with
    | none => exact .inr (fun s e => by cases e)
    | some s => exact (hap s hr0).2.2.1.imp id (fun h s' e => by cases e; exact h)
  have omr : E.val.minus.map intC = [] ∨ ∀ s, r = some s → blk em ≠ some s := by
    cases r with
    | none => exact .inr (fun s e => by cases e)
    | some s => exact (hap s hr0).2.2.2.imp id (fun h s' e => by cases e; exact h)
  have hre : vs.ownBlock = r := hr0
  have hrN : ∀ s, r = some s → s < w0.heap.size := fun s e => (hown.lt s (hr0.trans e)).2
  have hR := zgm r
  refine zjw (by kernel_rfl) hQo hR 4 [] (fun w => w.ownsRow B 48 9 vs n xs) (by kernel_rfl) (fun _ _ h hb => zcd h hb) (fun _ h => zcd h ((Below.refl _ _).drew)) 5 mixed (by rw [hsz]; kernel_rfl) (by kernel_rfl) hown ?_
  rw [show ckappOps.size - 5 = 1 by kernel_rfl]
  refine ⟨isVal vs, OStep.of hR (by decide) (stabR_val' _ _) (by kernel_rfl) (by intro w hr; exact zaj 22 (.tmp 7) ⟨g, 0, none⟩ vs (by kernel_rfl) (zaa (by kernel_rfl)) (zaf 7 (.pointer (some ⟨g, 0, none⟩)) (by kernel_rfl) e1) ((hr.cell_ hcell hg hgr)) ((Nat.lt_of_lt_of_le hg hr.size)) (zcn)), ?_⟩
  refine ⟨isVal (.agg #[.string ⟨E.key.toArray⟩, .int .i64 E.val.kind, .int .i64 E.val.time, .int .i64 E.val.node, .bool E.val.dead, .string ⟨E.val.text.toArray⟩, ep, em, .int .u64 (E.val.flags.toNat : Int)]), OStep.of hR (by decide) (stabR_val' _ _) (by kernel_rfl) (by intro w hr; exact zbh 48 (.tmp 9) (h) (0) [.string ⟨E.key.toArray⟩, .int .i64 E.val.kind, .int .i64 E.val.time, .int .i64 E.val.node, .bool E.val.dead, .string ⟨E.val.text.toArray⟩, ep, em, .int .u64 (E.val.flags.toNat : Int)] (by kernel_rfl) (zaa (by kernel_rfl)) (zaf 9 (.pointer (some ⟨h, 0, none⟩)) (by kernel_rfl) e2) zay zck (⟨Nat.lt_of_lt_of_le hE.lt hr.size, fun j x hx => by rw [Nat.zero_add]; exact hr.cell_ (hE.cells.2 j x hx) hE.lt hhr⟩)), ?_⟩
  refine ⟨(isEnN w0.heap.size E), OStep.of hR (by decide) (zeq1 hrN _) (by kernel_rfl) (by intro w hr; exact zap 75 #[.tmp 26] #[48] #[.agg #[.string ⟨E.key.toArray⟩, .int .i64 E.val.kind, .int .i64 E.val.time, .int .i64 E.val.node, .bool E.val.dead, .string ⟨E.val.text.toArray⟩, ep, em, .int .u64 (E.val.flags.toNat : Int)]] (by kernel_rfl) (zaa (by kernel_rfl)) (zic _ _) (args1 (.tmp 26) (.agg #[.string ⟨E.key.toArray⟩, .int .i64 E.val.kind, .int .i64 E.val.time, .int .i64 E.val.node, .bool E.val.dead, .string ⟨E.val.text.toArray⟩, ep, em, .int .u64 (E.val.flags.toNat : Int)]) (zab (V := isVal (.agg #[.string ⟨E.key.toArray⟩, .int .i64 E.val.kind, .int .i64 E.val.time, .int .i64 E.val.node, .bool E.val.dead, .string ⟨E.val.text.toArray⟩, ep, em, .int .u64 (E.val.flags.toNat : Int)])) 26 1 (by kernel_rfl) (by kernel_rfl) (by kernel_rfl))) (enters_of Tryz.func75 (by kernel_rfl) rfl) (by intro w' hb; exact zql w0.heap.size E _ w' (zfo (hr.cells hp opr) (hr.cells hm omr) hb) hF (Nat.le_trans hr.size hb.size))), ?_⟩
  refine ⟨(isEn1 w0.heap.size E), OStep.of hR (by decide) (zfk1 hrN _) (by kernel_rfl) (by intro w hr; exact zkm w0.heap.size (.tmp 27) E (by kernel_rfl) (zaa (by kernel_rfl)) (zab (V := (isEnN w0.heap.size E)) 27 2 (by kernel_rfl) (by kernel_rfl) (by kernel_rfl)) (hr.size)), ?_⟩
  refine ⟨isApp B w0.heap.size r E n xs, zkc B w0.heap.size r E vs n xs (.tmp 25) (.tmp 28) (by kernel_rfl) (zab (V := isVal vs) 25 0 (by kernel_rfl) (by kernel_rfl) (by kernel_rfl)) (zab (V := (isEn1 w0.heap.size E)) 28 3 (by kernel_rfl) (by kernel_rfl) (by kernel_rfl)) hn hB hre hrN (Nat.le_refl _) (by kernel_rfl), ?_⟩
  intro a w hk0 hb hd
  have da := zal (zdi (hd 4 (by decide))) (t := 29) (V := isApp B w0.heap.size r E n xs) (by kernel_rfl) (by kernel_rfl)
  have dp : a.tmps.getD 7 undef = .pointer (some ⟨g, 0, none⟩) := (hk0.2.2 7 (by kernel_rfl)).trans e1
  generalize hv : a.tmps.getD 29 undef = v at da
  obtain ⟨vp, vm, h1, h2, h3, h4, h5, h6, h7⟩ := da
  have hgw : g < w.heap.size := Nat.lt_of_lt_of_le hg hb.size
  have hvg : v.ownBlock ≠ some g := by
    rcases h6 with h6 | h6
    · rw [h6]; exact hgr
    · intro e; have := h6 g (zdp e); omega
  have ng : ∀ {cs : List Value} {u : Value}, NewB w0.heap.size u → cs = [] ∨ blk u ≠ some g := fun h => .inr (h.ne hg)
  have HG' : Blk w g l := ⟨⟨hgw, fun j x hx => hb.cell_ (HG.cells.2 j x hx) hg hgr⟩, fun j => (hb.frozen_ hg hgr).trans (HG.free j)⟩
  refine zev 22 (.tmp 7) (.tmp 29) ⟨g, 0, none⟩ v vs (by kernel_rfl) (by kernel_rfl) dp hv (by kernel_rfl) (zet h1).1 (zet h1).2 (HG'.cells.2 _ _ hl) (HG'.free 0) ?_
  obtain ⟨y, ey⟩ := zbx hk0.f [some 25, some 26, some 27, some 28, some 29, none] [25, 26, 27, 28, 29] (by kernel_rfl) (by decide)
  rw [ey]
  have hll : 0 < l.length := (List.getElem?_eq_some_iff.1 hl).1
  exact hQ y v vp vm _ (zmz h1 hvg) (zfb h2 (ng h4)) (zfb h3 (ng h5)) h4 h5 (h6.imp (fun e => e.trans hr0.symm) id) h7 (HG'.set 0 v hll) ((zlm hb (fun b e => .inr (hr0.trans e))).trans (zhr g 0 v w (.inl rfl)))
end Go.Proofs.YtkjghoomdefbbaaGreatDoor
end
section
namespace Go.Proofs.YtkjghoomdefbbaaGreatDoor
open Go.RowKit Go.Shelf
attribute [local irreducible] setN
attribute [local go_sem] Oper.semAt_some
def IAll (A : Ar) (w : World) (pre : List { x : El // OkEl A w x }) (W : World) : Prop := ∃ v ps, OutS (w.heap.size + 3) (w.heap.size + 1) v ps W ∧ ps.map (·.1) = pre.map (·.1.2.1) ∧ Below w.heap.size w W ∧ w.heap.size + 3 ≤ W.heap.size
theorem zfc {B : Nat} {W W' : World} (hb : Below W.heap.size W W') : KeepsFrom B W W' := ⟨hb.size, fun k o _ hk _ => (hb.block k (Array.getElem?_eq_some_iff.1 hk).1).trans hk⟩
theorem zzf {b B : Nat} {W W' : World} {row : Option Nat} (hg : W.grownBy W' row) (hr : ∀ r, row = some r → B ≤ r ∧ ∃ o : Obj, W.heap[r]? = some o ∧ o.isCells = false) {h : Nat} {cs : List Value} (hb : Blk W h cs) (hlt : b < B ∧ b < W.heap.size) : W'.heap[b]? = W.heap[b]? := hg.block b hlt.2 (fun e => by have := (hr b e.symm).1; omega)
end Go.Proofs.YtkjghoomdefbbaaGreatDoor
end
section
namespace Go.Proofs.YtkjghoomdefbbaaGreatDoor
open Go.RowKit Go.Shelf
attribute [local irreducible] setN
attribute [local go_sem] Oper.semAt_some
def ckStep (at_ n : Int) (o : List En) (x : El) : List En := if at_ ≤ (x.1 : Int) ∧ (o.length : Int) < n then o ++ [x.2.1] else o
def ckL (at_ n : Int) (l : List El) : List En := l.foldl (ckStep at_ n) []
theorem zno (at_ n : Int) (l : List El) (x : El) : ckL at_ n (l ++ [x]) = ckStep at_ n (ckL at_ n l) x := by unfold ckL; rw [List.foldl_append]; rfl
theorem zfs1 (at_ n : Int) (l : List El) : (ckL at_ n l).length ≤ l.length := by
  suffices h : ∀ (l : List El) (o : List En), (l.foldl (ckStep at_ n) o).length ≤ o.length + l.length by have := h l []; simpa [ckL] using this
  intro l
  induction l with
  | nil => intro o; simp
  | cons x r ih =>
    intro o
    rw [List.foldl_cons]
    refine Nat.le_trans (ih _) ?_
    unfold ckStep
    split
    · rw [List.length_append, List.length_cons, List.length_cons]; simp only [List.length_nil]; omega
    · rw [List.length_cons]; omega
theorem zcz1 (at_ n : Int) (hat : 0 ≤ at_) (L : List En) : ∀ (k : Nat) (l : List El), k ≤ L.length → l.map (·.1) = List.range k → l.map (·.2.1) = L.take k → ckL at_ n l = ((L.take k).drop at_.toNat).take n.toNat := by
  intro k
  induction k with
  | zero =>
    intro l _ h1 h2
    have : l = [] := by have := congrArg List.length h1; simpa using this
    subst this
    simp [ckL]
  | succ k ih =>
    intro l hk h1 h2
    have hl : l.length = k + 1 := by have := congrArg List.length h1; simpa using this
    obtain ⟨r, x, rfl⟩ : ∃ r x, l = r ++ [x] := ⟨l.dropLast, l.getLast (by intro e; rw [e] at hl; simp at hl), (List.dropLast_concat_getLast _).symm⟩
    have hr : r.length = k := by simpa using hl
    rw [List.map_append, List.range_succ] at h1
    rw [List.map_append, List.take_add_one] at h2
    obtain ⟨E, hE⟩ : ∃ E, L[k]? = some E := ⟨_, List.getElem?_eq_getElem (by omega)⟩
    rw [hE] at h2
    have a1 := List.append_inj h1 (by simp [hr])
    have a2 := List.append_inj h2 (by simp; omega)
    have x1 : x.1 = k := by simpa using a1.2
    have x2 : x.2.1 = E := by simpa using a2.2
    rw [zno, ih r (by omega) a1.1 a2.1, ckStep, x1, x2, List.take_add_one, hE]
    have hlk : (L.take k).length = k := by simp; omega
    by_cases h3 : at_ ≤ (k : Int)
    · have e1 : (L.take k ++ [E]).drop at_.toNat = (L.take k).drop at_.toNat ++ [E] := List.drop_append_of_le_length (by omega)
      show (if at_ ≤ (k : Int) ∧ _ then _ else _) = ((L.take k ++ [E]).drop at_.toNat).take n.toNat
      rw [e1]
      by_cases h4 : k - at_.toNat < n.toNat
      · have d1 : ((L.take k).drop at_.toNat).length = k - at_.toNat := by rw [List.length_drop, hlk]
        have t1 : ((L.take k).drop at_.toNat).take n.toNat = (L.take k).drop at_.toNat := List.take_of_length_le (by omega)
        have t2 : ((L.take k).drop at_.toNat ++ [E]).take n.toNat = (L.take k).drop at_.toNat ++ [E] := List.take_of_length_le (by rw [List.length_append, d1]; simp; omega)
        rw [t1, t2, if_pos ⟨h3, by rw [d1]; omega⟩]
      · have d1 : ((L.take k).drop at_.toNat).length = k - at_.toNat := by rw [List.length_drop, hlk]
        rw [if_neg (by rintro ⟨_, h5⟩; rw [List.length_take, d1] at h5; omega), List.take_append_of_le_length (by rw [d1]; omega)]
    · show (if at_ ≤ (k : Int) ∧ _ then _ else _) = ((L.take k ++ [E]).drop at_.toNat).take n.toNat
      have z1 : (L.take k).drop at_.toNat = [] := List.drop_eq_nil_of_le (by omega)
      have z2 : (L.take k ++ [E]).drop at_.toNat = [] := List.drop_eq_nil_of_le (by rw [List.length_append, hlk]; simp; omega)
      rw [if_neg (by rintro ⟨h5, _⟩; exact h3 h5), z1, z2]
def ICk (A : Ar) (at_ n : Int) (w : World) (pre : List { x : El // OkEl A w x }) (W : World) : Prop := ∃ v ps, OutS (w.heap.size + 5) (w.heap.size + 1 + 1 + 1) v ps W ∧ ps.map (·.1) = ckL at_ n (pre.map (·.1)) ∧ Below w.heap.size w W ∧ w.heap.size + 5 ≤ W.heap.size ∧ Blk W (w.heap.size + 1) [.int .i64 at_] ∧ Blk W (w.heap.size + 1 + 1) [.int .i64 n]
theorem zdx1 (A : Ar) (at_ n : Int) (w : World) (B : Nat) (hB : w.heap.size + 5 ≤ B) : OwnFrom B (ICk A at_ n w) := by
  intro s W W' row ⟨v, ps, h1, h2, h3, h4, h5, h6⟩ hg hr
  exact ⟨v, ps, zla (B := B) (by omega) h1 hg hr, h2, h3.grown hg (by omega) (fun k e => by have := (hr k e).1; omega), Nat.le_trans h4 hg.size, zei (by simp) h5 hg hr, zei (by simp) h6 hg hr⟩
theorem zbu1 {A : Ar} {at_ n : Int} {w : World} {pre : List { x : El // OkEl A w x }} {W W' : World} (h : ICk A at_ n w pre W) (hb : Below W.heap.size W W') : ICk A at_ n w pre W' := by
  obtain ⟨v, ps, h1, h2, h3, h4, h5, h6⟩ := h
  exact ⟨v, ps, h1.keep hb, h2, h3.trans (hb.mono (by omega)), Nat.le_trans h4 hb.size, h5.keep hb, h6.keep hb⟩
def AxCk (A : Ar) (at_ n : Int) (vs vi : Value) (w : World) (x : { x : El // OkEl A w x }) (a' : Act) (W : World) : Prop := ∃ h, a' = { tmps := #[.agg #[.int .i64 A.cap, vs, vi], .int .i64 at_, .int .i64 n, .pointer (some ⟨w.heap.size, 0, none⟩), .pointer (some ⟨w.heap.size + 1, 0, none⟩), .pointer (some ⟨w.heap.size + 1 + 1, 0, none⟩), .slice none 0 0, .pointer (some ⟨w.heap.size + 1 + 1 + 1, 0, none⟩), .int .i64 (x.1.1 : Int), .pointer (some ⟨h, 0, none⟩), .int .i64 at_, .bool false, .agg #[.int .i64 A.cap, vs, vi], .func (.func 104) #[] #[.pointer (some ⟨w.heap.size + 1 + 1 + 1 + 1, 0, none⟩)], .int .i64 (x.1.1 : Int), .agg #[.string ⟨x.1.2.1.key.toArray⟩, .int .i64 x.1.2.1.val.kind, .int .i64 x.1.2.1.val.time, .int .i64 x.1.2.1.val.node, .bool x.1.2.1.val.dead, .string ⟨x.1.2.1.val.text.toArray⟩, x.1.2.2.1, x.1.2.2.2, .int .u64 (x.1.2.1.val.flags.toNat : Int)], undef, undef, undef, undef, undef, undef, undef, undef, undef, undef, undef, undef, undef, undef, undef], defers := [] } ∧ Blk W h [.string ⟨x.1.2.1.key.toArray⟩, .int .i64 x.1.2.1.val.kind, .int .i64 x.1.2.1.val.time, .int .i64 x.1.2.1.val.node, .bool x.1.2.1.val.dead, .string ⟨x.1.2.1.val.text.toArray⟩, x.1.2.2.1, x.1.2.2.2, .int .u64 (x.1.2.1.val.flags.toNat : Int)] ∧ w.heap.size + 5 ≤ h ∧ ∀ u, W.cell? ⟨w.heap.size + 1 + 1 + 1, 0, none⟩ = some u → u.ownBlock ≠ some h
end Go.Proofs.YtkjghoomdefbbaaGreatDoor
end
section
namespace Go.Proofs.YtkjghoomdefbbaaGreatDoor
open Go.RowKit
attribute [local irreducible] setN
noncomputable def zgs1 : Array Oper := zfx Tryz.f49 6
noncomputable def zgp1 : Array Oper := zfx Tryz.f49 6
end Go.Proofs.YtkjghoomdefbbaaGreatDoor
end
section
namespace Go.Proofs.YtkjghoomdefbbaaGreatDoor
open Go.RowKit Go.Shelf
attribute [local irreducible] setN
attribute [local go_sem] Oper.semAt_some
structure IBl (A C : Ar) (us ui : Value) (w : World) (N0 : Nat) (W : World) : Prop where
  rb : Blk W (w.heap.size + 1 + 1) [.bool false]
  cb : Blk W (w.heap.size + 1) [.int .i64 C.cap, us, ui]
  lo : Below w.heap.size w W
  sz : N0 ≤ W.heap.size
def IB (A C : Ar) (us ui : Value) (w : World) (N0 : Nat) (pre : List { x : El // OkEl A w x }) (W : World) : Prop := IBl A C us ui w N0 W ∧ ∀ x ∈ pre, inB C x.1.2.1 = true
def IBx (A C : Ar) (w : World) (c : Code) (pre : List { x : El // OkEl A w x }) (W : World) : Prop := c = .ret ∧ Blk W (w.heap.size + 1 + 1) [.bool false] ∧ Below w.heap.size w W ∧ ∃ x ∈ pre, inB C x.1.2.1 = false
theorem IBl.keep {A C : Ar} {us ui : Value} {w : World} {N0 : Nat} {W W' : World} (h : IBl A C us ui w N0 W) (hN : w.heap.size ≤ N0) (hb : Below W.heap.size W W') : IBl A C us ui w N0 W' :=
  ⟨h.rb.keep hb, h.cb.keep hb, h.lo.trans (hb.mono (Nat.le_trans hN h.sz)), Nat.le_trans h.sz hb.size⟩
def AxB (A C : Ar) (vs vi us ui : Value) (w : World) (g3 N0 : Nat) (x : { x : El // OkEl A w x }) (a' : Act) (W : World) : Prop := ∃ h, a' = { tmps := #[.agg #[.int .i64 A.cap, vs, vi], .agg #[.int .i64 C.cap, us, ui], .pointer (some ⟨w.heap.size, 0, none⟩), .pointer (some ⟨w.heap.size + 1, 0, none⟩), .pointer (some ⟨w.heap.size + 1 + 1, 0, none⟩), undef, .pointer (some ⟨h, 0, none⟩), undef, .agg #[.int .i64 A.cap, vs, vi], .int .i64 0, .bool false, .bool false, .agg #[.int .i64 C.cap, us, ui], .int .i64 0, .bool false, .bool false, .agg #[.int .i64 A.cap, vs, vi], .func (.func 104) #[] #[.pointer (some ⟨g3, 0, none⟩)], .int .i64 (x.1.1 : Int), .agg #[.string ⟨x.1.2.1.key.toArray⟩, .int .i64 x.1.2.1.val.kind, .int .i64 x.1.2.1.val.time, .int .i64 x.1.2.1.val.node, .bool x.1.2.1.val.dead, .string ⟨x.1.2.1.val.text.toArray⟩, x.1.2.2.1, x.1.2.2.2, .int .u64 (x.1.2.1.val.flags.toNat : Int)], undef, undef, undef, undef, undef, undef, undef, undef, undef, undef, undef, undef, undef, undef, undef, undef, undef, undef, undef], defers := [] } ∧ Blk W h [.string ⟨x.1.2.1.key.toArray⟩, .int .i64 x.1.2.1.val.kind, .int .i64 x.1.2.1.val.time, .int .i64 x.1.2.1.val.node, .bool x.1.2.1.val.dead, .string ⟨x.1.2.1.val.text.toArray⟩, x.1.2.2.1, x.1.2.2.2, .int .u64 (x.1.2.1.val.flags.toNat : Int)] ∧ N0 ≤ h
end Go.Proofs.YtkjghoomdefbbaaGreatDoor
end
section
namespace Go.Proofs.YtkjghoomdefbbaaGreatDoor
theorem zio (l : List En) (p : Int) (h : 0 ≤ p ∧ p < l.length) : l[p.toNat]? = some (slotAt l p) := by
  unfold slotAt
  rw [List.getElem?_eq_getElem (by omega)]; rfl
def slotOf (A : Ar) (x : En) : En := slotAt A.slots (placeI A x)
def InE (C : Ar) (x : En) : Prop := ∃ f ∈ C.slots, nameB f x = true ∧ belowE x f = true
def Named (C : Ar) (x : En) : Prop := ∃ f ∈ C.slots, nameB f x = true
def nmE (e : En) : Int × List UInt8 := (e.val.kind, e.key)
theorem zai1 : ∀ {l m : List En}, Asc l → Asc m → (∀ x, x ∈ l ↔ x ∈ m) → l = m
  | [], [], _, _, _ => rfl
  | [], b :: m, _, _, h => by have := (h b).2 (by simp); simp at this
  | a :: l, [], _, _, h => by have := (h a).1 (by simp); simp at this
  | a :: l, b :: m, h1, h2, h => by
    have la : ∀ y ∈ l, lessE a y = true := fun y hy => List.rel_of_pairwise_cons h1 hy
    have lb : ∀ y ∈ m, lessE b y = true := fun y hy => List.rel_of_pairwise_cons h2 hy
    have hab : a = b := by
      rcases List.mem_cons.1 ((h a).1 (by simp)) with e | e
      · exact e
      · rcases List.mem_cons.1 ((h b).2 (by simp)) with e2 | e2
        · exact e2.symm
        · exact (zyx a b (la b e2) (lb a e)).elim
    subst hab
    rw [zai1 (List.Pairwise.of_cons h1) (List.Pairwise.of_cons h2) (fun x => ?_)]
    constructor
    · intro hx
      rcases List.mem_cons.1 ((h x).1 (by simp [hx])) with e | e
      · subst e; have := la _ hx; rw [zft] at this; cases this
      · exact e
    · intro hx
      rcases List.mem_cons.1 ((h x).2 (by simp [hx])) with e | e
      · subst e; have := lb _ hx; rw [zft] at this; cases this
      · exact e
end Go.Proofs.YtkjghoomdefbbaaGreatDoor
end
section
namespace Go.Proofs.YtkjghoomdefbbaaGreatDoor
def rankN (l : List En) (x : En) : Nat := (l.takeWhile (fun y => lessE y x)).length
def zdr (l : List En) (out : List Int) (i : Nat) : List Int :=
  out.take (rankN (out.map (slotAt l)) (slotAt l i)) ++ ((i : Int) :: out.drop (rankN (out.map (slotAt l)) (slotAt l i)))
def idxP (l : List En) : Nat → List Int
  | 0 => []
  | i + 1 => zdr l (idxP l i) i
def idxM (l : List En) : List Int := idxP l l.length
def apartB (l : List En) : Bool := decide (l.Pairwise (fun a b => nameB b a = false))
def slotsB (l : List En) : Bool := l.all okE && apartB l
theorem ztj : ∀ {l : List En} {x : En}, Asc l → rankN l x = posN l x
  | [], x, _ => rfl
  | a :: l, x, h => by
    have ih := ztj (x := x) (List.Pairwise.of_cons h)
    unfold rankN at ih ⊢
    cases ha : lessE a x with
    | true => rw [zix ha, List.takeWhile_cons_of_pos (p := fun y => lessE y x) ha, List.length_cons, ih]
    | false => rw [zkk h ha, List.takeWhile_cons_of_neg (p := fun y => lessE y x) (by rw [ha]; decide)]; rfl
theorem zsd (l : List En) (x : En) : rankN l x ≤ l.length := by
  unfold rankN; exact (List.takeWhile_prefix _).length_le
theorem zzs {l : List En} {x : En} : (∀ (j : Nat) (y : En), j < rankN l x → l[j]? = some y → lessE y x = true) ∧ (∀ y, l[rankN l x]? = some y → lessE y x = false) := by
  induction l with
  | nil => exact ⟨fun j y hj => by simp [rankN] at hj, fun y hy => by simp at hy⟩
  | cons a l ih =>
    obtain ⟨i1, i2⟩ := ih
    unfold rankN at *
    cases ha : lessE a x with
    | true =>
      rw [List.takeWhile_cons_of_pos (p := fun y => lessE y x) ha, List.length_cons]
      refine ⟨fun j y hj hy => ?_, fun y hy => ?_⟩
      · cases j with
        | zero => simp at hy; rw [← hy]; exact ha
        | succ j => rw [List.getElem?_cons_succ] at hy; exact i1 j y (by omega) hy
      · rw [List.getElem?_cons_succ] at hy; exact i2 y hy
    | false =>
      rw [List.takeWhile_cons_of_neg (p := fun y => lessE y x) (by rw [ha]; decide)]
      refine ⟨fun j y hj => by simp at hj, fun y hy => ?_⟩
      simp at hy; rw [← hy]; exact ha
theorem zbp1 {l : List En} {x : En} (h : ∀ y ∈ l, nameB y x = false) : hitB l x = false := by
  cases hh : hitB l x with
  | false => rfl
  | true =>
    obtain ⟨y, hy, hn⟩ := zri hh
    rw [h y (List.mem_of_getElem? hy)] at hn; cases hn
theorem zjk {l : List En} (h : apartB l = true) {i j : Nat} {a b : En} (hi : l[i]? = some a) (hj : l[j]? = some b) (hlt : j < i) : nameB a b = false := by
  unfold apartB at h
  rw [decide_eq_true_eq] at h
  have h1 := (List.getElem?_eq_some_iff.1 hi)
  have h2 := (List.getElem?_eq_some_iff.1 hj)
  have := List.pairwise_iff_getElem.1 h j i h2.1 h1.1 hlt
  rw [h1.2, h2.2] at this
  exact this
theorem zbq1 {l : List En} (h : ∀ (i j : Nat) (a b : En), l[i]? = some a → l[j]? = some b → j < i → nameB a b = false) : apartB l = true := by
  unfold apartB
  rw [decide_eq_true_eq]
  refine List.pairwise_iff_getElem.2 fun j i hj hi hlt => ?_
  exact h i j _ _ (List.getElem?_eq_getElem hi) (List.getElem?_eq_getElem hj) hlt
theorem zgd {l : List En} {i : Nat} (h : i < l.length) : l[i]? = some (slotAt l (i : Int)) := zio l i ⟨by omega, by omega⟩
theorem zqg {l : List En} (h : apartB l = true) : ∀ i, i ≤ l.length → (idxP l i).length = i ∧ (∀ p ∈ idxP l i, 0 ≤ p ∧ p < i) ∧ Asc ((idxP l i).map (slotAt l))
  | 0, _ => ⟨rfl, fun p hp => by simp [idxP] at hp, List.Pairwise.nil⟩
  | i + 1, hi => by
    obtain ⟨h1, h2, h3⟩ := zqg h i (by omega)
    have hr := zsd ((idxP l i).map (slotAt l)) (slotAt l i)
    rw [List.length_map] at hr
    have hno : hitB ((idxP l i).map (slotAt l)) (slotAt l i) = false := zbp1 fun y hy => by
      obtain ⟨p, hp, rfl⟩ := List.mem_map.1 hy
      have hpr := h2 p hp
      have := zjk h (i := i) (j := p.toNat) (a := slotAt l i) (b := slotAt l p) (zgd (by omega)) (by rw [zgd (by omega)]; congr 2; omega) (by omega)
      rw [zos]; exact this
    refine ⟨?_, ?_, ?_⟩
    · show (zdr l (idxP l i) i).length = _
      unfold zdr
      rw [List.length_append, List.length_cons, List.length_take, List.length_drop]; omega
    · intro p hp
      have hp : p ∈ zdr l (idxP l i) i := hp
      unfold zdr at hp
      rcases List.mem_append.1 hp with hp | hp
      · have := h2 p (List.mem_of_mem_take hp); omega
      · rcases List.mem_cons.1 hp with rfl | hp
        · omega
        · have := h2 p (List.mem_of_mem_drop hp); omega
    · have e : (zdr l (idxP l i) i).map (slotAt l) = insE ((idxP l i).map (slotAt l)) (slotAt l i) := by
        unfold zdr insE
        rw [ztj h3, List.map_append, List.map_cons, List.map_take, List.map_drop]
      show Asc ((zdr l (idxP l i) i).map (slotAt l))
      rw [e]
      exact zet1 h3 hno
theorem zmo {α β : Type} {f : α → β} : ∀ {l m : List α}, (∀ x ∈ l, ∀ y ∈ m, f x = f y → x = y) → l.map f = m.map f → l = m
  | [], [], _, _ => rfl
  | [], b :: m, _, h => by simp at h
  | a :: l, [], _, h => by simp at h
  | a :: l, b :: m, hi, h => by
    rw [List.map_cons, List.map_cons, List.cons.injEq] at h
    rw [hi a (by simp) b (by simp) h.1, zmo (fun x hx y hy => hi x (by simp [hx]) y (by simp [hy])) h.2]
theorem zse {l : List En} {idx : List Int} (h1 : idx.length = l.length) (h2 : ∀ p ∈ idx, 0 ≤ p ∧ p < l.length) (h3 : Asc (idx.map (slotAt l))) {q : Nat} (hq : q < l.length) : (q : Int) ∈ idx := by
  have hn : (idx.map Int.toNat).Nodup := by
    unfold Asc at h3
    unfold List.Nodup
    rw [List.pairwise_map] at h3 ⊢
    refine h3.imp ?_
    intro a b hab e
    unfold slotAt at hab
    rw [e, zft] at hab
    cases hab
  have hm := zza _ hn (n := l.length) (by
    intro p hp; obtain ⟨r, hr, rfl⟩ := List.mem_map.1 hp; have := h2 r hr; omega) (by rw [List.length_map, h1]) q hq
  obtain ⟨r, hr, e2⟩ := List.mem_map.1 hm
  have := h2 r hr
  rwa [show (q : Int) = r by omega]
theorem zpd {l : List En} {idx : List Int} (h1 : idx.length = l.length) (h2 : ∀ p ∈ idx, 0 ≤ p ∧ p < l.length) (h3 : Asc (idx.map (slotAt l))) : apartB l = true := by
  refine zbq1 fun i j a b hi hj hlt => ?_
  have li := (List.getElem?_eq_some_iff.1 hi).1
  have lj := (List.getElem?_eq_some_iff.1 hj).1
  obtain ⟨r, hr, er⟩ := List.getElem_of_mem (zse h1 h2 h3 li)
  obtain ⟨s, hs, es⟩ := List.getElem_of_mem (zse h1 h2 h3 lj)
  have ha : slotAt l (i : Int) = a := zci hi
  have hb : slotAt l (j : Int) = b := zci hj
  unfold Asc at h3
  rw [List.pairwise_map] at h3
  cases hn : nameB a b with
  | false => rfl
  | true =>
    exfalso
    have hne : r ≠ s := by rintro rfl; rw [er] at es; omega
    by_cases c : r < s
    · have := List.pairwise_iff_getElem.1 h3 r s hr hs c
      rw [er, es, ha, hb, zfq _ _ hn] at this; cases this
    · have := List.pairwise_iff_getElem.1 h3 s r hs hr (by omega)
      rw [er, es, ha, hb, zfq _ _ (zow hn)] at this; cases this
theorem zuq {l : List En} (h : apartB l = true) {p q : Int} (hp : 0 ≤ p ∧ p < l.length) (hq : 0 ≤ q ∧ q < l.length) (e : slotAt l p = slotAt l q) : p = q := by
  have gp := zio l p hp
  have gq := zio l q hq
  by_cases c1 : p.toNat < q.toNat
  · have := zjk h gq gp c1; rw [e, zkl] at this; cases this
  · by_cases c2 : q.toNat < p.toNat
    · have := zjk h gp gq c2; rw [e, zkl] at this; cases this
    · omega
theorem zui {l : List En} {a b : List Int} (a1 : a.length = l.length) (a2 : ∀ p ∈ a, 0 ≤ p ∧ p < l.length) (a3 : Asc (a.map (slotAt l))) (b1 : b.length = l.length) (b2 : ∀ p ∈ b, 0 ≤ p ∧ p < l.length) (b3 : Asc (b.map (slotAt l))) : a = b := by
  have mem : ∀ {c : List Int}, c.length = l.length → (∀ p ∈ c, 0 ≤ p ∧ p < l.length) → Asc (c.map (slotAt l)) → ∀ x, x ∈ c.map (slotAt l) ↔ x ∈ l := by
    intro c c1 c2 c3 x
    constructor
    · intro hx; obtain ⟨p, hp, rfl⟩ := List.mem_map.1 hx; exact zup (c2 p hp)
    · intro hx
      obtain ⟨q, hq⟩ := List.getElem?_of_mem hx
      exact List.mem_map.2 ⟨q, zse c1 c2 c3 (List.getElem?_eq_some_iff.1 hq).1, zci hq⟩
  have e : a.map (slotAt l) = b.map (slotAt l) := zai1 a3 b3 fun x => (mem a1 a2 a3 x).trans (mem b1 b2 b3 x).symm
  have hap := zpd a1 a2 a3
  exact zmo (fun x hx y hy => zuq hap (a2 x hx) (b2 y hy)) e
theorem zfb1 (A : Ar) : okA A = (roomB A.cap && (decide ((A.slots.length : Int) ≤ A.cap) && (slotsB A.slots && decide (A.index = idxM A.slots)))) := by
  rw [Bool.eq_iff_iff]
  unfold slotsB
  simp only [Bool.and_eq_true, decide_eq_true_eq]
  constructor
  · intro h0
    have h := okA_iff.1 h0
    have hap : apartB A.slots = true := zpd h.len h.rng h.asc
    obtain ⟨i1, i2, i3⟩ := zqg hap _ (Nat.le_refl _)
    unfold okA at h0
    rw [Bool.and_eq_true] at h0
    refine ⟨h0.1, h.fits, ⟨List.all_eq_true.2 h.ents, hap⟩, zui h.len h.rng h.asc i1 i2 i3⟩
  · rintro ⟨h1, h2, ⟨h3, h4⟩, h5⟩
    obtain ⟨i1, i2, i3⟩ := zqg h4 _ (Nat.le_refl _)
    have h5' : A.index = idxP A.slots A.slots.length := h5
    rw [okA_iff]
    unfold roomB at h1
    simp only [Bool.and_eq_true, decide_eq_true_eq] at h1
    refine ⟨h1, h2, List.all_eq_true.1 h3, ?_, ?_, ?_⟩
    · rw [h5']; exact i1
    · rw [h5']; exact i2
    · unfold ordA; rw [h5']; exact i3
end Go.Proofs.YtkjghoomdefbbaaGreatDoor
end
section
namespace Go.Proofs.YtkjghoomdefbbaaGreatDoor
def firstE : List Int → Int
  | [] => 0
  | e :: r => if e = 0 then firstE r else e
def heldB (A : Ar) (kind : Int) (key : List UInt8) : Bool := decide (0 ≤ findI A (nameE kind key))
def heldV (A : Ar) (kind : Int) (key : List UInt8) : Va := if 0 ≤ findI A (nameE kind key) then (slotAt A.slots (findI A (nameE kind key))).val else leastF kind
def nodeE (node : Int) : Int := if node < 0 ∨ 8 ≤ node then 10 else 0
def keyE (key : List UInt8) : Int := if key.length = 0 ∨ 8 < key.length then 6 else 0
def longE (text : List UInt8) : Int := if 8 < text.length then 6 else 0
def roomE (A : Ar) (is : Bool) : Int := if is = false ∧ (A.slots.length : Int) = A.cap then 4 else 0
def timeE (v : Va) : Int := if v.time = 2147483647 then 5 else 0
def goneE (is : Bool) (v : Va) : Int := if is = false ∨ v.dead = true then 9 else 0
def argE (n : Int) : Int := if n = 0 ∨ 65535 < n ∨ n < -65535 then 1 else 0
def absI (n : Int) : Int := if n < 0 then -n else n
def sideL (v : Va) (n : Int) : List Int := if n < 0 then v.minus else v.plus
def togI (v : Va) (node n : Int) : Int := ((sideL v n)[node.toNat]?).getD 0 + absI n
def overE (v : Va) (node n : Int) : Int := if 65535 < togI v node n then 5 else 0
def putDE (A : Ar) (node : Int) (key text : List UInt8) : Int := firstE [chkA A, nodeE node, keyE key, longE text, roomE A (heldB A 1 key), timeE (heldV A 1 key)]
def delDE (A : Ar) (node : Int) (key : List UInt8) : Int := firstE [chkA A, nodeE node, keyE key, goneE (heldB A 1 key) (heldV A 1 key), timeE (heldV A 1 key)]
def addDE (A : Ar) (node : Int) (key : List UInt8) (n : Int) : Int := firstE [chkA A, nodeE node, keyE key, argE n, roomE A (heldB A 2 key), overE (heldV A 2 key) node n]
def setDE (A : Ar) (key : List UInt8) : Int := firstE [chkA A, keyE key, roomE A (heldB A 3 key)]
def regE (key : List UInt8) (time node : Int) (dead : Bool) (text : List UInt8) : En := ⟨key, ⟨1, time, node, dead, text, [], [], 0⟩⟩
def onlyI (node x : Int) : List Int := (List.replicate 8 (0 : Int)).set node.toNat x
def cntE (key : List UInt8) (node n x : Int) : En := ⟨key, ⟨2, 0, 0, false, [], if n < 0 then List.replicate 8 0 else onlyI node x, if n < 0 then onlyI node x else List.replicate 8 0, 0⟩⟩
def flgE (key : List UInt8) (flags : UInt64) : En := ⟨key, ⟨3, 0, 0, false, [], [], [], flags⟩⟩
def putDF (A : Ar) (node : Int) (key text : List UInt8) : En := if putDE A node key text = 0 then regE key ((heldV A 1 key).time + 1) node false text else zeroE
def delDF (A : Ar) (node : Int) (key : List UInt8) : En := if delDE A node key = 0 then regE key ((heldV A 1 key).time + 1) node true [] else zeroE
def addDF (A : Ar) (node : Int) (key : List UInt8) (n : Int) : En := if addDE A node key n = 0 then cntE key node n (togI (heldV A 2 key) node n) else zeroE
def setDF (A : Ar) (key : List UInt8) (flags : UInt64) : En := if setDE A key = 0 then flgE key flags else zeroE
def textT (A : Ar) (key : List UInt8) : List UInt8 := if heldB A 1 key = true then (heldV A 1 key).text else []
def textB (A : Ar) (key : List UInt8) : Bool := heldB A 1 key && !(heldV A 1 key).dead
def sumT (A : Ar) (key : List UInt8) : Int := if heldB A 2 key = true then sumN (heldV A 2 key) else 0
def flagT (A : Ar) (key : List UInt8) : UInt64 := if heldB A 3 key = true then (heldV A 3 key).flags else 0
def scanA (A : Ar) : List En := (allA A).filter (fun e => !e.val.dead)
end Go.Proofs.YtkjghoomdefbbaaGreatDoor
end
section
namespace Go.Proofs.YtkjghoomdefbbaaGreatDoor
def sumE (E : En) : Nat := crcN (putEn E)
def bkE (E : En) : Nat := zcz E.val.kind E.key
def sumK (k : Nat) : List En → Nat
  | [] => 0
  | E :: r => (if bkE E = k then sumE E else 0) ^^^ sumK k r
theorem zfg (E : En) : sumE E < 4294967296 := zqh _
theorem zff (k : Nat) : ∀ l : List En, sumK k l < 4294967296
  | [] => by show 0 < 4294967296; decide
  | E :: r => by
    unfold sumK
    exact x32 (by split; exact zfg E; decide) (zff k r)
theorem zkq (k : Nat) : ∀ l m : List En, sumK k (l ++ m) = sumK k l ^^^ sumK k m
  | [], m => by rw [List.nil_append]; simp [sumK]
  | E :: r, m => by rw [List.cons_append, sumK, sumK, zkq k r m, Nat.xor_assoc]
theorem zpi (k : Nat) (l : List En) (E : En) : sumK k (l ++ [E]) = sumK k l ^^^ (if bkE E = k then sumE E else 0) := by
  rw [zkq]; simp [sumK]
def sumA (A : Ar) (k : Nat) : Nat := if okA A = true then sumK k A.slots else 0
theorem znt {A : Ar} (h : OkA A) (k : Nat) : sumA A k = sumK k A.slots := by unfold sumA; rw [if_pos (okA_iff.2 h)]
theorem zjm {A : Ar} (h : okA A = false) (k : Nat) : sumA A k = 0 := by unfold sumA; rw [h]; rfl
def askB (mask : Int) (E : En) : Bool := maskB mask && decide (mask.toNat &&& 2 ^ bkE E ≠ 0)
def inL (mask most : Int) (l : List En) : List En := (l.filter (askB mask)).take most.toNat
def inA (A : Ar) (mask most : Int) : List En := if okA A = true then inL mask most A.slots else []
def inStep (mask most : Int) (o : List En) (E : En) : List En := if (o.length : Int) < most ∧ askB mask E = true then o ++ [E] else o
theorem zyc (mask most : Int) : inL mask most [] = [] := by simp [inL]
theorem zjp (mask most : Int) (l : List En) (E : En) : inL mask most (l ++ [E]) = inStep mask most (inL mask most l) E := by
  unfold inStep inL
  rw [List.filter_append]
  generalize l.filter (askB mask) = m
  cases hE : askB mask E with
  | false => simp [hE]
  | true =>
    rw [show List.filter (askB mask) [E] = [E] by simp [hE]]
    by_cases hc : m.length < most.toNat
    · rw [if_pos ⟨by rw [List.length_take]; omega, rfl⟩, List.take_of_length_le (by simp; omega), List.take_of_length_le (by omega)]
    · rw [if_neg (by rintro ⟨h, _⟩; rw [List.length_take] at h; omega), List.take_append_of_le_length (by omega)]
theorem znz (mask most : Int) (l r : List En) (h : most ≤ ((inL mask most l).length : Int)) : inL mask most (l ++ r) = inL mask most l := by
  induction r generalizing l with
  | nil => rw [List.append_nil]
  | cons a r ih =>
    have e : inL mask most (l ++ [a]) = inL mask most l := by rw [zjp]; unfold inStep; rw [if_neg (by omega)]
    rw [show l ++ a :: r = (l ++ [a]) ++ r by simp, ih (l ++ [a]) (by rw [e]; exact h), e]
end Go.Proofs.YtkjghoomdefbbaaGreatDoor
end
section
namespace Go.Proofs.YtkjghoomdefbbaaGreatDoor
open Go.RowKit Go.Shelf
abbrev RowE := List (En × Value × Value)
structure OutV (N : Nat) (v : Value) (ps : RowE) (W : World) : Prop where
  own : W.ownsRow N 48 9 v ps.length (flatE ps)
  rows : RowsOk ps W
  off : ∀ q ∈ ps, ∀ b, v.ownBlock = some b → OffQ b q
theorem ztv (N : Nat) (W : World) : OutV N (.slice none 0 0) [] W := ⟨World.ownsRow_nil _ _ _ _, (fun q hq => by cases hq), (fun q hq => by cases hq)⟩
theorem OutV.keep {N : Nat} {v : Value} {ps : RowE} {W W' : World} (h : OutV N v ps W) (hb : Below W.heap.size W W') : OutV N v ps W' :=
  ⟨zcd h.own hb, fun q hq => ⟨zac _ _ _ _ (h.rows q hq).1 hb, zac _ _ _ _ (h.rows q hq).2 hb⟩, h.off⟩
theorem OutV.ens {N : Nat} {v : Value} {ps : RowE} {W : World} (h : OutV N v ps W) : isEns (ps.map (·.1)) v W := zjx h.own h.rows
theorem OutV.low {N N' : Nat} {v : Value} {ps : RowE} {W : World} (h : OutV N v ps W) (hN : N' ≤ N) : OutV N' v ps W := ⟨zkr h.own hN, h.rows, h.off⟩
theorem OutV.len {N : Nat} {v : Value} {ps : RowE} {W : World} (h : OutV N v ps W) : ∃ a c, v = .slice a ps.length c := by
  obtain ⟨_, ⟨rfl, h0⟩ | ⟨g, cap, cur, rfl, _⟩⟩ := h.own
  · exact ⟨_, _, by rw [h0]⟩
  · exact ⟨_, _, rfl⟩
def SrcE (u : Value) (ps : RowE) (w : World) : Prop := (u = .slice none 0 0 ∧ ps = []) ∨ ∃ (a : Addr) (c : Nat), u = .slice (some a) ps.length c ∧ ∀ (j : Nat) (x : Value), (flatE ps)[j]? = some x → w.cell? (a.add j) = some x
theorem zlw (b off j : Nat) : (⟨b, off, none⟩ : Addr).add j = ⟨b, off + j, none⟩ := by
  by_cases e : j = 0
  · subst e; simp [Addr.add]
  · simp [Addr.add, e]
theorem ztd : ∀ {ps : RowE} {j : Nat} {x : Value}, (flatE ps)[j]? = some x → ∃ q, ps[j / 9]? = some q ∧ (enL q.1 q.2.1 q.2.2)[j % 9]? = some x
  | [], j, x, h => by simp [flatE] at h
  | p :: ps, j, x, h => by
    rw [zdq] at h
    by_cases hj : j < 9
    · rw [List.getElem?_append_left (show j < (enL p.1 p.2.1 p.2.2).length from hj)] at h
      rw [Nat.div_eq_of_lt hj, Nat.mod_eq_of_lt hj]
      exact ⟨p, rfl, h⟩
    · rw [List.getElem?_append_right (show (enL p.1 p.2.1 p.2.2).length ≤ j from by show 9 ≤ j; omega)] at h
      have h' : (flatE ps)[j - 9]? = some x := h
      obtain ⟨q, h1, h2⟩ := ztd h'
      have e1 : j / 9 = (j - 9) / 9 + 1 := by omega
      have e2 : j % 9 = (j - 9) % 9 := by omega
      rw [e1, e2, List.getElem?_cons_succ]
      exact ⟨q, h1, h2⟩
theorem ztn : ∀ (l : List En) (b off : Nat) (w : World), (∀ (j : Nat) (E : En), l[j]? = some E → EnAt w b (off + j * 9) E) → ∃ ps : RowE, ps.map (·.1) = l ∧ RowsOk ps w ∧ ∀ (j : Nat) (q : En × Value × Value), ps[j]? = some q → ∀ (i : Nat) (x : Value), (enL q.1 q.2.1 q.2.2)[i]? = some x → w.cell? ⟨b, off + j * 9 + i, none⟩ = some x
  | [], b, off, w, h => ⟨[], rfl, (fun q hq => by cases hq), fun j q hq => by simp at hq⟩
  | E :: l, b, off, w, h => by
    obtain ⟨vp, vm, hc, hp, hm⟩ := h 0 E rfl
    obtain ⟨ps, h1, h2, h3⟩ := ztn l b (off + 9) w (fun j F hF => by
      have := h (j + 1) F (by rw [List.getElem?_cons_succ]; exact hF)
      rwa [show off + (j + 1) * 9 = off + 9 + j * 9 by omega] at this)
    refine ⟨(E, vp, vm) :: ps, by rw [List.map_cons, h1], fun q hq => ?_, fun j q hq i x hx => ?_⟩
    · rcases List.mem_cons.1 hq with rfl | hq
      · exact ⟨hp, hm⟩
      · exact h2 q hq
    · cases j with
      | zero =>
        simp only [List.getElem?_cons_zero, Option.some.injEq] at hq
        subst hq
        exact hc i x hx
      | succ j =>
        rw [List.getElem?_cons_succ] at hq
        have := h3 j q hq i x hx
        rwa [show off + 9 + j * 9 + i = off + (j + 1) * 9 + i by omega] at this
theorem isEns.src {l : List En} {u : Value} {w : World} (h : isEns l u w) : ∃ ps : RowE, ps.map (·.1) = l ∧ RowsOk ps w ∧ SrcE u ps w := by
  rcases h with ⟨rfl, rfl⟩ | ⟨a, cap, rfl, rfl⟩ | ⟨b, off, cap, rfl, hlt, hc⟩
  · exact ⟨[], rfl, (fun q hq => by cases hq), .inl ⟨rfl, rfl⟩⟩
  · exact ⟨[], rfl, (fun q hq => by cases hq), .inr ⟨a, cap, rfl, fun j x hx => by simp [flatE] at hx⟩⟩
  · obtain ⟨ps, h1, h2, h3⟩ := ztn l b off w hc
    refine ⟨ps, h1, h2, .inr ⟨⟨b, off, none⟩, cap, by rw [← h1, List.length_map], fun j x hx => ?_⟩⟩
    obtain ⟨q, hq, hx⟩ := ztd hx
    have := h3 _ q hq _ x hx
    rw [zlw]
    rwa [show off + j / 9 * 9 + j % 9 = off + j by omega] at this
theorem zkg {w0 : World} {ps : RowE} (h : RowsOk ps w0) {b : Nat} (hb : w0.heap.size ≤ b) : ∀ q ∈ ps, OffQ b q := fun q hq =>
  ⟨(zbq (h q hq).1).imp id (fun h3 e => by have := h3 b e; omega), (zbq (h q hq).2).imp id (fun h3 e => by have := h3 b e; omega)⟩
theorem zor {ps : RowE} {w : World} (h : RowsOk ps w) : ∀ u ∈ flatE ps, u.oneCell' = true := by
  intro u hu
  unfold flatE at hu
  obtain ⟨q, hq, hu⟩ := List.mem_flatMap.1 hu
  exact zzm (h q hq).1.one (h q hq).2.one u hu
theorem zlk {N : Nat} {v : Value} {ps : RowE} {w : World} (h : OutV N v ps w) {u : Value} {ps2 : RowE} (hu : SrcE u ps2 w) (hr2 : RowsOk ps2 w) (hoff : ∀ q ∈ ps2, ∀ b, v.ownBlock = some b → OffQ b q) (hn : ps.length + ps2.length ≤ 1000) (hN : N ≤ w.heap.size) (ty : TypeId) :
    ∃ v' w', (Builtin.append_ #[22, 22] ty #[v, u]).run Tryz.prog w = .ok v' w' ∧ OutV N v' (ps ++ ps2) w' ∧ w.grownBy w' v.ownBlock := by
  obtain ⟨ie, hie, hz, hsz⟩ : ∃ ie, Tryz.prog.info? 48 = some ie ∧ ie.zero = some (.agg #[.string ⟨#[]⟩, .int .i64 0, .int .i64 0, .int .i64 0, .bool false, .string ⟨#[]⟩, .slice none 0 0, .slice none 0 0, .int .u64 0]) ∧ ie.size = 9 := by
    have := Tryz.infoEn
    obtain ⟨ie, h1, h2⟩ := Option.map_eq_some_iff.1 this
    simp only [Prod.mk.injEq] at h2
    exact ⟨ie, h1, h2.1, h2.2⟩
  have hbytes : ie.bytes ≤ 100000 := by
    have : (Tryz.prog.info? 48).all (fun i => decide (i.bytes ≤ 100000)) = true := by kernel_rfl
    rw [hie] at this
    simpa using this
  rcases hu with ⟨rfl, rfl⟩ | ⟨a, c, rfl, hcell⟩
  · refine ⟨v, w, run_append_owned_none (P := Tryz.prog) (w := w) N _ ty 48 ie 9 Tryz.underlying22 hie v _ _ h.own, ?_, ⟨rfl, rfl, rfl, Nat.le_refl _, fun _ _ _ => rfl⟩⟩
    rw [List.append_nil]; exact h
  · obtain ⟨v', w', hrun, how, hgr, _, hob⟩ := run_append_own_at (P := Tryz.prog) (w := w) N 22 ty 48 ie (.agg #[.string ⟨#[]⟩, .int .i64 0, .int .i64 0, .int .i64 0, .bool false, .string ⟨#[]⟩, .slice none 0 0, .slice none 0 0, .int .u64 0]) 9 ie.bytes Tryz.underlying22 hie hz hsz rfl rfl (by decide) v ps.length (flatE ps) h.own a ps2.length c (flatE ps2) (zcu _) hcell (zor hr2) (by unfold maxLen; omega) (by have : (ps.length + ps2.length) * ie.bytes ≤ 1000 * 100000 := Nat.mul_le_mul hn hbytes; omega) hN
    refine ⟨v', w', hrun, ⟨?_, fun q hq => ?_, fun q hq b hb => ?_⟩, hgr⟩
    · rw [List.length_append]
      have e : flatE (ps ++ ps2) = flatE ps ++ flatE ps2 := by unfold flatE; simp
      rw [e]; exact how
    · have key : ∀ q, isCells (q.1.val.plus.map intC) q.2.1 w ∧ isCells (q.1.val.minus.map intC) q.2.2 w → (∀ b, v.ownBlock = some b → OffQ b q) → isCells (q.1.val.plus.map intC) q.2.1 w' ∧ isCells (q.1.val.minus.map intC) q.2.2 w' := by
        intro q hc ho
        refine ⟨hgr.cells hc.1 ?_, hgr.cells hc.2 ?_⟩
        · by_cases e : q.1.val.plus.map intC = []
          · exact .inl e
          · exact .inr (fun s hs => ((ho s hs).1.resolve_left e))
        · by_cases e : q.1.val.minus.map intC = []
          · exact .inl e
          · exact .inr (fun s hs => ((ho s hs).2.resolve_left e))
      rcases List.mem_append.1 hq with hq | hq
      · exact key q (h.rows q hq) (h.off q hq)
      · exact key q (hr2 q hq) (hoff q hq)
    · rcases hob with e | e
      · rw [e] at hb
        exact (List.mem_append.1 hq).elim (fun hq => h.off q hq b hb) (fun hq => hoff q hq b hb)
      · rw [e] at hb
        injection hb with hb
        subst hb
        exact (List.mem_append.1 hq).elim (fun hq => zkg h.rows (Nat.le_refl _) q hq) (fun hq => zkg hr2 (Nat.le_refl _) q hq)
theorem zis {ops : Array Oper} {rest : List Oper} {o : Oper} {a : Act} {w : World} {Q : Exit → Act → World → Prop} (hgd : o.guard = none) (s x : Operand) (ho : o.op = .call { callee := .builtin .append, args := #[s, x], argTypes := #[22, 22] })
    (N : Nat) (v : Value) (ps : RowE) (hs : a.eval s = v) (h : OutV N v ps w) (u : Value) (ps2 : RowE) (hx : a.eval x = u) (hu : SrcE u ps2 w) (hr2 : RowsOk ps2 w) (hoff : ∀ q ∈ ps2, ∀ b, v.ownBlock = some b → OffQ b q) (hn : ps.length + ps2.length ≤ 1000) (hN : N ≤ w.heap.size)
    (hr : ∀ v' w', OutV N v' (ps ++ ps2) w' → w.grownBy w' v.ownBlock → wpList Tryz.prog ops Q rest (a.put o.dst v') w') : wpList Tryz.prog ops Q (o :: rest) a w := by
  refine wpList_plain hgd fun K hK => ?_
  obtain ⟨v', w', hrun, h1, h2⟩ := zlk h hu hr2 hoff hn hN o.type
  unfold Oper.wp execOp
  rw [ho]
  simp only [resolve, Sem.run_bind, Sem.run_pure, Result.andThen_ok, invoke, builtin, List.map_toArray, List.map_cons, List.map_nil, hs, hx, hrun, Oper.upon]
  exact hK _ _ (hr v' w' h1 h2)
def isEnsN (N : Nat) (l : List En) : VP := fun v w => ∃ ps : RowE, ps.map (·.1) = l ∧ OutV N v ps w ∧ ∀ q ∈ ps, NewB N q.2.1 ∧ NewB N q.2.2
theorem zto (N : Nat) (w : World) : isEnsN N [] (.slice none 0 0) w := ⟨[], rfl, ztv _ _, fun q hq => by cases hq⟩
theorem OutS.ensN {N N0 b1 : Nat} {v : Value} {ps : RowE} {W : World} (h : OutS N0 b1 v ps W) (hN : N ≤ N0) : isEnsN N (ps.map (·.1)) v W :=
  ⟨ps, rfl, ⟨zkr h.own hN, h.rows, h.off⟩, fun q hq => ⟨(h.nw q hq).1.low hN, (h.nw q hq).2.low hN⟩⟩
theorem isEnsN.ens {N : Nat} {l : List En} {v : Value} {w : World} (h : isEnsN N l v w) : isEns l v w := by
  obtain ⟨ps, rfl, h1, _⟩ := h
  exact h1.ens
theorem zqo {w0 w w' : World} {N : Nat} {v : Value} {ps : RowE} (h : OutV N v ps w) (hg : w.grownBy w' v.ownBlock) (hb : Below w0.heap.size w0 w) (hN : w0.heap.size ≤ N) : Below w0.heap.size w0 w' := by
  refine ⟨hg.os.trans hb.os, hg.tape.trans hb.tape, hg.output.trans hb.output, Nat.le_trans hb.size hg.size, fun b hlt => (hg.block b (Nat.lt_of_lt_of_le hlt hb.size) (fun e => ?_)).trans (hb.block b hlt)⟩
  have := (h.own.lt b e.symm).1
  omega
end Go.Proofs.YtkjghoomdefbbaaGreatDoor
end
section
namespace Go.Proofs.YtkjghoomdefbbaaGreatDoor
open Go.RowKit Go.Shelf
attribute [local irreducible] setN
attribute [local go_sem] Oper.semAt_some
theorem zzn (A : Ar) (at_ n : Int) (v : Value) (w : World) (hv : isAr A v w) (hF : FitA A) : Calls Tryz.prog 71 #[v, .int .i64 at_, .int .i64 n] w fun e W' => ∃ v', e = .returned v' ∧ isEnsN w.heap.size (chunkA A at_ n) v' W' ∧ Below w.heap.size w W' := by
  obtain ⟨vs, vi, rfl, hs, hi⟩ := hv
  by_cases hneg : at_ < 0
  · have e0 : chunkA A at_ n = [] := by unfold chunkA; rw [if_pos hneg]
    have HB := Kept.mk (Blk.new (w.alloc (.cells #[.int .i64 A.cap, vs, vi] 25)) 3 [.int .i64 at_] (w.heap.size + 1) (by simp))
    have HB2 := Kept.mk (HB.out.alloc (.cells #[.int .i64 n] 3))
    have ka := HB2.out.cells.2 0 _ rfl
    have hB0 := Kept.mk (show Below w.heap.size w (((w.alloc (.cells #[.int .i64 A.cap, vs, vi] 25)).alloc (.cells #[.int .i64 at_] 3)).alloc (.cells #[.int .i64 n] 3)) from (((Below.refl _ w).alloc (Nat.le_refl _) _).alloc (by simp) _).alloc (by simp; omega) _)
    clear HB HB2
    rw [e0]
    go_enter Tryz.func71, Tryz.ntmps71
    go_wp2
    go_ret
    first
    | exact ⟨_, rfl, zto _ _, hB0.out⟩
    | exact ⟨zto _ _, hB0.out⟩
  have hat : ¬ at_ < 0 := hneg
  refine (callsIn_wide (n := 5)).1 ?_
  refine callsIn_of_wp_marks Tryz.func71 rfl trivial ?_ rfl
  simp only [Tryz.ntmps71, List.size_toArray, List.length_cons, List.length_nil, Nat.reduceAdd, Nat.reduceSub, Array.replicate_succ, Array.replicate_zero, List.push_toArray, List.append_toArray, List.nil_append, List.cons_append]
  gi_wp2_with (refine ⟨trivial, (zrp _ A vs vi _).mono ?_⟩; rintro e w' ⟨rfl, rfl⟩)
  have f1 := hF.slots
  have hB0 : Below w.heap.size w (((((w.alloc (.cells #[.int .i64 A.cap, vs, vi] 25)).alloc (.cells #[.int .i64 at_] 3)).alloc (.cells #[.int .i64 n] 3)).alloc (.cells #[.slice none 0 0] 22)).alloc (.cells #[.int .i64 A.cap, vs, vi] 25)) := (((((Below.refl _ w).alloc (Nat.le_refl _) _).alloc (by simp) _).alloc (by simp; omega) _).alloc (by simp; omega) _).alloc (by simp; omega) _
  have hIt : ItA A vs vi w w.heap.size (w.heap.size + 1 + 1 + 1 + 1) (((((w.alloc (.cells #[.int .i64 A.cap, vs, vi] 25)).alloc (.cells #[.int .i64 at_] 3)).alloc (.cells #[.int .i64 n] 3)).alloc (.cells #[.slice none 0 0] 22)).alloc (.cells #[.int .i64 A.cap, vs, vi] 25)) := ⟨by simp; omega, by simp, fun b hb => hB0.block b hb, by
    have := heap_alloc_new ((((w.alloc (.cells #[.int .i64 A.cap, vs, vi] 25)).alloc (.cells #[.int .i64 at_] 3)).alloc (.cells #[.int .i64 n] 3)).alloc (.cells #[.slice none 0 0] 22)) (.cells #[.int .i64 A.cap, vs, vi] 25)
    simpa using this⟩
  have hst : Blk (((((w.alloc (.cells #[.int .i64 A.cap, vs, vi] 25)).alloc (.cells #[.int .i64 at_] 3)).alloc (.cells #[.int .i64 n] 3)).alloc (.cells #[.slice none 0 0] 22)).alloc (.cells #[.int .i64 A.cap, vs, vi] 25)) (w.heap.size + 1 + 1 + 1) [.slice none 0 0] := (Blk.new (((w.alloc (.cells #[.int .i64 A.cap, vs, vi] 25)).alloc (.cells #[.int .i64 at_] 3)).alloc (.cells #[.int .i64 n] 3)) 22 [.slice none 0 0] (w.heap.size + 1 + 1 + 1) (by simp)).alloc _
  have hba : Blk (((((w.alloc (.cells #[.int .i64 A.cap, vs, vi] 25)).alloc (.cells #[.int .i64 at_] 3)).alloc (.cells #[.int .i64 n] 3)).alloc (.cells #[.slice none 0 0] 22)).alloc (.cells #[.int .i64 A.cap, vs, vi] 25)) (w.heap.size + 1) [.int .i64 at_] := (((Blk.new (w.alloc (.cells #[.int .i64 A.cap, vs, vi] 25)) 3 [.int .i64 at_] (w.heap.size + 1) (by simp)).alloc _).alloc _).alloc _
  have hbn : Blk (((((w.alloc (.cells #[.int .i64 A.cap, vs, vi] 25)).alloc (.cells #[.int .i64 at_] 3)).alloc (.cells #[.int .i64 n] 3)).alloc (.cells #[.slice none 0 0] 22)).alloc (.cells #[.int .i64 A.cap, vs, vi] 25)) (w.heap.size + 1 + 1) [.int .i64 n] := ((Blk.new ((w.alloc (.cells #[.int .i64 A.cap, vs, vi] 25)).alloc (.cells #[.int .i64 at_] 3)) 3 [.int .i64 n] (w.heap.size + 1 + 1) (by simp)).alloc _).alloc _
  have hI0 : ICk A at_ n w [] (((((w.alloc (.cells #[.int .i64 A.cap, vs, vi] 25)).alloc (.cells #[.int .i64 at_] 3)).alloc (.cells #[.int .i64 n] 3)).alloc (.cells #[.slice none 0 0] 22)).alloc (.cells #[.int .i64 A.cap, vs, vi] 25)) := ⟨.slice none 0 0, [], ⟨hst, World.ownsRow_nil _ _ _ _, (fun q hq => by cases hq), (fun q hq => by cases hq), (fun q hq => by cases hq)⟩, rfl, hB0, by simp, hba, hbn⟩
  have hsz : (((((w.alloc (.cells #[.int .i64 A.cap, vs, vi] 25)).alloc (.cells #[.int .i64 at_] 3)).alloc (.cells #[.int .i64 n] 3)).alloc (.cells #[.slice none 0 0] 22)).alloc (.cells #[.int .i64 A.cap, vs, vi] 25)).heap.size = w.heap.size + 5 := by simp
  try simp only [World.size_alloc] at hIt
  try simp only [World.size_alloc]
  generalize (((((w.alloc (.cells #[.int .i64 A.cap, vs, vi] 25)).alloc (.cells #[.int .i64 at_] 3)).alloc (.cells #[.int .i64 n] 3)).alloc (.cells #[.slice none 0 0] 22)).alloc (.cells #[.int .i64 A.cap, vs, vi] 25)) = W0 at *
  refine wpIn_rangeFunc_ownH rfl (by decide) (gf := 104) (lb := #[.pointer (some ⟨w.heap.size + 1 + 1 + 1 + 1, 0, none⟩)]) rfl trivial (enters_of Tryz.func104 (by kernel_rfl) rfl)
    (zoo 4 (by omega) (w.heap.size + 1 + 1 + 1 + 1) A vs vi w W0 hs hi hF hIt) (zgx1 _ _) (zfg1 _ _ _ (by omega) (by omega)) (Below.refl _ _) (fun _ => rfl)
    (ICk A at_ n w) (fun _ _ _ => False) (zdx1 A at_ n w _ (by omega)) (fun _ _ _ _ _ hs _ _ => hs) hI0 (AxCk A at_ n vs vi w)
    (fun x a' _ W W' row ⟨h, e, hb, hh, hu⟩ hg hr => ⟨h, e, zei (by simp) hb hg hr, hh, fun u hc => hu u (by rw [← hc]; exact (World.cell?_of_block (a := ⟨w.heap.size + 1 + 1 + 1, 0, none⟩) (zzf (b := w.heap.size + 1 + 1 + 1) hg hr hb (by have := hb.lt; omega))).symm)⟩) ?assign ?body ?done ?stop
  case assign =>
    intro l pre x W K hIp hK
    have hp := x.2.2.1
    have hm := x.2.2.2
    obtain ⟨v0, ps0, hO0, _, hBw, hNw, _, _⟩ := id hIp
    obtain ⟨K1, K2, K3, K4, K5⟩ := enew W x.1.2.1 x.1.2.2.1 x.1.2.2.2 (zac _ _ _ _ hp hBw) (zac _ _ _ _ hm hBw) W.heap.size rfl
    have HH := Kept.mk ((Blk.new W 48 [.string ⟨#[]⟩, .int .i64 0, .int .i64 0, .int .i64 0, .bool false, .string ⟨#[]⟩, .slice none 0 0, .slice none 0 0, .int .u64 0] W.heap.size rfl).all_ (l := [.string ⟨x.1.2.1.key.toArray⟩, .int .i64 x.1.2.1.val.kind, .int .i64 x.1.2.1.val.time, .int .i64 x.1.2.1.val.node, .bool x.1.2.1.val.dead, .string ⟨x.1.2.1.val.text.toArray⟩, x.1.2.2.1, x.1.2.2.2, .int .u64 (x.1.2.1.val.flags.toNat : Int)]) rfl)
    have hun : ∀ u, (setN (W.alloc (.cells #[.string ⟨#[]⟩, .int .i64 0, .int .i64 0, .int .i64 0, .bool false, .string ⟨#[]⟩, .slice none 0 0, .slice none 0 0, .int .u64 0] 48)) W.heap.size 0 [.string ⟨x.1.2.1.key.toArray⟩, .int .i64 x.1.2.1.val.kind, .int .i64 x.1.2.1.val.time, .int .i64 x.1.2.1.val.node, .bool x.1.2.1.val.dead, .string ⟨x.1.2.1.val.text.toArray⟩, x.1.2.2.1, x.1.2.2.2, .int .u64 (x.1.2.1.val.flags.toNat : Int)]).cell? ⟨w.heap.size + 1 + 1 + 1, 0, none⟩ = some u → u.ownBlock ≠ some W.heap.size := fun u hc e => by
      have h1 := (K3.out.cell (p := ⟨w.heap.size + 1 + 1 + 1, 0, none⟩) (show w.heap.size + 1 + 1 + 1 < W.heap.size by omega)).symm.trans hc
      rw [hO0.st.cells.2 0 _ rfl] at h1
      injection h1 with h1
      subst h1
      have := (hO0.own.lt _ e).2
      omega
    have hK2 := hK _ _ (zfc K3.out) (zju K3.out (by omega) (by omega)) (zbu1 hIp K3.out) ⟨W.heap.size, rfl, HH.out, hNw, hun⟩
    have HK := Kept.mk hK2
    clear hK2 hK hp hm
    simp only [encE]
    gi_wp2_with (have hz0 := K1; refine zcf (fun _ => trivial) 48 rfl (.tmp 9) (.tmp 15) rfl W.heap.size [.string ⟨x.1.2.1.key.toArray⟩, .int .i64 x.1.2.1.val.kind, .int .i64 x.1.2.1.val.time, .int .i64 x.1.2.1.val.node, .bool x.1.2.1.val.dead, .string ⟨x.1.2.1.val.text.toArray⟩, x.1.2.2.1, x.1.2.2.2, .int .u64 (x.1.2.1.val.flags.toNat : Int)] zay rfl rfl K1.out rfl K2.out K5.out ?_; clear hz0 K1 K2 K5)
    exact HK.out
  case body =>
    rintro l pre x a' W hl _ hIp ⟨h, rfl, hbl, hh, hu⟩ hlt
    obtain ⟨v, ps, hO, hpm, hBw, hNw, hba1, hbn1⟩ := hIp
    obtain ⟨hx1, hx2, hx3⟩ := x.2
    have hps : ps.length ≤ 1000 := by
      have h1 := congrArg List.length hpm
      have h2 := zfs1 at_ n (pre.map (·.1))
      rw [List.length_map] at h1 h2
      omega
    have FE := hF.ents _ (List.mem_of_getElem? hx1)
    have hp := zac _ _ _ _ hx2 hBw
    have hm := zac _ _ _ _ hx3 hBw
    have op := zbq hx2
    have om := zbq hx3
    have hvs : ∀ s, v.ownBlock = some s → w.heap.size + 5 ≤ s ∧ s < W.heap.size := hO.own.lt
    have hob : ∀ s, v.ownBlock = some s → ∀ o : Obj, W.heap[s]? = some o → o.isCells = true := by
      intro s hs o ho
      obtain ⟨_, ⟨rfl, _⟩ | ⟨g, cap, cur, rfl, _, hg', _⟩⟩ := hO.own
      · cases hs
      · have : g = s := by injection hs
        subst this
        rw [hg'] at ho
        injection ho with ho
        subst ho
        rfl
    have kat := hba1.cells.2 0 _ rfl
    have kn := hbn1.cells.2 0 _ rfl
    have kv := hO.st.cells.2 0 _ rfl
    obtain ⟨va, vc, hve⟩ : ∃ a c, v = .slice a ps.length c := by
      obtain ⟨_, ⟨rfl, h0⟩ | ⟨g, cap, cur, rfl, _⟩⟩ := hO.own
      · exact ⟨_, _, by rw [h0]⟩
      · exact ⟨_, _, rfl⟩
    rw [hve] at kv
    have hpl : (ps.length : Int) = ((ckL at_ n (pre.map (·.1))).length : Int) := by have h1 := congrArg List.length hpm; rw [List.length_map] at h1; omega
    have no : ¬ (at_ ≤ (x.1.1 : Int) ∧ (ps.length : Int) < n) → KeepsFrom (w.heap.size + 5) W W ∧ KpA w.heap.size (w.heap.size + 1 + 1 + 1 + 1) W W ∧ ICk A at_ n w (pre ++ [x]) W := fun hc => ⟨⟨Nat.le_refl _, fun k o _ hk _ => hk⟩, ⟨Nat.le_refl _, fun _ _ => rfl⟩, ⟨v, ps, hO, by rw [hpm, List.map_append]; exact (show ckL at_ n (pre.map (·.1)) = ckL at_ n (pre.map (·.1) ++ [x.1]) by rw [zno, ckStep, if_neg (by rw [← hpl]; exact hc)]), hBw, hNw, hba1, hbn1⟩⟩
    by_cases hc1 : at_ ≤ (x.1.1 : Int)
    · by_cases hc2 : (ps.length : Int) < n
      · have hcond : at_ ≤ (x.1.1 : Int) ∧ ((ckL at_ n (pre.map (·.1))).length : Int) < n := ⟨hc1, by rw [← hpl]; exact hc2⟩
        clear no
        gi_wp2_with fail
        refine zpe _ _ _ ?hout rfl (w.heap.size + 1 + 1 + 1) h (w.heap.size + 5) ps.length [v] x.1.2.1 v x.1.2.2.1 x.1.2.2.2 (flatE ps) rfl rfl hO.st rfl hbl hp hm FE hO.own hps hNw (fun s hs => ⟨by have := (hvs s hs).1; omega, fun e => ?hne, op.imp id (fun h2 e => by have := h2 s e; have := (hvs s hs).1; omega), om.imp id (fun h2 e => by have := h2 s e; have := (hvs s hs).1; omega)⟩) ?hfin
        case hout => rintro ⟨a2, w2, hh2⟩; first | exact hh2 | exact hh2.elim | (simp [ownPostG] at hh2) | exact True.intro
        case hne => exact hu v (hO.st.cells.2 0 _ rfl) (by rw [hs, e])
        case hfin =>
          intro y v2 vp vm W2 h1 h2 h3 h4 h5 h6 h7 h8 h9
          have hO2 := hO.push (by omega) hNw x.1.2.1 v2 vp vm h1 h2 h3 h4 h5 h6 h7 h8 h9
          have hB2 := hBw.trans (h9.below (fun b hb => by rcases hb with rfl | hb; (· omega); (· have := (hvs b hb).1; omega)) (by omega))
          have hpost : KeepsFrom W0.heap.size W W2 ∧ KpA w.heap.size (w.heap.size + 1 + 1 + 1 + 1) W W2 ∧ ICk A at_ n w (pre ++ [x]) W2 := by
            refine ⟨⟨h9.size, fun k o hB hk ho => (h9.block k (Array.getElem?_eq_some_iff.1 hk).1 (fun e => ?_)).trans hk⟩, ⟨h9.size, fun b hb => h9.block b (by omega) (fun e => ?_)⟩, ⟨v2, _, hO2, by rw [List.map_append, hpm, List.map_append]; exact (show ckL at_ n (pre.map (·.1)) ++ [x.1.2.1] = ckL at_ n (pre.map (·.1) ++ [x.1]) by rw [zno, ckStep, if_pos hcond]), hB2, Nat.le_trans hNw h9.size, h9.blk hba1 (by rintro (e | e); (· omega); (· have := (hvs _ e).1; omega)), h9.blk hbn1 (by rintro (e | e); (· omega); (· have := (hvs _ e).1; omega))⟩⟩
            · rcases e with rfl | e
              · omega
              · rw [hob k e o hk] at ho; cases ho
            · rcases e with e | e
              · omega
              · have := (hvs b e).1; omega
          first | exact hpost | (gi_wp2; exact hpost) | exact True.intro
      · have hpost := no (fun h => hc2 h.2)
        gi_wp2
        exact hpost
    · have hpost := no (fun h => hc1 h.1)
      gi_wp2
      exact hpost
  case done =>
    rintro D ys W hD hys ⟨v, ps, hO, hpm, hBw, hNw, hba1, hbn1⟩ hK
    have hc := hO.st.cells.2 0 _ rfl
    have hen := Kept.mk (show isEnsN w.heap.size (chunkA A at_ n) v (W.putObj D (.deferred none)) by
      have h2 := (zla (B := W0.heap.size) (by omega) hO (grownBy_putObj' W D (.deferred none)) (fun r e => by cases e; exact ⟨hD, _, hK, rfl⟩)).ensN (N := w.heap.size) (by omega)
      rw [hpm] at h2
      obtain ⟨y1, y2⟩ := hys
      unfold chunkA
      rw [if_neg (by omega)]
      cases hok : okA A with
      | true =>
        rw [hok, if_pos rfl] at y1 y2
        rw [zcz1 at_ n (by omega) A.slots A.slots.length (ys.map (·.1)) (Nat.le_refl _) (by rw [List.map_map]; exact y1) (by rw [List.map_map, List.take_of_length_le (Nat.le_refl _)]; exact y2), List.take_of_length_le (Nat.le_refl _)] at h2
        exact h2
      | false =>
        rw [hok, if_neg (by decide)] at y1
        have : ys = [] := by have := congrArg List.length y1; simpa using this
        subst this
        exact h2)
    have hbl := Kept.mk (hBw.trans (belowK_b (w := w) (Nat.le_refl _) W D _ (.deferred none) (by omega) hK rfl rfl))
    gi_wp2
    refine ⟨by simp, .inl ⟨_, _, rfl, run_takeDeferred hK, ?_⟩⟩
    exact ⟨_, results_tmp rfl _ _ _, v, rfl, hen.out, hbl.out⟩
  case stop =>
    rintro D c pre W _ _ h _
    exact h.elim
end Go.Proofs.YtkjghoomdefbbaaGreatDoor
end
section
namespace Go.Proofs.YtkjghoomdefbbaaGreatDoor
open Go.RowKit
section
variable {P : Program} {ops : Array Oper} {base : World} {a0 : Act} {Q : Exit → Act → World → Prop} {s0 : Nat} {ups : List Nat} {kn0 kn1 : Nat → VP}
def zgn1 (ops : Array Oper) (base : World) (s0 : Nat) (kn0 kn1 : Nat → VP) (listed : Array Bool) (a : Act) (w : World) : Prop :=
  (listed.getD s0 false = false ∧ Below base.heap.size base w ∧ ∀ j, listed.getD j false = true → FDone ops kn0 a w j) ∨
  (listed.getD s0 false = true ∧ ∃ w1, Below base.heap.size base w1 ∧ Below w1.heap.size w1 w ∧ ∀ j, listed.getD j false = true → FDone ops kn1 a w j)
end
end Go.Proofs.YtkjghoomdefbbaaGreatDoor
end
section
namespace Go.Proofs.YtkjghoomdefbbaaGreatDoor
open Go.RowKit
def anyV : VP := fun _ _ => True
def isNewS (T : TypeId) (z : List Value) (B : Nat) : VP := fun v w => ∃ g, v = .pointer (some ⟨g, 0, none⟩) ∧ B ≤ g ∧ w.heap[g]? = some (.cells z.toArray T (0, 0))
def isTup2 (K : VP) (e : Value) : VP := fun v w => ∃ x, v = .tuple #[x, e] ∧ K x w
def isTup3 (K : VP) (e f : Value) : VP := fun v w => ∃ x, v = .tuple #[x, e, f] ∧ K x w
section
variable {P : Program} {ops : Array Oper} {base : World} {a0 : Act} {Q : Exit → Act → World → Prop} {kn : Nat → VP} {i : Nat} {K : VP}
end
section
variable {P : Program} {ops : Array Oper} {base : World} {a0 : Act} {Q : Exit → Act → World → Prop} {s0 : Nat} {kn0 kn1 : Nat → VP}
end
end Go.Proofs.YtkjghoomdefbbaaGreatDoor
end
section
namespace Go.Proofs.YtkjghoomdefbbaaGreatDoor
open Go.RowKit
def isArT (N : Nat) (A : Ar) : VP := fun v w => ∃ vs vi ps, v = .agg #[.int .i64 A.cap, vs, vi] ∧ w.ownsRow N 48 9 vs ps.length (flatE ps) ∧ ps.map (·.1) = A.slots ∧ w.ownsRow N 3 1 vi A.index.length (A.index.map intC) ∧ RowsOk ps w
theorem isArT.ar {N : Nat} {A : Ar} {v : Value} {w : World} (h : isArT N A v w) : isAr A v w := by
  obtain ⟨vs, vi, ps, rfl, h1, h2, h3, h4⟩ := h
  refine ⟨vs, vi, rfl, by rw [← h2]; exact zjx h1 h4, isOwn.cells (B := N) (e := 3) ?_⟩
  unfold isOwn
  rw [List.length_map]
  exact h3
end Go.Proofs.YtkjghoomdefbbaaGreatDoor
end
section
namespace Go.Proofs.YtkjghoomdefbbaaGreatDoor
open Go.RowKit Go.ChangeShapes Go.WideShapes
theorem zpl {w : World} {a : Addr} {v : Value} (h : w.cell? a = some v) : a = ⟨a.block, a.off, none⟩ := by
  obtain ⟨b, o, s⟩ := a
  cases s with
  | none => rfl
  | some s =>
    simp only [World.cell?] at h
    split at h <;> simp at h
theorem zpn (b o i : Nat) : (⟨b, o, none⟩ : Addr).add i = ⟨b, o + i, none⟩ := by
  by_cases e : i = 0
  · subst e; simp [Addr.add]
  · simp [Addr.add, e]
theorem zuo {w : World} {a : Addr} {len cap : Nat} (cs : List Value) (hl : cs.length = len) (hc : ∀ (i : Nat) (x : Value), cs[i]? = some x → w.cell? (a.add i) = some x) : isCells cs (.slice (some a) len cap) w := by
  cases cs with
  | nil => subst hl; exact .inr (.inl ⟨a, cap, rfl, rfl⟩)
  | cons x cs =>
    have h0 := hc 0 x rfl
    have e0 : a.add 0 = a := by simp [Addr.add]
    rw [e0] at h0
    have ha := zpl h0
    rw [ha] at hc ⊢
    subst hl
    refine .inr (.inr ⟨a.block, a.off, cap, rfl, ?_, fun j y hy => ?_⟩)
    · simp only [World.cell?] at h0
      split at h0
      · rename_i h; exact (Array.getElem?_eq_some_iff.1 h).1
      · simp at h0
    · have := hc j y hy
      rwa [zpn] at this
section
variable {W : World} {H : Type} {enc : TypeId × Value → H} {base : Nat} {spare : Nat → Bool} {held : Bool} {n : Nat}
theorem znh {v : Value} {y : DataW H × List MemPlace} (g : DataW.trod enc Tryz.prog W base spare held n 23 [v] = some y) :
    ∃ l : List Int, isCells (l.map intC) v W ∧ l.length ≤ maxLen ∧ (∀ x ∈ l, (Lit.int .i64 x).wf = true) := by
  rcases open_ints Tryz.underlying23 Tryz.underlying3 (by kernel_rfl) g with ⟨hc, _⟩ | ⟨a, len, cap, zs, hc, _, hl, hm, hz, hx0, hcell, hs⟩
  · injection hc with hc _
    subst hc
    exact ⟨[], .inl ⟨rfl, rfl⟩, Nat.zero_le _, (fun s hs => by simp at hs)⟩
  · injection hc with hc _
    subst hc
    have hle : len ≤ zs.length := by rw [hz]; split <;> omega
    refine ⟨zs.take len, zuo _ (by simp; omega) (fun i x hx => ?_), by simp; omega, (fun s h => hs s (List.mem_of_mem_take h))⟩
    have hi : i < len := by have := (List.getElem?_eq_some_iff.1 hx).1; simp at this; omega
    rw [hcell i (by omega)]
    rw [List.getElem?_map, List.getElem?_take, if_pos hi, List.getElem?_eq_getElem (by omega : i < zs.length)] at hx
    simp only [Option.map_some, Option.some.injEq] at hx
    rw [← hx]
    simp [List.getD_eq_getElem?_getD, show i < zs.length by omega, intC]
end
theorem zfz1 {x : Int} (h : (Lit.int .u64 x).wf = true) : 0 ≤ x ∧ x ≤ 18446744073709551615 := by
  unfold Lit.wf at h
  rw [Bool.and_eq_true] at h
  exact ⟨of_decide_eq_true h.1, of_decide_eq_true h.2⟩
structure CameV (A : Va) : Prop where
  kind : (Lit.int .i64 A.kind).wf = true
  time : (Lit.int .i64 A.time).wf = true
  node : (Lit.int .i64 A.node).wf = true
  text : A.text.length ≤ maxLen
  plus : ∀ x ∈ A.plus, (Lit.int .i64 x).wf = true
  minus : ∀ x ∈ A.minus, (Lit.int .i64 x).wf = true
  np : A.plus.length ≤ maxLen
  nm : A.minus.length ≤ maxLen
end Go.Proofs.YtkjghoomdefbbaaGreatDoor
end
section
namespace Go.Proofs.YtkjghoomdefbbaaGreatDoor
open Go.RowKit
attribute [local irreducible] setN
def zde (A : Va) : Bool := decide (A.plus.length + A.minus.length = 0)
def noRegB (A : Va) : Bool := (A.time == 0) && (A.node == 0) && !A.dead && A.text.isEmpty
theorem zgt (A : Va) (v : Value) (w : World) (hv : isVa A v w) (hF : Fit A) :
    Calls Tryz.prog 113 #[v] w fun e w' => e = .returned (.bool (zde A)) ∧ Below w.heap.size w w' := by
  obtain ⟨vp, vm, rfl, hp, hm⟩ := hv
  obtain ⟨hB, _⟩ := vbox w A vp vm hp hm w.heap.size rfl
  obtain ⟨a, cap, rfl⟩ := hp.len
  obtain ⟨a2, cap2, rfl⟩ := hm.len
  clear hp hm
  rw [List.length_map, List.length_map] at *
  have h1 := hF.plus
  have h2 := hF.minus
  have HS := Kept.mk (show zde A = ((A.plus.length : Int) + (A.minus.length : Int) == 0) by unfold zde; rw [Bool.eq_iff_iff, decide_eq_true_eq, beq_iff_eq]; omega)
  generalize A.plus.length = n1 at *
  generalize A.minus.length = n2 at *
  go_enter Tryz.func113, Tryz.ntmps113
  go_wp2
  go_ret
  exact ⟨by rw [HS.out]; rfl, hB.out⟩
theorem zod (A : Va) (v : Value) (w : World) (hv : isVa A v w) :
    Calls Tryz.prog 115 #[v] w fun e w' => e = .returned (.bool (noRegB A)) ∧ Below w.heap.size w w' := by
  obtain ⟨vp, vm, rfl, hp, hm⟩ := hv
  obtain ⟨hB, _⟩ := vbox w A vp vm hp hm w.heap.size rfl
  clear hp hm
  have HS := Kept.mk (show noRegB A = ((A.time == 0) && (A.node == 0) && !A.dead && A.text.isEmpty) from rfl)
  cases d0 : (A.time == 0) with
  | false =>
    go_enter Tryz.func115, Tryz.ntmps115
    go_wp2
    go_ret
    exact ⟨by rw [HS.out, d0]; rfl, hB.out⟩
  | true =>
    cases d1 : (A.node == 0) with
    | false =>
      go_enter Tryz.func115, Tryz.ntmps115
      go_wp2
      go_ret
      exact ⟨by rw [HS.out, d0, d1]; rfl, hB.out⟩
    | true =>
      cases d2 : A.dead with
      | true =>
        rw [d2] at hB
        go_enter Tryz.func115, Tryz.ntmps115
        go_wp2
        go_ret
        exact ⟨by rw [HS.out, d0, d1, d2]; rfl, hB.out⟩
      | false =>
        rw [d2] at hB
        go_enter Tryz.func115, Tryz.ntmps115
        go_wp2
        go_ret
        exact ⟨by rw [HS.out, d0, d1, d2]; rfl, hB.out⟩
theorem zmi (l : List Int) (v : Value) (w : World) (hv : isCells (l.map intC) v w) (hl : l.length ≤ 1000000) :
    Calls Tryz.prog 114 #[v] w fun e w' => e = .returned (.bool (okRow l)) ∧ w = w' := by
  obtain ⟨a, cap, hva⟩ := hv.len
  rw [List.length_map] at hva
  subst hva
  have HV := Kept.mk hv
  clear hv
  go_enter Tryz.func114, Tryz.ntmps114
  go_wp2
  go_loop [3] (fun i => ∃ k : Nat, k ≤ l.length ∧ i = .int .i64 (k : Int) ∧ Kept ((l.take k).all okNum = true)) (fun i => l.length - (intOf i).toNat)
  case atStart => exact ⟨0, Nat.zero_le _, rfl, ⟨rfl⟩⟩
  case round =>
    obtain ⟨k, hk, rfl, HB⟩ := hrel
    by_cases hlt : k < l.length
    · obtain ⟨b, off, cap', hs, hb, hc⟩ := HV.out.some_ (by rw [List.length_map]; omega)
      rw [List.length_map] at hs
      injection hs with h1 h2 h3
      subst h1 h3
      have hcell := hc k _ (zdu intC l k hlt)
      have HD := Kept.mk (show (l.take (k + 1)).all okNum = ((l.take k).all okNum && okNum l[k]) by rw [List.take_succ_eq_append_getElem hlt, List.all_append]; simp)
      have HM := Kept.mk (List.getElem_mem hlt)
      obtain ⟨x, hx⟩ : ∃ x, x = l[k] := ⟨_, rfl⟩
      rw [← hx] at hcell HD HM
      unfold intC at hcell
      clear hc hx
      have d0 : decide ((k : Int) < (l.length : Int)) = true := by simp; omega
      have bad : okNum x = false → okRow l = false := fun h => by
        unfold okRow
        rw [Bool.and_eq_false_iff]
        right
        rw [List.all_eq_false]
        exact ⟨x, HM.out, by rw [h]; simp⟩
      by_cases hz : x < 0
      · have d : decide (x < 0) = true := by simpa using hz
        have HR := Kept.mk (bad (by unfold okNum; simp; omega))
        clear hz bad
        go_wp2
        all_goals go_ret
        all_goals exact ⟨by rw [HR.out]; rfl, rfl⟩
      · have d : decide (x < 0) = false := by simpa using hz
        by_cases hy : 65535 < x
        · have d2 : decide (65535 < x) = true := by simpa using hy
          have HR := Kept.mk (bad (by unfold okNum; simp; omega))
          clear hz hy bad
          go_wp2
          all_goals go_ret
          all_goals exact ⟨by rw [HR.out]; rfl, rfl⟩
        · have d2 : decide (65535 < x) = false := by simpa using hy
          have HR := Kept.mk (show (l.take (k + 1)).all okNum = true by rw [HD.out, HB.out, Bool.true_and]; unfold okNum; simp; omega)
          clear hz hy bad
          go_wp2
          all_goals go_round
          case rel => exact ⟨k + 1, by omega, by go_num, HR⟩
          case measure => simp [intOf]; omega
    · have HR := Kept.mk (show okRow l = ((l.length : Int) == 8) by
        have := HB.out
        rw [List.take_of_length_le (by omega)] at this
        unfold okRow
        rw [this, Bool.and_true, Bool.eq_iff_iff]
        simp
        omega)
      have d0 : decide ((k : Int) < (l.length : Int)) = false := by simp; omega
      go_wp2
      go_ret
      exact ⟨by rw [HR.out]; rfl, rfl⟩
theorem zmm (fl : UInt64) : fl = 0 ↔ (fl.toNat : Int) = 0 := by
  rw [← UInt64.toNat_inj]
  simp
theorem zzh (l : List UInt8) : (l == []) = l.isEmpty := by cases l <;> rfl
theorem zfj1 (A : Va) (h : A.kind = 1) : okV A = (decide (0 ≤ A.time) && decide (A.time ≤ 2147483647) && decide (0 ≤ A.node) && decide (A.node ≤ 7) && decide ((A.text.length : Int) ≤ 8) && (!A.dead || A.text.isEmpty) && zde A && ((A.flags.toNat : Int) == 0)) := by
  rw [Bool.eq_iff_iff]
  constructor
  · intro ho
    obtain ⟨r1, r2⟩ := zoc ho h
    have e1 : A.plus = [] := congrArg Va.plus r2
    have e2 : A.minus = [] := congrArg Va.minus r2
    have e3 : A.flags = 0 := congrArg Va.flags r2
    unfold inReg at r1
    rw [zzh] at r1
    simp only [Bool.and_eq_true, decide_eq_true_eq] at r1
    obtain ⟨⟨⟨⟨c1, c2⟩, ⟨c3, c4⟩⟩, c5⟩, c6⟩ := r1
    simp only [Bool.and_eq_true, decide_eq_true_eq]
    exact ⟨⟨⟨⟨⟨⟨⟨c1, c2⟩, c3⟩, c4⟩, c5⟩, c6⟩, by unfold zde; rw [e1, e2]; rfl⟩, by rw [e3]; rfl⟩
  · intro hh
    simp only [Bool.and_eq_true, decide_eq_true_eq] at hh
    obtain ⟨⟨⟨⟨⟨⟨⟨c1, c2⟩, c3⟩, c4⟩, c5⟩, c6⟩, c7⟩, c8⟩ := hh
    unfold zde at c7
    simp only [decide_eq_true_eq] at c7
    have e1 : A.plus = [] := List.eq_nil_of_length_eq_zero (by omega)
    have e2 : A.minus = [] := List.eq_nil_of_length_eq_zero (by omega)
    have e3 : A.flags = 0 := (zmm _).2 (by simpa using c8)
    refine zfm1 h ?_ ?_
    · unfold inReg
      rw [zzh]
      simp only [Bool.and_eq_true, decide_eq_true_eq]
      exact ⟨⟨⟨⟨c1, c2⟩, ⟨c3, c4⟩⟩, c5⟩, c6⟩
    · unfold zav
      obtain ⟨k, t, n, d, tx, p, mi, fl⟩ := A
      simp only at h e1 e2 e3
      subst h e1 e2 e3
      rfl
theorem zym (A : Va) (h : A.kind = 2) : okV A = (okRow A.plus && okRow A.minus && noRegB A && ((A.flags.toNat : Int) == 0)) := by
  rw [Bool.eq_iff_iff]
  constructor
  · intro ho
    obtain ⟨r1, r2⟩ := zgk ho h
    have e1 : A.time = 0 := congrArg Va.time r2
    have e2 : A.node = 0 := congrArg Va.node r2
    have e3 : A.flags = 0 := congrArg Va.flags r2
    have e4 : A.dead = false := congrArg Va.dead r2
    have e5 : A.text = [] := congrArg Va.text r2
    unfold zbo at r1
    rw [r1, e3]
    unfold noRegB
    rw [e1, e2, e4, e5]
    rfl
  · intro hh
    simp only [Bool.and_eq_true] at hh
    obtain ⟨⟨⟨c1, c2⟩, c3⟩, c8⟩ := hh
    unfold noRegB at c3
    simp only [Bool.and_eq_true, beq_iff_eq] at c3
    obtain ⟨⟨⟨e1, e2⟩, e4⟩, e5⟩ := c3
    have e3 : A.flags = 0 := (zmm _).2 (by simpa using c8)
    refine ztk h (by unfold zbo; rw [c1, c2]; rfl) ?_
    unfold zbc
    obtain ⟨k, t, n, d, tx, p, mi, fl⟩ := A
    simp only at h e1 e2 e3 e4 e5
    have e4' : d = false := by simpa using e4
    have e5' : tx = [] := by simpa using e5
    subst h e1 e2 e3 e4' e5'
    rfl
theorem zyv (A : Va) (h : A.kind = 3) : okV A = (noRegB A && zde A) := by
  rw [Bool.eq_iff_iff]
  constructor
  · intro ho
    have r2 := znk ho h
    have e1 : A.time = 0 := congrArg Va.time r2
    have e2 : A.node = 0 := congrArg Va.node r2
    have e4 : A.dead = false := congrArg Va.dead r2
    have e5 : A.text = [] := congrArg Va.text r2
    have e6 : A.plus = [] := congrArg Va.plus r2
    have e7 : A.minus = [] := congrArg Va.minus r2
    unfold noRegB zde
    rw [e1, e2, e4, e5, e6, e7]
    rfl
  · intro hh
    simp only [Bool.and_eq_true] at hh
    obtain ⟨c3, c7⟩ := hh
    unfold noRegB at c3
    simp only [Bool.and_eq_true, beq_iff_eq] at c3
    obtain ⟨⟨⟨e1, e2⟩, e4⟩, e5⟩ := c3
    unfold zde at c7
    simp only [decide_eq_true_eq] at c7
    have e6 : A.plus = [] := List.eq_nil_of_length_eq_zero (by omega)
    have e7 : A.minus = [] := List.eq_nil_of_length_eq_zero (by omega)
    refine ztp h ?_
    unfold zbb
    obtain ⟨k, t, n, d, tx, p, mi, fl⟩ := A
    simp only at h e1 e2 e4 e5 e6 e7
    have e4' : d = false := by simpa using e4
    have e5' : tx = [] := by simpa using e5
    subst h e1 e2 e4' e5' e6 e7
    rfl
theorem zub (A : Va) (v : Value) (w : World) (hv : isVa A v w) (hF : Fit A) (hk : A.kind = 1) :
    Calls Tryz.prog 96 #[v] w fun e w' => e = .returned (.bool (okV A)) ∧ Below w.heap.size w w' := by
  obtain ⟨vp, vm, rfl, hp, hm⟩ := hv
  obtain ⟨hB, hV⟩ := vbox w A vp vm hp hm w.heap.size rfl
  have HP := Kept.mk (zac _ _ _ _ hp hB.out)
  have HM := Kept.mk (zac _ _ _ _ hm hB.out)
  have HXa := Kept.mk (show isVa A (.agg #[.int .i64 A.kind, .int .i64 A.time, .int .i64 A.node, .bool A.dead, .string ⟨A.text.toArray⟩, vp, vm, .int .u64 (A.flags.toNat : Int)]) (w.alloc (.cells #[.int .i64 A.kind, .int .i64 A.time, .int .i64 A.node, .bool A.dead, .string ⟨A.text.toArray⟩, vp, vm, .int .u64 (A.flags.toNat : Int)] 46)) from ⟨vp, vm, rfl, HP.out, HM.out⟩)
  clear hp hm
  have HS := Kept.mk (zfj1 A hk)
  have kk : (A.kind == 1) = true := by simpa using hk
  have hsz : (⟨A.text.toArray⟩ : ByteArray).size = A.text.length := zel _
  clear hk
  cases d0 : decide (0 ≤ A.time) with
  | false =>
    go_enter Tryz.func96, Tryz.ntmps96
    go_wp2
    all_goals go_ret
    all_goals exact ⟨by rw [HS.out, d0]; rfl, hB.out⟩
  | true =>
    cases d1 : decide (A.time ≤ 2147483647) with
    | false =>
      go_enter Tryz.func96, Tryz.ntmps96
      go_wp2
      all_goals go_ret
      all_goals exact ⟨by rw [HS.out, d0, d1]; rfl, hB.out⟩
    | true =>
      cases d2 : decide (0 ≤ A.node) with
      | false =>
        go_enter Tryz.func96, Tryz.ntmps96
        go_wp2
        all_goals go_ret
        all_goals exact ⟨by rw [HS.out, d0, d1, d2]; rfl, hB.out⟩
      | true =>
        cases d3 : decide (A.node ≤ 7) with
        | false =>
          go_enter Tryz.func96, Tryz.ntmps96
          go_wp2
          all_goals go_ret
          all_goals exact ⟨by rw [HS.out, d0, d1, d2, d3]; rfl, hB.out⟩
        | true =>
          cases d4 : decide ((A.text.length : Int) ≤ 8) with
          | false =>
            go_enter Tryz.func96, Tryz.ntmps96
            go_wp2
            all_goals go_ret
            all_goals exact ⟨by rw [HS.out, d0, d1, d2, d3, d4]; rfl, hB.out⟩
          | true =>
            cases dd : A.dead with
            | false =>
              rw [dd] at hB hV HXa HS
              have dd2 := Kept.mk dd
              clear dd
              go_enter Tryz.func96, Tryz.ntmps96
              go_wp2_with fail
              ((with_reducible refine (zgt A _ _ HXa.out hF).mono ?_); rintro e w1 ⟨rfl, hb1⟩)
              obtain ⟨q, r, -, -, -, k0, k1, k2, k3, k4, k5, k6, k7⟩ := (hV.out.keep hb1).open_
              replace hB := Kept.mk (hB.out.trans (hb1.mono hB.out.size))
              clear hb1
              cases dn : zde A with
              | false =>
                go_wp2
                all_goals go_ret
                all_goals exact ⟨by rw [HS.out, d0, d1, d2, d3, d4, dn]; rfl, hB.out⟩
              | true =>
                go_wp2
                all_goals go_ret
                all_goals exact ⟨by rw [HS.out, d0, d1, d2, d3, d4, dn]; rfl, hB.out⟩
            | true =>
              rw [dd] at hB hV HXa HS
              clear dd
              cases de : A.text.isEmpty with
              | false =>
                go_enter Tryz.func96, Tryz.ntmps96
                go_wp2
                all_goals go_ret
                all_goals exact ⟨by rw [HS.out, d0, d1, d2, d3, d4, de]; rfl, hB.out⟩
              | true =>
                go_enter Tryz.func96, Tryz.ntmps96
                go_wp2_with fail
                ((with_reducible refine (zgt A _ _ HXa.out hF).mono ?_); rintro e w1 ⟨rfl, hb1⟩)
                obtain ⟨q, r, -, -, -, k0, k1, k2, k3, k4, k5, k6, k7⟩ := (hV.out.keep hb1).open_
                replace hB := Kept.mk (hB.out.trans (hb1.mono hB.out.size))
                clear hb1
                cases dn : zde A with
                | false =>
                  go_wp2
                  all_goals go_ret
                  all_goals exact ⟨by rw [HS.out, d0, d1, d2, d3, d4, de, dn]; rfl, hB.out⟩
                | true =>
                  go_wp2
                  all_goals go_ret
                  all_goals exact ⟨by rw [HS.out, d0, d1, d2, d3, d4, de, dn]; rfl, hB.out⟩
theorem zoi (A : Va) (v : Value) (w : World) (hv : isVa A v w) (hF : Fit A) (hk : A.kind = 2) :
    Calls Tryz.prog 96 #[v] w fun e w' => e = .returned (.bool (okV A)) ∧ Below w.heap.size w w' := by
  obtain ⟨vp, vm, rfl, hp, hm⟩ := hv
  obtain ⟨hB, hV⟩ := vbox w A vp vm hp hm w.heap.size rfl
  have HP := Kept.mk (zac _ _ _ _ hp hB.out)
  have HM := Kept.mk (zac _ _ _ _ hm hB.out)
  have HXa := Kept.mk (show isVa A (.agg #[.int .i64 A.kind, .int .i64 A.time, .int .i64 A.node, .bool A.dead, .string ⟨A.text.toArray⟩, vp, vm, .int .u64 (A.flags.toNat : Int)]) (w.alloc (.cells #[.int .i64 A.kind, .int .i64 A.time, .int .i64 A.node, .bool A.dead, .string ⟨A.text.toArray⟩, vp, vm, .int .u64 (A.flags.toNat : Int)] 46)) from ⟨vp, vm, rfl, HP.out, HM.out⟩)
  clear hp hm
  have HS := Kept.mk (zym A hk)
  have kk : (A.kind == 1) = false := by rw [hk]; decide
  have kk2 : (A.kind == 2) = true := by rw [hk]; decide
  clear hk
  go_enter Tryz.func96, Tryz.ntmps96
  go_wp2_with fail
  ((with_reducible refine (zmi A.plus _ _ HP.out hF.plus).mono ?_); rintro e w1 ⟨rfl, rfl⟩)
  cases d1 : okRow A.plus with
  | false =>
    go_wp2
    all_goals go_ret
    all_goals exact ⟨by rw [HS.out, d1]; rfl, hB.out⟩
  | true =>
    go_wp2_with fail
    ((with_reducible refine (zmi A.minus _ _ HM.out hF.minus).mono ?_); rintro e w1 ⟨rfl, rfl⟩)
    cases d2 : okRow A.minus with
    | false =>
      go_wp2
      all_goals go_ret
      all_goals exact ⟨by rw [HS.out, d1, d2]; rfl, hB.out⟩
    | true =>
      go_wp2_with fail
      ((with_reducible refine (zod A _ _ HXa.out).mono ?_); rintro e w1 ⟨rfl, hb1⟩)
      obtain ⟨q, r, -, -, -, k0, k1, k2, k3, k4, k5, k6, k7⟩ := (hV.out.keep hb1).open_
      replace hB := Kept.mk (hB.out.trans (hb1.mono hB.out.size))
      clear hb1
      cases dn : noRegB A with
      | false =>
        go_wp2
        all_goals go_ret
        all_goals exact ⟨by rw [HS.out, d1, d2, dn]; rfl, hB.out⟩
      | true =>
        go_wp2
        all_goals go_ret
        all_goals exact ⟨by rw [HS.out, d1, d2, dn]; rfl, hB.out⟩
theorem zpv (A : Va) (v : Value) (w : World) (hv : isVa A v w) (hF : Fit A) (hk : A.kind = 3) :
    Calls Tryz.prog 96 #[v] w fun e w' => e = .returned (.bool (okV A)) ∧ Below w.heap.size w w' := by
  obtain ⟨vp, vm, rfl, hp, hm⟩ := hv
  obtain ⟨hB, hV⟩ := vbox w A vp vm hp hm w.heap.size rfl
  have HP := Kept.mk (zac _ _ _ _ hp hB.out)
  have HM := Kept.mk (zac _ _ _ _ hm hB.out)
  have HXa := Kept.mk (show isVa A (.agg #[.int .i64 A.kind, .int .i64 A.time, .int .i64 A.node, .bool A.dead, .string ⟨A.text.toArray⟩, vp, vm, .int .u64 (A.flags.toNat : Int)]) (w.alloc (.cells #[.int .i64 A.kind, .int .i64 A.time, .int .i64 A.node, .bool A.dead, .string ⟨A.text.toArray⟩, vp, vm, .int .u64 (A.flags.toNat : Int)] 46)) from ⟨vp, vm, rfl, HP.out, HM.out⟩)
  clear hp hm
  have HS := Kept.mk (zyv A hk)
  have kk : (A.kind == 1) = false := by rw [hk]; decide
  have kk2 : (A.kind == 2) = false := by rw [hk]; decide
  have kk3 : (A.kind == 3) = true := by rw [hk]; decide
  clear hk
  go_enter Tryz.func96, Tryz.ntmps96
  go_wp2_with fail
  ((with_reducible refine (zod A _ _ HXa.out).mono ?_); rintro e w1 ⟨rfl, hb1⟩)
  obtain ⟨q, r, x1, -, -, k0, k1, k2, k3, k4, k5, k6, k7⟩ := (hV.out.keep hb1).open_
  have X1 := Kept.mk x1
  replace hB := Kept.mk (hB.out.trans (hb1.mono hB.out.size))
  clear hb1 x1
  cases dn : noRegB A with
  | false =>
    go_wp2
    all_goals go_ret
    all_goals exact ⟨by rw [HS.out, dn]; rfl, hB.out⟩
  | true =>
    go_wp2_with fail
    ((with_reducible refine (zgt A _ _ X1.out hF).mono ?_); rintro e w2 ⟨rfl, hb1⟩)
    replace hB := Kept.mk (hB.out.trans (hb1.mono hB.out.size))
    clear hb1 X1 k0 k1 k2 k3 k4 k5 k6 k7
    cases d2 : zde A with
    | false =>
      go_wp2
      all_goals go_ret
      all_goals exact ⟨by rw [HS.out, dn, d2]; rfl, hB.out⟩
    | true =>
      go_wp2
      all_goals go_ret
      all_goals exact ⟨by rw [HS.out, dn, d2]; rfl, hB.out⟩
theorem zrf (A : Va) (v : Value) (w : World) (hv : isVa A v w) (hF : Fit A) (h1 : A.kind ≠ 1) (h2 : A.kind ≠ 2) (h3 : A.kind ≠ 3) :
    Calls Tryz.prog 96 #[v] w fun e w' => e = .returned (.bool (okV A)) ∧ Below w.heap.size w w' := by
  obtain ⟨vp, vm, rfl, hp, hm⟩ := hv
  obtain ⟨hB, hV⟩ := vbox w A vp vm hp hm w.heap.size rfl
  have HP := Kept.mk (zac _ _ _ _ hp hB.out)
  have HM := Kept.mk (zac _ _ _ _ hm hB.out)
  have HXa := Kept.mk (show isVa A (.agg #[.int .i64 A.kind, .int .i64 A.time, .int .i64 A.node, .bool A.dead, .string ⟨A.text.toArray⟩, vp, vm, .int .u64 (A.flags.toNat : Int)]) (w.alloc (.cells #[.int .i64 A.kind, .int .i64 A.time, .int .i64 A.node, .bool A.dead, .string ⟨A.text.toArray⟩, vp, vm, .int .u64 (A.flags.toNat : Int)] 46)) from ⟨vp, vm, rfl, HP.out, HM.out⟩)
  clear hp hm
  have HS := Kept.mk (show okV A = false by unfold okV kindN; rw [if_neg h1, if_neg h2, if_neg h3]; rfl)
  have kk : (A.kind == 1) = false := by simpa using h1
  have kk2 : (A.kind == 2) = false := by simpa using h2
  have kk3 : (A.kind == 3) = false := by simpa using h3
  clear h1 h2 h3
  go_enter Tryz.func96, Tryz.ntmps96
  go_wp2
  all_goals go_ret
  all_goals exact ⟨by rw [HS.out]; rfl, hB.out⟩
theorem zuz (A : Va) (v : Value) (w : World) (hv : isVa A v w) (hF : Fit A) :
    Calls Tryz.prog 96 #[v] w fun e w' => e = .returned (.bool (okV A)) ∧ Below w.heap.size w w' := by
  by_cases h1 : A.kind = 1
  · exact zub A v w hv hF h1
  · by_cases h2 : A.kind = 2
    · exact zoi A v w hv hF h2
    · by_cases h3 : A.kind = 3
      · exact zpv A v w hv hF h3
      · exact zrf A v w hv hF h1 h2 h3
end Go.Proofs.YtkjghoomdefbbaaGreatDoor
end
section
namespace Go.Proofs.YtkjghoomdefbbaaGreatDoor
open Go.RowKit
noncomputable def refIntsops : Array Oper := zat Tryz.f63 6
theorem zgn (Q : Exit → Act → World → Prop) (a0 : Act) (w0 : World) (hsz : a0.tmps.size = 26) (b1 o1 c1 b2 o2 c2 n j : Nat) (x y : Int) (z : Bool)
    (e0 : a0.tmps.getD 0 undef = .slice (some ⟨b1, o1, none⟩) n c1) (e1 : a0.tmps.getD 1 undef = .slice (some ⟨b2, o2, none⟩) n c2) (e5 : a0.tmps.getD 5 undef = .int .i64 (j : Int)) (hj : j < n)
    (p1 : w0.cell? ⟨b1, o1 + j, none⟩ = some (.int .i64 x)) (l1 : b1 < w0.heap.size) (p2 : w0.cell? ⟨b2, o2 + j, none⟩ = some (.int .i64 y)) (l2 : b2 < w0.heap.size) (hz : (x != y) = z)
    (hQ : ∀ (f : Nat → Value) (w : World), f 25 = .bool z → Below w0.heap.size w0 w → Q .normal { tmps := [17, 18, 19, 20, 21, 22, 23, 24, 25].foldl (fun t s => t.setIfInBounds s (f s)) a0.tmps, defers := a0.defers } w) :
    (Code.region 6 refIntsops true).wp Tryz.prog Q a0 w0 := by
  refine zam mixed (by rw [hsz]; kernel_rfl) ?_
  rw [show refIntsops.size = 9 by kernel_rfl]
  refine ⟨isVal (.slice (some ⟨b1, o1, none⟩) n c1), zag (.tmp 0) (by kernel_rfl) (zaa (by kernel_rfl)) (zad _) (zaf 0 (.slice (some ⟨b1, o1, none⟩) n c1) (by kernel_rfl) e0), ?_⟩
  refine ⟨isVal (.int .i64 (j : Int)), zag (.tmp 5) (by kernel_rfl) (zaa (by kernel_rfl)) (zad _) (zaf 5 (.int .i64 (j : Int)) (by kernel_rfl) e5), ?_⟩
  refine ⟨isVal (.pointer (some ⟨b1, o1 + j, none⟩)), zdt 23 3 (.tmp 17) (.tmp 18) b1 o1 n c1 j (by kernel_rfl) (zaa (by kernel_rfl)) (zab (V := isVal (.slice (some ⟨b1, o1, none⟩) n c1)) 17 0 (by kernel_rfl) (by kernel_rfl) (by kernel_rfl)) (zab (V := isVal (.int .i64 (j : Int))) 18 1 (by kernel_rfl) (by kernel_rfl) (by kernel_rfl)) Tryz.underlying23 (by kernel_rfl) hj, ?_⟩
  refine ⟨isVal (.int .i64 x), zaj 3 (.tmp 19) ⟨b1, o1 + j, none⟩ (.int .i64 x) (by kernel_rfl) (zaa (by kernel_rfl)) (zab (V := isVal (.pointer (some ⟨b1, o1 + j, none⟩))) 19 2 (by kernel_rfl) (by kernel_rfl) (by kernel_rfl)) p1 l1 zdj, ?_⟩
  refine ⟨isVal (.slice (some ⟨b2, o2, none⟩) n c2), zag (.tmp 1) (by kernel_rfl) (zaa (by kernel_rfl)) (zad _) (zaf 1 (.slice (some ⟨b2, o2, none⟩) n c2) (by kernel_rfl) e1), ?_⟩
  refine ⟨isVal (.int .i64 (j : Int)), zag (.tmp 5) (by kernel_rfl) (zaa (by kernel_rfl)) (zad _) (zaf 5 (.int .i64 (j : Int)) (by kernel_rfl) e5), ?_⟩
  refine ⟨isVal (.pointer (some ⟨b2, o2 + j, none⟩)), zdt 23 3 (.tmp 21) (.tmp 22) b2 o2 n c2 j (by kernel_rfl) (zaa (by kernel_rfl)) (zab (V := isVal (.slice (some ⟨b2, o2, none⟩) n c2)) 21 4 (by kernel_rfl) (by kernel_rfl) (by kernel_rfl)) (zab (V := isVal (.int .i64 (j : Int))) 22 5 (by kernel_rfl) (by kernel_rfl) (by kernel_rfl)) Tryz.underlying23 (by kernel_rfl) hj, ?_⟩
  refine ⟨isVal (.int .i64 y), zaj 3 (.tmp 23) ⟨b2, o2 + j, none⟩ (.int .i64 y) (by kernel_rfl) (zaa (by kernel_rfl)) (zab (V := isVal (.pointer (some ⟨b2, o2 + j, none⟩))) 23 6 (by kernel_rfl) (by kernel_rfl) (by kernel_rfl)) p2 l2 zdj, ?_⟩
  refine ⟨isVal (.bool z), zas .neq 3 3 (.tmp 20) (.tmp 24) (.int .i64 x) (.int .i64 y) (.bool z) (by kernel_rfl) (zaa (by kernel_rfl)) (zab (V := isVal (.int .i64 x)) 20 3 (by kernel_rfl) (by kernel_rfl) (by kernel_rfl)) (zab (V := isVal (.int .i64 y)) 24 7 (by kernel_rfl) (by kernel_rfl) (by kernel_rfl)) (fun _ => rfl) (zef1 _ _ _ _ _ hz), ?_⟩
  intro a w hkp hb hd
  rw [zbg hkp ((List.range 9).map fun i => some (i + 17)) [17, 18, 19, 20, 21, 22, 23, 24, 25] (by kernel_rfl) (by decide)]
  exact hQ (fun s => a.tmps.getD s undef) w (zal (hd 8 (by rw [show refIntsops.size = 9 by kernel_rfl]; decide)) (t := 25) (V := isVal (.bool z)) (by kernel_rfl) (by kernel_rfl)) hb
theorem zhb (l m : List (Int)) (v u : Value) (w : World) (hv : isCells (l.map intC) v w) (hu : isCells (m.map intC) u w) (h1 : l.length ≤ 1000000000) (h2 : m.length ≤ 1000000000) :
    Calls Tryz.prog 63 #[v, u] w fun e w' => e = .returned (.bool (decide (l = m))) ∧ Below w.heap.size w w' := by
  by_cases hlen : l.length = m.length
  case neg =>
    obtain ⟨a, cap, rfl⟩ := hv.len
    obtain ⟨b, cap2, rfl⟩ := hu.len
    rw [List.length_map, List.length_map]
    have HN := Kept.mk (show decide (l = m) = false by simp; rintro rfl; exact hlen rfl)
    have d1 : ((l.length : Int) != (m.length : Int)) = true := by simp [bne]; omega
    clear hv hu hlen
    go_enter Tryz.func63, Tryz.ntmps63
    go_wp2
    go_ret
    exact ⟨by rw [HN.out]; rfl, Below.refl _ _⟩
  by_cases h0 : l = []
  · subst h0
    obtain rfl : m = [] := List.eq_nil_of_length_eq_zero (by simpa using hlen.symm)
    obtain ⟨a, cap, rfl⟩ := hv.len
    obtain ⟨b, cap2, rfl⟩ := hu.len
    clear hv hu
    simp only [List.map_nil, List.length_nil]
    go_enter Tryz.func63, Tryz.ntmps63
    go_wp2
    go_loop [5] (fun i => i = .int .i64 0) (fun _ => 0)
    case atStart => rfl
    case round =>
      subst hrel
      go_wp2
      go_ret
      exact ⟨by simp, Below.refl _ _⟩
  · have hl0 : 0 < l.length := List.length_pos_iff.2 h0
    obtain ⟨b1, o1, c1, hv', l1, hc1⟩ := hv.some_ (by simpa using hl0)
    obtain ⟨b2, o2, c2, hu', l2, hc2⟩ := hu.some_ (by rw [List.length_map]; omega)
    rw [List.length_map] at hv' hu'
    subst hv' hu'
    have HM := Kept.mk hlen
    have hmn : m.length = l.length := hlen.symm
    rw [hmn]
    obtain ⟨n, hn⟩ : ∃ n, n = l.length := ⟨_, rfl⟩
    have HN := Kept.mk hn
    rw [← hn] at h1 hl0 ⊢
    have HC1 := Kept.mk hc1
    have HC2 := Kept.mk hc2
    have hB : Below w.heap.size w w := Below.refl _ _
    clear hv hu hlen hmn hn hc1 hc2 h0
    go_enter Tryz.func63, Tryz.ntmps63
    go_wp2
    go_loopw [5] (fun i wr => ∃ j : Nat, j ≤ n ∧ i = .int .i64 (j : Int) ∧ Kept (l.take j = m.take j) ∧ Below w.heap.size w wr) (fun i _ => n - (intOf i).toNat)
    case atStart => exact ⟨0, Nat.zero_le _, rfl, ⟨rfl⟩, hB⟩
    case round =>
      clear hB
      obtain ⟨j, hj, rfl, HT, hB⟩ := hrel
      by_cases hlt : j < n
      · have d1 : decide ((j : Int) < (n : Int)) = true := by simpa using hlt
        have HA := Kept.mk (show j < l.length by rw [← HN.out]; exact hlt)
        have HB := Kept.mk (show j < m.length by rw [← HM.out, ← HN.out]; exact hlt)
        have q1 := Kept.mk ((hB.cell (p := ⟨b1, o1 + j, none⟩) l1).trans (HC1.out j _ (zdu intC l j HA.out)))
        have q2 := Kept.mk ((hB.cell (p := ⟨b2, o2 + j, none⟩) l2).trans (HC2.out j _ (zdu intC m j HB.out)))
        cases hz : (l[j]'HA.out != m[j]'HB.out) with
        | true =>
          have HR := Kept.mk (show decide (l = m) = false by
            simp only [decide_eq_false_iff_not]
            rintro rfl
            simp at hz)
          have HZ := Kept.mk hz
          clear hz
          go_wp2_with fail
          refine zgn _ _ _ rfl b1 o1 c1 b2 o2 c2 n j _ _ true rfl rfl rfl hlt q1.out (Nat.lt_of_lt_of_le l1 hB.size) q2.out (Nat.lt_of_lt_of_le l2 hB.size) HZ.out ?_
          clear q1 q2 HZ
          intro f9 W9 hg hb9
          replace hB := hB.trans (hb9.mono hB.size)
          clear hb9
          simp only [List.foldl_cons, List.foldl_nil, hg]
          generalize f9 17 = y17
          generalize f9 18 = y18
          generalize f9 19 = y19
          generalize f9 20 = y20
          generalize f9 21 = y21
          generalize f9 22 = y22
          generalize f9 23 = y23
          generalize f9 24 = y24
          clear hg
          simp only [List.setIfInBounds_toArray, List.set_cons_succ, List.set_cons_zero]
          go_wp2
          go_ret
          exact ⟨by rw [HR.out]; rfl, hB⟩
        | false =>
          have HR := Kept.mk (show l.take (j + 1) = m.take (j + 1) by
            rw [List.take_succ_eq_append_getElem HA.out, List.take_succ_eq_append_getElem HB.out, HT.out]
            simp at hz
            rw [hz])
          have HZ := Kept.mk hz
          clear hz HT
          go_wp2_with fail
          refine zgn _ _ _ rfl b1 o1 c1 b2 o2 c2 n j _ _ false rfl rfl rfl hlt q1.out (Nat.lt_of_lt_of_le l1 hB.size) q2.out (Nat.lt_of_lt_of_le l2 hB.size) HZ.out ?_
          clear q1 q2 HZ
          intro f9 W9 hg hb9
          replace hB := hB.trans (hb9.mono hB.size)
          clear hb9
          simp only [List.foldl_cons, List.foldl_nil, hg]
          generalize f9 17 = y17
          generalize f9 18 = y18
          generalize f9 19 = y19
          generalize f9 20 = y20
          generalize f9 21 = y21
          generalize f9 22 = y22
          generalize f9 23 = y23
          generalize f9 24 = y24
          clear hg
          simp only [List.setIfInBounds_toArray, List.set_cons_succ, List.set_cons_zero]
          go_wp2
          go_roundw
          case rel => exact ⟨j + 1, by omega, by go_num, HR, hB⟩
          case measure => simp [intOf]; omega
      · have d1 : decide ((j : Int) < (n : Int)) = false := by simp; omega
        have HR := Kept.mk (show decide (l = m) = true by
          have h := HT.out
          rw [List.take_of_length_le (by rw [← HN.out]; omega), List.take_of_length_le (by rw [← HM.out, ← HN.out]; omega)] at h
          simpa using h)
        go_wp2
        go_ret
        exact ⟨by rw [HR.out]; rfl, hB⟩
end Go.Proofs.YtkjghoomdefbbaaGreatDoor
end
section
namespace Go.Proofs.YtkjghoomdefbbaaGreatDoor
open Go.RowKit
attribute [local irreducible] setN
theorem zqv (A B : Va) : decide (A = B) = ((A.kind == B.kind) && (A.time == B.time) && (A.node == B.node) && (A.dead == B.dead) && (A.text == B.text) && ((A.flags.toNat : Int) == (B.flags.toNat : Int)) && decide (A.plus = B.plus) && decide (A.minus = B.minus)) := by
  rw [zml]
  generalize (A.kind == B.kind) = a
  generalize (A.time == B.time) = b
  generalize (A.node == B.node) = c
  generalize (A.dead == B.dead) = d
  generalize (A.text == B.text) = e
  generalize decide (A.plus = B.plus) = f
  generalize decide (A.minus = B.minus) = g
  generalize ((A.flags.toNat : Int) == (B.flags.toNat : Int)) = h
  cases a <;> cases b <;> cases c <;> cases d <;> cases e <;> cases f <;> cases g <;> cases h <;> rfl
theorem zzq (A B : Va) (v u : Value) (w : World) (hv : isVa A v w) (hu : isVa B u w) (hA : Fit A) (hC : Fit B) :
    Calls Tryz.prog 69 #[v, u] w fun e w' => e = .returned (.bool (decide (A = B))) ∧ Below w.heap.size w w' := by
  have hv0 := hv
  have hu0 := hu
  obtain ⟨pa, ma, rfl, hpa, hma⟩ := hv
  obtain ⟨pb, mb, rfl, hpb, hmb⟩ := hu
  obtain ⟨hB, Va⟩ := vbox w A pa ma hpa hma (w.heap.size) (by simp)
  obtain ⟨hBn, Vb⟩ := vbox (w.alloc (.cells #[.int .i64 A.kind, .int .i64 A.time, .int .i64 A.node, .bool A.dead, .string ⟨A.text.toArray⟩, pa, ma, .int .u64 (A.flags.toNat : Int)] 46)) B pb mb (zac _ _ _ _ hpb hB.out) (zac _ _ _ _ hmb hB.out) (w.heap.size + 1) (by simp)
  replace Va := Kept.mk (Va.out.keep hBn.out)
  replace hB := Kept.mk (hB.out.trans (hBn.out.mono hB.out.size))
  clear hBn
  clear hpa hma hpb hmb
  have HS := Kept.mk (zqv A B)
  have HA0 := Kept.mk (zdg hv0 hB.out)
  have HU0 := Kept.mk (zdg hu0 hB.out)
  clear hv0 hu0
  cases d0 : (A.kind == B.kind) with
  | false =>
    go_enter Tryz.func69, Tryz.ntmps69
    go_wp2
    all_goals go_ret
    all_goals exact ⟨by rw [HS.out, d0]; rfl, hB.out⟩
  | true =>
    cases d1 : (A.time == B.time) with
    | false =>
      go_enter Tryz.func69, Tryz.ntmps69
      go_wp2
      all_goals go_ret
      all_goals exact ⟨by rw [HS.out, d0, d1]; rfl, hB.out⟩
    | true =>
      cases d2 : (A.node == B.node) with
      | false =>
        go_enter Tryz.func69, Tryz.ntmps69
        go_wp2
        all_goals go_ret
        all_goals exact ⟨by rw [HS.out, d0, d1, d2]; rfl, hB.out⟩
      | true =>
        cases d3 : (A.dead == B.dead) with
        | false =>
          go_enter Tryz.func69, Tryz.ntmps69
          go_wp2
          all_goals go_ret
          all_goals exact ⟨by rw [HS.out, d0, d1, d2, d3]; rfl, hB.out⟩
        | true =>
          cases d4 : (A.text == B.text) with
          | false =>
            go_enter Tryz.func69, Tryz.ntmps69
            go_wp2
            all_goals go_ret
            all_goals exact ⟨by rw [HS.out, d0, d1, d2, d3, d4]; rfl, hB.out⟩
          | true =>
            cases d5 : ((A.flags.toNat : Int) == (B.flags.toNat : Int)) with
            | false =>
              go_enter Tryz.func69, Tryz.ntmps69
              go_wp2
              all_goals go_ret
              all_goals exact ⟨by rw [HS.out, d0, d1, d2, d3, d4, d5]; rfl, hB.out⟩
            | true =>
              go_enter Tryz.func69, Tryz.ntmps69
              go_wp2_with fail
              generalize (w.alloc (.cells #[.int .i64 A.kind, .int .i64 A.time, .int .i64 A.node, .bool A.dead, .string ⟨A.text.toArray⟩, pa, ma, .int .u64 (A.flags.toNat : Int)] 46)).alloc (.cells #[.int .i64 B.kind, .int .i64 B.time, .int .i64 B.node, .bool B.dead, .string ⟨B.text.toArray⟩, pb, mb, .int .u64 (B.flags.toNat : Int)] 46) = W0 at *
              obtain ⟨_, _, e1, e2, e3⟩ := HA0.out
              obtain ⟨_, _, e4, e5, e6⟩ := HU0.out
              cases e1
              cases e4
              ((with_reducible refine (zhb A.plus B.plus _ _ _ e2 e5 (by have := hA.plus; omega) (by have := hC.plus; omega)).mono ?_); rintro e W1 ⟨rfl, hb1⟩)
              replace hB := Kept.mk (hB.out.trans ((hb1).mono hB.out.size))
              replace Va := Kept.mk (Va.out.keep (hb1))
              replace Vb := Kept.mk (Vb.out.keep (hb1))
              clear hb1 e2 e3 e5 e6 HA0 HU0
              cases d6 : decide (A.plus = B.plus) with
              | false =>
                go_wp2
                all_goals go_ret
                all_goals exact ⟨by rw [HS.out, d0, d1, d2, d3, d4, d5, d6]; rfl, hB.out⟩
              | true =>
                obtain ⟨qa, ra, -, -, ma2, ka0, ka1, ka2, ka3, ka4, ka5, ka6, ka7⟩ := Va.out.open_
                obtain ⟨qb, rb, -, -, mb2, kb0, kb1, kb2, kb3, kb4, kb5, kb6, kb7⟩ := Vb.out.open_
                go_wp2_with fail
                ((with_reducible refine (zhb A.minus B.minus _ _ _ ma2.out mb2.out (by have := hA.minus; omega) (by have := hC.minus; omega)).mono ?_); rintro e W2 ⟨rfl, hb1⟩)
                clear ma2 mb2 ka0 ka1 ka2 ka3 ka4 ka5 ka6 ka7 kb0 kb1 kb2 kb3 kb4 kb5 kb6 kb7
                replace hB := Kept.mk (hB.out.trans ((hb1).mono hB.out.size))
                replace Va := Kept.mk (Va.out.keep (hb1))
                replace Vb := Kept.mk (Vb.out.keep (hb1))
                clear hb1
                obtain ⟨z, hz⟩ : ∃ z, z = decide (A.minus = B.minus) := ⟨_, rfl⟩
                rw [← hz] at HS ⊢
                clear hz
                go_wp2
                all_goals go_ret
                all_goals exact ⟨by rw [HS.out, d0, d1, d2, d3, d4, d5, d6]; rfl, hB.out⟩
end Go.Proofs.YtkjghoomdefbbaaGreatDoor
end
section
namespace Go.Proofs.YtkjghoomdefbbaaGreatDoor
open Go.RowKit
attribute [local irreducible] setN
theorem zyq (A B : En) (v u : Value) (w : World) (hv : isEn A v w) (hu : isEn B u w) : Calls Tryz.prog 95 #[v, u] w fun e w' => e = .returned (.bool (lessE A B)) ∧ Below w.heap.size w w' := by
  obtain ⟨pa, ma, rfl, hpa, hma⟩ := hv
  obtain ⟨pb, mb, rfl, hpb, hmb⟩ := hu
  obtain ⟨hB, Va⟩ := ebox w A pa ma hpa hma (w.heap.size) (by simp)
  obtain ⟨hBn, Vb⟩ := ebox (w.alloc (.cells #[.string ⟨A.key.toArray⟩, .int .i64 A.val.kind, .int .i64 A.val.time, .int .i64 A.val.node, .bool A.val.dead, .string ⟨A.val.text.toArray⟩, pa, ma, .int .u64 (A.val.flags.toNat : Int)] 48)) B pb mb (zac _ _ _ _ hpb hB.out) (zac _ _ _ _ hmb hB.out) (w.heap.size + 1) (by simp)
  replace Va := Kept.mk (Va.out.keep hBn.out)
  replace hB := Kept.mk (hB.out.trans (hBn.out.mono hB.out.size))
  clear hBn
  clear hpa hma hpb hmb
  obtain ⟨qa, ra, xa, ya, ka0, ka1, ka2, ka3, ka4, ka5, ka6, ka7, ka8⟩ := Va.out.open_
  have Xa := Kept.mk xa
  have Ya := Kept.mk ya
  clear xa ya
  obtain ⟨qb, rb, xb, yb, kb0, kb1, kb2, kb3, kb4, kb5, kb6, kb7, kb8⟩ := Vb.out.open_
  have Xb := Kept.mk xb
  have Yb := Kept.mk yb
  clear xb yb
  cases hk : (A.val.kind == B.val.kind) with
  | true =>
    have HC := Kept.mk (show lessE A B = Op.bytesLess A.key B.key by unfold lessE; rw [if_pos (by simpa using hk)])
    go_enter Tryz.func95, Tryz.ntmps95
    go_wp2
    go_ret
    exact ⟨by rw [HC.out]; rfl, hB.out⟩
  | false =>
    have HC := Kept.mk (show lessE A B = decide (A.val.kind < B.val.kind) by unfold lessE; rw [if_neg (by simpa using hk)])
    go_enter Tryz.func95, Tryz.ntmps95
    go_wp2
    go_ret
    exact ⟨by rw [HC.out]; rfl, hB.out⟩
theorem zva (A B : En) (v u : Value) (w : World) (hv : isEn A v w) (hu : isEn B u w) (hA : Fit A.val) (hF : Fit B.val) : Calls Tryz.prog 38 #[v, u] w fun e w' => e = .returned (.bool (decide (A = B))) ∧ Below w.heap.size w w' := by
  have HS := Kept.mk (zyr A B)
  obtain ⟨pa, ma, rfl, hpa, hma⟩ := hv
  obtain ⟨pb, mb, rfl, hpb, hmb⟩ := hu
  obtain ⟨hB, Va⟩ := ebox w A pa ma hpa hma (w.heap.size) (by simp)
  obtain ⟨hBn, Vb⟩ := ebox (w.alloc (.cells #[.string ⟨A.key.toArray⟩, .int .i64 A.val.kind, .int .i64 A.val.time, .int .i64 A.val.node, .bool A.val.dead, .string ⟨A.val.text.toArray⟩, pa, ma, .int .u64 (A.val.flags.toNat : Int)] 48)) B pb mb (zac _ _ _ _ hpb hB.out) (zac _ _ _ _ hmb hB.out) (w.heap.size + 1) (by simp)
  replace Va := Kept.mk (Va.out.keep hBn.out)
  replace hB := Kept.mk (hB.out.trans (hBn.out.mono hB.out.size))
  clear hBn
  clear hpa hma hpb hmb
  obtain ⟨qa, ra, xa, ya, ka0, ka1, ka2, ka3, ka4, ka5, ka6, ka7, ka8⟩ := Va.out.open_
  have Xa := Kept.mk xa
  have Ya := Kept.mk ya
  clear xa ya
  obtain ⟨qb, rb, xb, yb, kb0, kb1, kb2, kb3, kb4, kb5, kb6, kb7, kb8⟩ := Vb.out.open_
  have Xb := Kept.mk xb
  have Yb := Kept.mk yb
  clear xb yb
  cases hk : (A.key == B.key) with
  | false =>
    go_enter Tryz.func38, Tryz.ntmps38
    go_wp2
    go_ret
    exact ⟨by rw [HS.out, hk]; rfl, hB.out⟩
  | true =>
    have HK := Kept.mk hk
    go_enter Tryz.func38, Tryz.ntmps38
    go_wp2_with fail
    refine (zzq A.val B.val _ _ _ Ya.out Yb.out hA hF).mono ?_
    rintro e W1 ⟨rfl, hb1⟩
    replace hB := Kept.mk (hB.out.trans (hb1.mono hB.out.size))
    clear hb1 Xa Xb Ya Yb Va Vb ka0 ka1 ka2 ka3 ka4 ka5 ka6 ka7 ka8 kb0 kb1 kb2 kb3 kb4 kb5 kb6 kb7 kb8
    generalize hz : decide (A.val = B.val) = z
    have HV := Kept.mk hz
    clear hz
    go_wp2
    go_ret
    exact ⟨by rw [HS.out, HK.out, HV.out]; rfl, hB.out⟩
theorem zpt (E : En) (v : Value) (w : World) (hv : isEn E v w) (hF : FitE E) : Calls Tryz.prog 65 #[v] w fun e w' => e = .returned (.bool (okE E)) ∧ Below w.heap.size w w' := by
  have hk := hF.key
  have hs : (⟨E.key.toArray⟩ : ByteArray).size = E.key.length := by simp [ByteArray.size]
  obtain ⟨pe, me, rfl, hpe, hme⟩ := hv
  obtain ⟨hB, Ve⟩ := ebox w E pe me hpe hme (w.heap.size) (by simp)
  clear hpe hme
  obtain ⟨qe, re, xe, ye, ke0, ke1, ke2, ke3, ke4, ke5, ke6, ke7, ke8⟩ := Ve.out.open_
  have Xe := Kept.mk xe
  have Ye := Kept.mk ye
  clear xe ye
  by_cases h1 : (1 : Int) ≤ E.key.length
  · have d1 : decide ((1 : Int) ≤ E.key.length) = true := by simpa using h1
    by_cases h8 : (E.key.length : Int) ≤ 8
    · have d8 : decide ((E.key.length : Int) ≤ 8) = true := by simpa using h8
      have HC := Kept.mk (show okE E = okV E.val by unfold okE; rw [show decide (1 ≤ E.key.length) = true by rw [decide_eq_true_eq]; omega, show decide (E.key.length ≤ 8) = true by simp; omega]; rfl)
      go_enter Tryz.func65, Tryz.ntmps65
      go_wp2_with fail
      refine (zuz E.val _ _ Ye.out hF.val).mono ?_
      rintro e W1 ⟨rfl, hb1⟩
      replace hB := Kept.mk (hB.out.trans (hb1.mono hB.out.size))
      clear hb1 Xe Ye ke0 ke1 ke2 ke3 ke4 ke5 ke6 ke7 ke8 Ve
      generalize hcv : okV E.val = cv
      have HV := Kept.mk hcv
      clear hcv
      go_wp2
      go_ret
      exact ⟨by rw [HC.out, HV.out]; rfl, hB.out⟩
    · have d8 : decide ((E.key.length : Int) ≤ 8) = false := by simpa using h8
      have HC := Kept.mk (show okE E = false by unfold okE; rw [show decide (E.key.length ≤ 8) = false by simp; omega]; simp)
      go_enter Tryz.func65, Tryz.ntmps65
      go_wp2
      go_ret
      exact ⟨by rw [HC.out]; rfl, hB.out⟩
  · have d1 : decide ((1 : Int) ≤ E.key.length) = false := by simpa using h1
    have HC := Kept.mk (show okE E = false by unfold okE; rw [show decide (1 ≤ E.key.length) = false by rw [decide_eq_false_iff_not]; omega]; simp)
    go_enter Tryz.func65, Tryz.ntmps65
    go_wp2
    go_ret
    exact ⟨by rw [HC.out]; rfl, hB.out⟩
theorem zxv (A B : En) (v u : Value) (w : World) (hv : isEn A v w) (hu : isEn B u w) : Calls Tryz.prog 94 #[v, u] w fun e w' => e = .returned (.bool (nameB A B)) ∧ Below w.heap.size w w' := by
  obtain ⟨pa, ma, rfl, hpa, hma⟩ := hv
  obtain ⟨pb, mb, rfl, hpb, hmb⟩ := hu
  obtain ⟨hB, Va⟩ := ebox w A pa ma hpa hma (w.heap.size) (by simp)
  obtain ⟨hBn, Vb⟩ := ebox (w.alloc (.cells #[.string ⟨A.key.toArray⟩, .int .i64 A.val.kind, .int .i64 A.val.time, .int .i64 A.val.node, .bool A.val.dead, .string ⟨A.val.text.toArray⟩, pa, ma, .int .u64 (A.val.flags.toNat : Int)] 48)) B pb mb (zac _ _ _ _ hpb hB.out) (zac _ _ _ _ hmb hB.out) (w.heap.size + 1) (by simp)
  replace Va := Kept.mk (Va.out.keep hBn.out)
  replace hB := Kept.mk (hB.out.trans (hBn.out.mono hB.out.size))
  clear hBn
  clear hpa hma hpb hmb
  obtain ⟨qa, ra, xa, ya, ka0, ka1, ka2, ka3, ka4, ka5, ka6, ka7, ka8⟩ := Va.out.open_
  have Xa := Kept.mk xa
  have Ya := Kept.mk ya
  clear xa ya
  obtain ⟨qb, rb, xb, yb, kb0, kb1, kb2, kb3, kb4, kb5, kb6, kb7, kb8⟩ := Vb.out.open_
  have Xb := Kept.mk xb
  have Yb := Kept.mk yb
  clear xb yb
  cases hk : (A.val.kind == B.val.kind) with
  | false =>
    have HC := Kept.mk (show nameB A B = false by unfold nameB; rw [show decide (A.val.kind = B.val.kind) = false by simpa using hk]; rfl)
    go_enter Tryz.func94, Tryz.ntmps94
    go_wp2
    go_ret
    exact ⟨by rw [HC.out]; rfl, hB.out⟩
  | true =>
    have HC := Kept.mk (show nameB A B = (A.key == B.key) by unfold nameB; rw [show decide (A.val.kind = B.val.kind) = true by simpa using hk, Bool.true_and]; by_cases h : A.key = B.key <;> simp [h])
    go_enter Tryz.func94, Tryz.ntmps94
    go_wp2
    go_ret
    exact ⟨by rw [HC.out]; rfl, hB.out⟩
end Go.Proofs.YtkjghoomdefbbaaGreatDoor
end
section
namespace Go.Proofs.YtkjghoomdefbbaaGreatDoor
open Go.RowKit
attribute [local irreducible] setN
def isEnR (B : Nat) (E : En) : VP := fun v w => ∃ vp vm, v = .agg #[.string ⟨E.key.toArray⟩, .int .i64 E.val.kind, .int .i64 E.val.time, .int .i64 E.val.node, .bool E.val.dead, .string ⟨E.val.text.toArray⟩, vp, vm, .int .u64 (E.val.flags.toNat : Int)] ∧ isCells (E.val.plus.map intC) vp w ∧ isCells (E.val.minus.map intC) vm w ∧ (E.val.plus ≠ [] → NewB B vp) ∧ (E.val.minus ≠ [] → NewB B vm)
theorem isEnR.en {B : Nat} {E : En} {v : Value} {w : World} (h : isEnR B E v w) : isEn E v w := let ⟨p, m, e, h1, h2, _, _⟩ := h; ⟨p, m, e, h1, h2⟩
theorem isEnR.low {B B' : Nat} {E : En} {v : Value} {w : World} (h : isEnR B E v w) (hB : B' ≤ B) : isEnR B' E v w := let ⟨p, m, e, h1, h2, h3, h4⟩ := h; ⟨p, m, e, h1, h2, fun x => (h3 x).low hB, fun x => (h4 x).low hB⟩
structure JS3 (w W : World) (A B : En) (pa ma pb mb : Value) : Prop where
  hb : Below w.heap.size w W
  a : Blk W w.heap.size [.string ⟨A.key.toArray⟩, .int .i64 A.val.kind, .int .i64 A.val.time, .int .i64 A.val.node, .bool A.val.dead, .string ⟨A.val.text.toArray⟩, pa, ma, .int .u64 (A.val.flags.toNat : Int)]
  b : Blk W (w.heap.size + 1) [.string ⟨B.key.toArray⟩, .int .i64 B.val.kind, .int .i64 B.val.time, .int .i64 B.val.node, .bool B.val.dead, .string ⟨B.val.text.toArray⟩, pb, mb, .int .u64 (B.val.flags.toNat : Int)]
  r : Blk W (w.heap.size + 1 + 1) [.string ⟨#[]⟩, .int .i64 0, .int .i64 0, .int .i64 0, .bool false, .string ⟨#[]⟩, .slice none 0 0, .slice none 0 0, .int .u64 0]
theorem JS3.keep {w W W' : World} {A B : En} {pa ma pb mb : Value} (h : JS3 w W A B pa ma pb mb) (k : Below W.heap.size W W') : JS3 w W' A B pa ma pb mb :=
  ⟨h.hb.trans (k.mono h.hb.size), h.a.keep k, h.b.keep k, h.r.keep k⟩
end Go.Proofs.YtkjghoomdefbbaaGreatDoor
end
section
namespace Go.Proofs.YtkjghoomdefbbaaGreatDoor
open Go.RowKit
attribute [local irreducible] setN
def VarR (B : Nat) (w : World) (g : Nat) (J : En) : Prop := ∃ vp vm, CellsN w g [.string ⟨J.key.toArray⟩, .int .i64 J.val.kind, .int .i64 J.val.time, .int .i64 J.val.node, .bool J.val.dead, .string ⟨J.val.text.toArray⟩, vp, vm, .int .u64 (J.val.flags.toNat : Int)] ∧ isCells (J.val.plus.map intC) vp w ∧ isCells (J.val.minus.map intC) vm w ∧ (J.val.plus ≠ [] → NewB B vp) ∧ (J.val.minus ≠ [] → NewB B vm)
theorem VarR.keep {B : Nat} {w w' : World} {g : Nat} {J : En} (h : VarR B w g J) (hb : Below w.heap.size w w') : VarR B w' g J :=
  let ⟨vp, vm, hc, hp, hm, np, nm⟩ := h; ⟨vp, vm, hc.keep hb hc.1, zac _ _ _ _ hp hb, zac _ _ _ _ hm hb, np, nm⟩
theorem OutV.slot {N : Nat} {v : Value} {ps : RowE} {w : World} (h : OutV N v ps w) {q : Nat} (hq : q < ps.length) : ∃ s cap cur, v = .slice (some ⟨s, 0, none⟩) ps.length cap ∧ w.heap[s]? = some (.cells cur 48 (0, 0)) ∧ cur.size = cap * 9 ∧ ps.length ≤ cap ∧ cap ≤ maxLen ∧ cur.toList.take (ps.length * 9) = flatE ps ∧ N ≤ s ∧ s < w.heap.size := by
  obtain ⟨_, ⟨_, h0⟩ | ⟨s, cap, cur, hv, hB, hg, hn, hc, hcs, ht⟩⟩ := h.own
  · omega
  · exact ⟨s, cap, cur, hv, hg, hcs, hn, hc, ht, hB, (Array.getElem?_eq_some_iff.1 hg).1⟩
theorem OutV.set {N : Nat} {w : World} {ps : RowE} {s cap q : Nat} {cur : Array Value} (J : En) (jp jm : Value) (h : OutV N (.slice (some ⟨s, 0, none⟩) ps.length cap) ps w) (hg : w.heap[s]? = some (.cells cur 48 (0, 0))) (hcs : cur.size = cap * 9) (hn : ps.length ≤ cap) (hc : cap ≤ maxLen) (ht : cur.toList.take (ps.length * 9) = flatE ps) (hB : N ≤ s) (hq : q < ps.length)
    (hp : isCells (J.val.plus.map intC) jp w) (hm : isCells (J.val.minus.map intC) jm w) (o : OffQ s (J, jp, jm)) : OutV N (.slice (some ⟨s, 0, none⟩) ps.length cap) (ps.set q (J, jp, jm)) (setN w s (q * 9) (enL J jp jm)) := by
  have bt := zkn (S := fun b => b = s) rfl (enL J jp jm) (q * 9) w
  have offs : ∀ p ∈ ps, OffQ s p := fun p hp => h.off p hp s rfl
  have hcur := zbz (enL J jp jm) (q * 9) w cur hg
  rw [← zht] at hcur
  refine ⟨⟨by rw [zcu, List.length_set], .inr ⟨s, cap, _, by rw [List.length_set], hB, hcur, by rw [List.length_set]; exact hn, hc, by rw [zbv, hcs], ?_⟩⟩, ?_, ?_⟩
  · rw [List.length_set]
    apply List.ext_getElem?
    intro t
    by_cases htl : t < ps.length * 9
    · rw [List.getElem?_take_of_lt htl, Array.getElem?_toList, zeo, zka ps q _ hq]
      have h9 : (enL J jp jm).length = 9 := rfl
      have hm9 : ps.length * 9 ≤ cap * 9 := Nat.mul_le_mul_right _ hn
      by_cases h2 : q * 9 ≤ t ∧ t < q * 9 + 9
      · rw [if_pos (by omega), if_pos h2]
      · rw [if_neg (by omega), if_neg h2, ← ht, List.getElem?_take_of_lt htl, Array.getElem?_toList]
    · rw [List.getElem?_eq_none (by simp; omega), List.getElem?_eq_none (by rw [zcu, List.length_set]; omega)]
  · intro p hp'
    rcases List.mem_or_eq_of_mem_set hp' with hp' | rfl
    · obtain ⟨r1, r2⟩ := h.rows p hp'
      obtain ⟨o1, o2⟩ := offs p hp'
      exact ⟨bt.cells r1 (o1.imp id (fun h b hb e => h (by rw [hb, e]))), bt.cells r2 (o2.imp id (fun h b hb e => h (by rw [hb, e])))⟩
    · obtain ⟨o1, o2⟩ := o
      exact ⟨bt.cells hp (o1.imp id (fun h b hb e => h (by rw [hb, e]))), bt.cells hm (o2.imp id (fun h b hb e => h (by rw [hb, e])))⟩
  · intro p hp' b hb
    have e : some s = some b := hb
    injection e with e
    subst e
    rcases List.mem_or_eq_of_mem_set hp' with hp' | rfl
    · exact offs p hp'
    · exact o
end Go.Proofs.YtkjghoomdefbbaaGreatDoor
end
