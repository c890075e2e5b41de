/- What two counters come to together, whose nodes count apart, is what both come to (value.Least, Join, Sum). -/
import Derived.Test.YtnjlefciekcehaaVaWorks
import Derived.Test.YtnjlefciekcehaaVaLeastOwn
import Derived.SizedLaws
import Derived.ProofKit
import Derived.OpenShut
import Derived.ShutString
import Derived.ChangeOld
import Derived.Below
namespace Go.Proofs.Ytnjlefciekcehaa
open Go.RowKit
open Go.ChangeShapes Go.WideShapes Go.ChangeAt Go.RowKit
open Go.ChangeMaps (open_string shut_string)
set_option linter.unusedVariables false
set_option linter.unusedSimpArgs false
attribute [local irreducible] setN

theorem add_small (t : TypeId) (a b s : Int) (h : a + b = s) (h1 : -1000000000 ≤ s) (h2 : s ≤ 1000000000) (w : World) : (binOp .add t (.int .i64 a) (.int .i64 b)).run Try.prog w = .ok (.int .i64 s) w := by
  subst h
  simp [go_sem]
  rw [IntKind.wrap_i64]
  omega
theorem call_sum (A : Va) (s : Int) (v : Value) (w : World) (hv : isVa A v w) (hF : Fit A) (hs : sumN A = s) : Calls Try.prog 23 #[v] w fun e w' => ∃ x, e = .returned x ∧ isVal (.int .i64 s) x w' ∧ Below w.heap.size w w' :=
  (vsum_any A v w hv hF).mono (by rintro e w' ⟨rfl, hb⟩; exact ⟨_, rfl, by rw [hs]; rfl, hb⟩)
/-- The arrays that came in stand in their boxes. -/
structure Arr (w : World) (f g : Nat → Int) (m : Nat → Bool) (W : World) : Prop where
  size : w.heap.size + 3 ≤ W.heap.size
  below : Below w.heap.size w W
  p : ∀ j, j < 8 → W.cell? ⟨w.heap.size, j, none⟩ = some (.int .u16 (f j))
  q : ∀ j, j < 8 → W.cell? ⟨w.heap.size + 1, j, none⟩ = some (.int .u16 (g j))
  b : ∀ j, j < 8 → W.cell? ⟨w.heap.size + 2, j, none⟩ = some (.bool (m j))
theorem Arr.keep {w : World} {f g : Nat → Int} {m : Nat → Bool} {W W' : World} (h : Arr w f g m W) (hb : Below W.heap.size W W') : Arr w f g m W' :=
  have s := h.size
  ⟨Nat.le_trans h.size hb.size, h.below.trans (hb.mono h.below.size), fun j hj => (hb.cell (p := ⟨w.heap.size, j, none⟩) (by show w.heap.size < _; omega)).trans (h.p j hj), fun j hj => (hb.cell (p := ⟨w.heap.size + 1, j, none⟩) (by show w.heap.size + 1 < _; omega)).trans (h.q j hj), fun j hj => (hb.cell (p := ⟨w.heap.size + 2, j, none⟩) (by show w.heap.size + 2 < _; omega)).trans (h.b j hj)⟩
theorem Arr.set {w : World} {f g : Nat → Int} {m : Nat → Bool} {W : World} (h : Arr w f g m W) {r : Nat} (hr : w.heap.size + 3 ≤ r) (k : Nat) (v : Value) : Arr w f g m (W.setCell ⟨r, k, none⟩ v) :=
  ⟨by rw [World.size_setCell]; exact h.size, h.below.setCell (p := ⟨r, k, none⟩) (by show w.heap.size ≤ r; omega) v, fun j hj => (World.cell?_setCell_other W _ _ _ (by intro e; injection e; omega)).trans (h.p j hj), fun j hj => (World.cell?_setCell_other W _ _ _ (by intro e; injection e; omega)).trans (h.q j hj), fun j hj => (World.cell?_setCell_other W _ _ _ (by intro e; injection e; omega)).trans (h.b j hj)⟩
theorem arr_new (w : World) (f g : Nat → Int) (m : Nat → Bool) (P M B : Array Value) (hP : ∀ j, j < 8 → P[j]? = some (.int .u16 (f j))) (hM : ∀ j, j < 8 → M[j]? = some (.int .u16 (g j))) (hB : ∀ j, j < 8 → B[j]? = some (.bool (m j))) : Arr w f g m (((w.alloc (.cells P 38)).alloc (.cells M 38)).alloc (.cells B 39)) := by
  have b1 := lit_below w (.cells P 38)
  have b2 := lit_below (w.alloc (.cells P 38)) (.cells M 38)
  have b3 := lit_below ((w.alloc (.cells P 38)).alloc (.cells M 38)) (.cells B 39)
  refine ⟨by simp, (b1.trans (b2.mono b1.size)).trans (b3.mono (b1.trans (b2.mono b1.size)).size), fun j hj => ?_, fun j hj => ?_, fun j hj => ?_⟩
  · rw [b3.cell (p := ⟨w.heap.size, j, none⟩) (by show w.heap.size < _; simp <;> omega), b2.cell (p := ⟨w.heap.size, j, none⟩) (by show w.heap.size < _; simp), World.cell?_alloc_new, hP j hj]
  · have hs : (w.alloc (.cells P 38)).heap.size = w.heap.size + 1 := by simp
    rw [b3.cell (p := ⟨w.heap.size + 1, j, none⟩) (by show w.heap.size + 1 < _; simp), ← hs, World.cell?_alloc_new, hM j hj]
  · have hs : ((w.alloc (.cells P 38)).alloc (.cells M 38)).heap.size = w.heap.size + 2 := by simp
    rw [← hs, World.cell?_alloc_new, hB j hj]
/-- The loop's state. -/
structure SIv (w : World) (f g : Nat → Int) (m : Nat → Bool) (ga gb r1 r2 r3 r4 k : Nat) (W : World) : Prop where
  arr : Arr w f g m W
  ca : CellsN W ga [.int .i64 2, .int .i64 0, .int .i64 0, .bool false, .string ⟨#[]⟩, .slice (some ⟨r1, 0, none⟩) 8 8, .slice (some ⟨r2, 0, none⟩) 8 8, .int .u64 0]
  cb : CellsN W gb [.int .i64 2, .int .i64 0, .int .i64 0, .bool false, .string ⟨#[]⟩, .slice (some ⟨r3, 0, none⟩) 8 8, .slice (some ⟨r4, 0, none⟩) 8 8, .int .u64 0]
  p1 : W.rowIs r1 3 8 (fun j => intC (if j < k then half true m f j else 0))
  p2 : W.rowIs r2 3 8 (fun j => intC (if j < k then half true m g j else 0))
  p3 : W.rowIs r3 3 8 (fun j => intC (if j < k then half false m f j else 0))
  p4 : W.rowIs r4 3 8 (fun j => intC (if j < k then half false m g j else 0))
structure Ord (n ga gb r1 r2 r3 r4 : Nat) : Prop where
  o1 : n + 3 ≤ r1
  o2 : r1 < r2
  o3 : r2 < ga
  o4 : ga < r3
  o5 : r3 < r4
  o6 : r4 < gb
theorem cells_set {W : World} {g r : Nat} {l : List Value} (h : CellsN W g l) (hne : g ≠ r) (k : Nat) (v : Value) : CellsN (W.setCell ⟨r, k, none⟩ v) g l :=
  ⟨by rw [World.size_setCell]; exact h.1, fun j x hx => (World.cell?_setCell_other W _ _ _ (by intro e; injection e; omega)).trans (h.2 j x hx)⟩
theorem row_same {W : World} {r k : Nat} {own : Bool} {m : Nat → Bool} {f : Nat → Int} (h : W.rowIs r 3 8 (fun j => intC (if j < k then half own m f j else 0))) (hm : m k ≠ own) : W.rowIs r 3 8 (fun j => intC (if j < k + 1 then half own m f j else 0)) :=
  h.congr fun j hj => by
    by_cases e : j = k
    · subst e
      rw [if_neg (by omega), if_pos (by omega)]
      unfold half
      rw [if_neg hm]
    · by_cases l : j < k
      · rw [if_pos l, if_pos (by omega)]
      · rw [if_neg l, if_neg (by omega)]
theorem row_set {W : World} {r k : Nat} {own : Bool} {m : Nat → Bool} {f : Nat → Int} (h : W.rowIs r 3 8 (fun j => intC (if j < k then half own m f j else 0))) (hm : m k = own) : (W.setCell ⟨r, k, none⟩ (.int .i64 (f k))).rowIs r 3 8 (fun j => intC (if j < k + 1 then half own m f j else 0)) :=
  (h.set k (.int .i64 (f k))).congr fun j hj => by
    by_cases e : j = k
    · subst e
      rw [if_pos rfl, if_pos (by omega)]
      unfold half intC
      rw [if_pos hm]
    · rw [if_neg e]
      by_cases l : j < k
      · rw [if_pos l, if_pos (by omega)]
      · rw [if_neg l, if_neg (by omega)]
theorem SIv.yes {w : World} {f g : Nat → Int} {m : Nat → Bool} {ga gb r1 r2 r3 r4 k : Nat} {W : World} (h : SIv w f g m ga gb r1 r2 r3 r4 k W) (o : Ord w.heap.size ga gb r1 r2 r3 r4) (hm : m k = true) :
    SIv w f g m ga gb r1 r2 r3 r4 (k + 1) ((W.setCell ⟨r1, k, none⟩ (.int .i64 (f k))).setCell ⟨r2, k, none⟩ (.int .i64 (g k))) := by
  obtain ⟨o1, o2, o3, o4, o5, o6⟩ := o
  exact ⟨(h.arr.set o1 _ _).set (by omega) _ _, cells_set (cells_set h.ca (by omega) _ _) (by omega) _ _, cells_set (cells_set h.cb (by omega) _ _) (by omega) _ _, (row_set h.p1 hm).setOther (by show r1 ≠ r2; omega) _, row_set (h.p2.setOther (by show r2 ≠ r1; omega) _) hm, row_same ((h.p3.setOther (by show r3 ≠ r1; omega) _).setOther (by show r3 ≠ r2; omega) _) (by rw [hm]; decide), row_same ((h.p4.setOther (by show r4 ≠ r1; omega) _).setOther (by show r4 ≠ r2; omega) _) (by rw [hm]; decide)⟩
theorem SIv.no {w : World} {f g : Nat → Int} {m : Nat → Bool} {ga gb r1 r2 r3 r4 k : Nat} {W : World} (h : SIv w f g m ga gb r1 r2 r3 r4 k W) (o : Ord w.heap.size ga gb r1 r2 r3 r4) (hm : m k = false) :
    SIv w f g m ga gb r1 r2 r3 r4 (k + 1) ((W.setCell ⟨r3, k, none⟩ (.int .i64 (f k))).setCell ⟨r4, k, none⟩ (.int .i64 (g k))) := by
  obtain ⟨o1, o2, o3, o4, o5, o6⟩ := o
  exact ⟨(h.arr.set (by omega) _ _).set (by omega) _ _, cells_set (cells_set h.ca (by omega) _ _) (by omega) _ _, cells_set (cells_set h.cb (by omega) _ _) (by omega) _ _, row_same ((h.p1.setOther (by show r1 ≠ r3; omega) _).setOther (by show r1 ≠ r4; omega) _) (by rw [hm]; decide), row_same ((h.p2.setOther (by show r2 ≠ r3; omega) _).setOther (by show r2 ≠ r4; omega) _) (by rw [hm]; decide), (row_set h.p3 hm).setOther (by show r3 ≠ r4; omega) _, row_set (h.p4.setOther (by show r4 ≠ r3; omega) _) hm⟩
theorem SIv.drew {w : World} {f g : Nat → Int} {m : Nat → Bool} {ga gb r1 r2 r3 r4 k : Nat} {W : World} (h : SIv w f g m ga gb r1 r2 r3 r4 k W) : SIv w f g m ga gb r1 r2 r3 r4 k W.drew :=
  ⟨⟨h.arr.size, h.arr.below.drew, h.arr.p, h.arr.q, h.arr.b⟩, h.ca, h.cb, h.p1, h.p2, h.p3, h.p4⟩
/-- A counter laid down in a new block. -/
theorem lay_own (U : World) (l : List Value) (h8 : l.length = 8) : Kept (CellsN (U.alloc (.cells #[.int .i64 0, .int .i64 0, .int .i64 0, .bool false, .string ⟨#[]⟩, .slice none 0 0, .slice none 0 0, .int .u64 0] 25)) U.heap.size [.int .i64 0, .int .i64 0, .int .i64 0, .bool false, .string ⟨#[]⟩, .slice none 0 0, .slice none 0 0, .int .u64 0]) ∧ Kept (Free5 (U.alloc (.cells #[.int .i64 0, .int .i64 0, .int .i64 0, .bool false, .string ⟨#[]⟩, .slice none 0 0, .slice none 0 0, .int .u64 0] 25)) U.heap.size) ∧ Kept (Below U.heap.size U (setN (U.alloc (.cells #[.int .i64 0, .int .i64 0, .int .i64 0, .bool false, .string ⟨#[]⟩, .slice none 0 0, .slice none 0 0, .int .u64 0] 25)) U.heap.size 0 l)) ∧ Kept (CellsN (setN (U.alloc (.cells #[.int .i64 0, .int .i64 0, .int .i64 0, .bool false, .string ⟨#[]⟩, .slice none 0 0, .slice none 0 0, .int .u64 0] 25)) U.heap.size 0 l) U.heap.size l) ∧ Kept (U.heap.size < (setN (U.alloc (.cells #[.int .i64 0, .int .i64 0, .int .i64 0, .bool false, .string ⟨#[]⟩, .slice none 0 0, .slice none 0 0, .int .u64 0] 25)) U.heap.size 0 l).heap.size) := by
  have hc := cellsN_new U 25 [.int .i64 0, .int .i64 0, .int .i64 0, .bool false, .string ⟨#[]⟩, .slice none 0 0, .slice none 0 0, .int .u64 0]
  exact ⟨⟨hc⟩, ⟨free5_new U _ _⟩, ⟨below_setN (Nat.le_refl _) l 0 _ (lit_below U _)⟩, ⟨hc.setN_ l (by rw [h8]; rfl)⟩, ⟨by rw [size_setN]; simp⟩⟩
noncomputable def vsumsOps : Array Oper := regionOf Try.f7 19
set_option maxRecDepth 100000 in
set_option maxHeartbeats 2000000 in
theorem vsums_region (Q : Exit → Act → World → Prop) (a0 : Act) (w0 : World) (hsz : a0.tmps.size = 125) (A B J : Va) (s sa sb : Int) (gj ga gb r1 r2 r3 r4 : Nat) (jp jm : Value) (e7 : a0.tmps.getD 7 undef = .bool true) (e15 : a0.tmps.getD 15 undef = .int .i64 0) (e14 : a0.tmps.getD 14 undef = .pointer (some ⟨gj, 0, none⟩)) (e8 : a0.tmps.getD 8 undef = .pointer (some ⟨ga, 0, none⟩)) (e10 : a0.tmps.getD 10 undef = .pointer (some ⟨gb, 0, none⟩)) (e12 : a0.tmps.getD 12 undef = .int .i64 s) (CJ : CellsN w0 gj [.int .i64 J.kind, .int .i64 J.time, .int .i64 J.node, .bool J.dead, .string ⟨J.text.toArray⟩, jp, jm, .int .u64 (J.flags.toNat : Int)]) (CA : CellsN w0 ga [.int .i64 2, .int .i64 0, .int .i64 0, .bool false, .string ⟨#[]⟩, .slice (some ⟨r1, 0, none⟩) 8 8, .slice (some ⟨r2, 0, none⟩) 8 8, .int .u64 0]) (CB : CellsN w0 gb [.int .i64 2, .int .i64 0, .int .i64 0, .bool false, .string ⟨#[]⟩, .slice (some ⟨r3, 0, none⟩) 8 8, .slice (some ⟨r4, 0, none⟩) 8 8, .int .u64 0]) (LJ : isVa J (.agg #[.int .i64 J.kind, .int .i64 J.time, .int .i64 J.node, .bool J.dead, .string ⟨J.text.toArray⟩, jp, jm, .int .u64 (J.flags.toNat : Int)]) w0) (LA : isVa A (.agg #[.int .i64 2, .int .i64 0, .int .i64 0, .bool false, .string ⟨#[]⟩, .slice (some ⟨r1, 0, none⟩) 8 8, .slice (some ⟨r2, 0, none⟩) 8 8, .int .u64 0]) w0) (LB : isVa B (.agg #[.int .i64 2, .int .i64 0, .int .i64 0, .bool false, .string ⟨#[]⟩, .slice (some ⟨r3, 0, none⟩) 8 8, .slice (some ⟨r4, 0, none⟩) 8 8, .int .u64 0]) w0) (FJ : Fit J) (FA : Fit A) (FB : Fit B) (hJ : sumN J = s) (hA : sumN A = sa) (hBs : sumN B = sb) (hS : sa + sb = s) (hs1 : -1000000000 ≤ s) (hs2 : s ≤ 1000000000)
    (hQ : ∀ (g : Nat → Value) (w : World), g 6 = .bool true → Below w0.heap.size w0 w → Q .normal { tmps := [105, 106, 107, 108, 109, 110, 111, 112, 113, 114, 115, 116, 117, 118, 119, 120, 121, 122, 123, 124, 6].foldl (fun t s => t.setIfInBounds s (g s)) a0.tmps, defers := a0.defers } w) :
    (Code.region 19 vsumsOps true).wp Try.prog Q a0 w0 := by
  refine wp_region_flow mixed (by rw [hsz]; kernel_rfl) ?_
  rw [show vsumsOps.size = 21 by kernel_rfl]
  refine ⟨isVal (.bool true), step_move (.tmp 7) (by kernel_rfl) (wanted_none (by kernel_rfl)) (stable_val _) (knows_old 7 (.bool true) (by kernel_rfl) e7), ?_⟩
  refine ⟨isVal (.bool true), step_move (.tmp 105) (by kernel_rfl) (wanted_none (by kernel_rfl)) (stable_val _) (knows_new (V := isVal (.bool true)) 105 0 (by kernel_rfl) (by kernel_rfl) (by kernel_rfl)), ?_⟩
  refine ⟨isVal (.int .i64 0), step_move (.tmp 15) (by kernel_rfl) (wanted_some 1 106 true (by kernel_rfl) (by kernel_rfl) (by kernel_rfl) (by kernel_rfl)) (stable_val _) (knows_old 15 (.int .i64 0) (by kernel_rfl) e15), ?_⟩
  refine ⟨isVal (.bool true), step_bin .eql 28 28 (.tmp 107) (.const (.int .i64 0)) (.int .i64 0) (.int .i64 0) (.bool true) (by kernel_rfl) (wanted_some 1 106 true (by kernel_rfl) (by kernel_rfl) (by kernel_rfl) (by kernel_rfl)) (knows_new (V := isVal (.int .i64 0)) 107 2 (by kernel_rfl) (by kernel_rfl) (by kernel_rfl)) (knows_const _) (fun _ => rfl) (eql_int _ _ _ _ _ (by decide)), ?_⟩
  refine ⟨isVal (.bool true), step_pick (.tmp 106) (.tmp 108) (.const (.bool false)) true (by kernel_rfl) (wanted_none (by kernel_rfl)) (stable_val _) (knows_new (V := isVal (.bool true)) 106 1 (by kernel_rfl) (by kernel_rfl) (by kernel_rfl)) (knows_new (V := isVal (.bool true)) 108 3 (by kernel_rfl) (by kernel_rfl) (by kernel_rfl)), ?_⟩
  refine ⟨isVal (.bool true), step_move (.tmp 109) (by kernel_rfl) (wanted_none (by kernel_rfl)) (stable_val _) (knows_new (V := isVal (.bool true)) 109 4 (by kernel_rfl) (by kernel_rfl) (by kernel_rfl)), ?_⟩
  refine ⟨isVal (.agg #[.int .i64 J.kind, .int .i64 J.time, .int .i64 J.node, .bool J.dead, .string ⟨J.text.toArray⟩, jp, jm, .int .u64 (J.flags.toNat : Int)]), step_loadN 25 (.tmp 14) (gj) [.int .i64 J.kind, .int .i64 J.time, .int .i64 J.node, .bool J.dead, .string ⟨J.text.toArray⟩, jp, jm, .int .u64 (J.flags.toNat : Int)] (by kernel_rfl) (wanted_some 5 110 true (by kernel_rfl) (by kernel_rfl) (by kernel_rfl) (by kernel_rfl)) (knows_old 14 (.pointer (some ⟨gj, 0, none⟩)) (by kernel_rfl) e14) size_va agg_va CJ, ?_⟩
  refine ⟨isVal (.int .i64 s), step_call 23 #[.tmp 111] #[25] #[.agg #[.int .i64 J.kind, .int .i64 J.time, .int .i64 J.node, .bool J.dead, .string ⟨J.text.toArray⟩, jp, jm, .int .u64 (J.flags.toNat : Int)]] (by kernel_rfl) (wanted_some 5 110 true (by kernel_rfl) (by kernel_rfl) (by kernel_rfl) (by kernel_rfl)) (stable_val _) (args1 (.tmp 111) (.agg #[.int .i64 J.kind, .int .i64 J.time, .int .i64 J.node, .bool J.dead, .string ⟨J.text.toArray⟩, jp, jm, .int .u64 (J.flags.toNat : Int)]) (knows_new (V := isVal (.agg #[.int .i64 J.kind, .int .i64 J.time, .int .i64 J.node, .bool J.dead, .string ⟨J.text.toArray⟩, jp, jm, .int .u64 (J.flags.toNat : Int)])) 111 6 (by kernel_rfl) (by kernel_rfl) (by kernel_rfl))) (enters_of Try.func23 (by kernel_rfl) rfl) (by intro w hb; exact call_sum J s _ w (va_grow LJ hb) FJ hJ), ?_⟩
  refine ⟨isVal (.int .i64 s), step_move (.tmp 12) (by kernel_rfl) (wanted_some 5 110 true (by kernel_rfl) (by kernel_rfl) (by kernel_rfl) (by kernel_rfl)) (stable_val _) (knows_old 12 (.int .i64 s) (by kernel_rfl) e12), ?_⟩
  refine ⟨isVal (.bool true), step_bin .eql 3 3 (.tmp 112) (.tmp 113) (.int .i64 s) (.int .i64 s) (.bool true) (by kernel_rfl) (wanted_some 5 110 true (by kernel_rfl) (by kernel_rfl) (by kernel_rfl) (by kernel_rfl)) (knows_new (V := isVal (.int .i64 s)) 112 7 (by kernel_rfl) (by kernel_rfl) (by kernel_rfl)) (knows_new (V := isVal (.int .i64 s)) 113 8 (by kernel_rfl) (by kernel_rfl) (by kernel_rfl)) (fun _ => rfl) (eql_int _ _ _ _ _ (by simp)), ?_⟩
  refine ⟨isVal (.bool true), step_pick (.tmp 110) (.tmp 114) (.const (.bool false)) true (by kernel_rfl) (wanted_none (by kernel_rfl)) (stable_val _) (knows_new (V := isVal (.bool true)) 110 5 (by kernel_rfl) (by kernel_rfl) (by kernel_rfl)) (knows_new (V := isVal (.bool true)) 114 9 (by kernel_rfl) (by kernel_rfl) (by kernel_rfl)), ?_⟩
  refine ⟨isVal (.bool true), step_move (.tmp 115) (by kernel_rfl) (wanted_none (by kernel_rfl)) (stable_val _) (knows_new (V := isVal (.bool true)) 115 10 (by kernel_rfl) (by kernel_rfl) (by kernel_rfl)), ?_⟩
  refine ⟨isVal (.agg #[.int .i64 2, .int .i64 0, .int .i64 0, .bool false, .string ⟨#[]⟩, .slice (some ⟨r1, 0, none⟩) 8 8, .slice (some ⟨r2, 0, none⟩) 8 8, .int .u64 0]), step_loadN 25 (.tmp 8) (ga) [.int .i64 2, .int .i64 0, .int .i64 0, .bool false, .string ⟨#[]⟩, .slice (some ⟨r1, 0, none⟩) 8 8, .slice (some ⟨r2, 0, none⟩) 8 8, .int .u64 0] (by kernel_rfl) (wanted_some 11 116 true (by kernel_rfl) (by kernel_rfl) (by kernel_rfl) (by kernel_rfl)) (knows_old 8 (.pointer (some ⟨ga, 0, none⟩)) (by kernel_rfl) e8) size_va agg_va CA, ?_⟩
  refine ⟨isVal (.int .i64 sa), step_call 23 #[.tmp 117] #[25] #[.agg #[.int .i64 2, .int .i64 0, .int .i64 0, .bool false, .string ⟨#[]⟩, .slice (some ⟨r1, 0, none⟩) 8 8, .slice (some ⟨r2, 0, none⟩) 8 8, .int .u64 0]] (by kernel_rfl) (wanted_some 11 116 true (by kernel_rfl) (by kernel_rfl) (by kernel_rfl) (by kernel_rfl)) (stable_val _) (args1 (.tmp 117) (.agg #[.int .i64 2, .int .i64 0, .int .i64 0, .bool false, .string ⟨#[]⟩, .slice (some ⟨r1, 0, none⟩) 8 8, .slice (some ⟨r2, 0, none⟩) 8 8, .int .u64 0]) (knows_new (V := isVal (.agg #[.int .i64 2, .int .i64 0, .int .i64 0, .bool false, .string ⟨#[]⟩, .slice (some ⟨r1, 0, none⟩) 8 8, .slice (some ⟨r2, 0, none⟩) 8 8, .int .u64 0])) 117 12 (by kernel_rfl) (by kernel_rfl) (by kernel_rfl))) (enters_of Try.func23 (by kernel_rfl) rfl) (by intro w hb; exact call_sum A sa _ w (va_grow LA hb) FA hA), ?_⟩
  refine ⟨isVal (.agg #[.int .i64 2, .int .i64 0, .int .i64 0, .bool false, .string ⟨#[]⟩, .slice (some ⟨r3, 0, none⟩) 8 8, .slice (some ⟨r4, 0, none⟩) 8 8, .int .u64 0]), step_loadN 25 (.tmp 10) (gb) [.int .i64 2, .int .i64 0, .int .i64 0, .bool false, .string ⟨#[]⟩, .slice (some ⟨r3, 0, none⟩) 8 8, .slice (some ⟨r4, 0, none⟩) 8 8, .int .u64 0] (by kernel_rfl) (wanted_some 11 116 true (by kernel_rfl) (by kernel_rfl) (by kernel_rfl) (by kernel_rfl)) (knows_old 10 (.pointer (some ⟨gb, 0, none⟩)) (by kernel_rfl) e10) size_va agg_va CB, ?_⟩
  refine ⟨isVal (.int .i64 sb), step_call 23 #[.tmp 119] #[25] #[.agg #[.int .i64 2, .int .i64 0, .int .i64 0, .bool false, .string ⟨#[]⟩, .slice (some ⟨r3, 0, none⟩) 8 8, .slice (some ⟨r4, 0, none⟩) 8 8, .int .u64 0]] (by kernel_rfl) (wanted_some 11 116 true (by kernel_rfl) (by kernel_rfl) (by kernel_rfl) (by kernel_rfl)) (stable_val _) (args1 (.tmp 119) (.agg #[.int .i64 2, .int .i64 0, .int .i64 0, .bool false, .string ⟨#[]⟩, .slice (some ⟨r3, 0, none⟩) 8 8, .slice (some ⟨r4, 0, none⟩) 8 8, .int .u64 0]) (knows_new (V := isVal (.agg #[.int .i64 2, .int .i64 0, .int .i64 0, .bool false, .string ⟨#[]⟩, .slice (some ⟨r3, 0, none⟩) 8 8, .slice (some ⟨r4, 0, none⟩) 8 8, .int .u64 0])) 119 14 (by kernel_rfl) (by kernel_rfl) (by kernel_rfl))) (enters_of Try.func23 (by kernel_rfl) rfl) (by intro w hb; exact call_sum B sb _ w (va_grow LB hb) FB hBs), ?_⟩
  refine ⟨isVal (.int .i64 s), step_bin .add 3 3 (.tmp 118) (.tmp 120) (.int .i64 sa) (.int .i64 sb) (.int .i64 s) (by kernel_rfl) (wanted_some 11 116 true (by kernel_rfl) (by kernel_rfl) (by kernel_rfl) (by kernel_rfl)) (knows_new (V := isVal (.int .i64 sa)) 118 13 (by kernel_rfl) (by kernel_rfl) (by kernel_rfl)) (knows_new (V := isVal (.int .i64 sb)) 120 15 (by kernel_rfl) (by kernel_rfl) (by kernel_rfl)) (fun _ => rfl) (add_small _ sa sb s hS hs1 hs2), ?_⟩
  refine ⟨isVal (.int .i64 s), step_move (.tmp 12) (by kernel_rfl) (wanted_some 11 116 true (by kernel_rfl) (by kernel_rfl) (by kernel_rfl) (by kernel_rfl)) (stable_val _) (knows_old 12 (.int .i64 s) (by kernel_rfl) e12), ?_⟩
  refine ⟨isVal (.bool true), step_bin .eql 3 3 (.tmp 121) (.tmp 122) (.int .i64 s) (.int .i64 s) (.bool true) (by kernel_rfl) (wanted_some 11 116 true (by kernel_rfl) (by kernel_rfl) (by kernel_rfl) (by kernel_rfl)) (knows_new (V := isVal (.int .i64 s)) 121 16 (by kernel_rfl) (by kernel_rfl) (by kernel_rfl)) (knows_new (V := isVal (.int .i64 s)) 122 17 (by kernel_rfl) (by kernel_rfl) (by kernel_rfl)) (fun _ => rfl) (eql_int _ _ _ _ _ (by simp)), ?_⟩
  refine ⟨isVal (.bool true), step_pick (.tmp 116) (.tmp 123) (.const (.bool false)) true (by kernel_rfl) (wanted_none (by kernel_rfl)) (stable_val _) (knows_new (V := isVal (.bool true)) 116 11 (by kernel_rfl) (by kernel_rfl) (by kernel_rfl)) (knows_new (V := isVal (.bool true)) 123 18 (by kernel_rfl) (by kernel_rfl) (by kernel_rfl)), ?_⟩
  refine ⟨isVal (.bool true), step_assign (.tmp 124) (by kernel_rfl) (wanted_none (by kernel_rfl)) (stable_val _) (knows_new (V := isVal (.bool true)) 124 19 (by kernel_rfl) (by kernel_rfl) (by kernel_rfl)), ?_⟩
  intro a w hkp hb hd
  rw [kept_of hkp [some 105, some 106, some 107, some 108, some 109, some 110, some 111, some 112, some 113, some 114, some 115, some 116, some 117, some 118, some 119, some 120, some 121, some 122, some 123, some 124, some 6] [105, 106, 107, 108, 109, 110, 111, 112, 113, 114, 115, 116, 117, 118, 119, 120, 121, 122, 123, 124, 6] (by kernel_rfl) (by decide)]
  have d6 := fdone_of (hd 20 (by rw [show vsumsOps.size = 21 by kernel_rfl]; decide)) (t := 6) (V := isVal (.bool true)) (by kernel_rfl) (by kernel_rfl)
  exact hQ (fun s => a.tmps.getD s undef) w d6 hb
theorem sum_diff (f g : Nat → Int) (hf : ∀ j, 0 ≤ f j ∧ f j ≤ 65535) (hg : ∀ j, 0 ≤ g j ∧ g j ≤ 65535) (k : Nat) : -(65535 * (k : Int)) ≤ sumTo (fun j => f j - g j) k ∧ sumTo (fun j => f j - g j) k ≤ 65535 * (k : Int) := by
  rw [sumTo_sub]
  have := sumTo_bound f hf k
  have := sumTo_bound g hg k
  omega
set_option maxRecDepth 100000 in
set_option maxHeartbeats 4000000 in
theorem valueSums_walk (f g : Nat → Int) (m : Nat → Bool) (P M B : Array Value) (hP : ∀ j, j < 8 → P[j]? = some (.int .u16 (f j))) (hM : ∀ j, j < 8 → M[j]? = some (.int .u16 (g j))) (hB0 : ∀ j, j < 8 → B[j]? = some (.bool (m j))) (hf : ∀ j, 0 ≤ f j ∧ f j ≤ 65535) (hg : ∀ j, 0 ≤ g j ∧ g j ≤ 65535) (w : World) :
    Calls Try.prog 7 #[.agg P, .agg M, .agg B] w fun e w' => e = .returned (.bool true) ∧ Below w.heap.size w w' := by
  have HA := Kept.mk (arr_new w f g m P M B hP hM hB0)
  have HF := Kept.mk hf
  have HG := Kept.mk hg
  have HX := Kept.mk (sums_facts m f g hf hg)
  clear hP hM hB0 hf hg
  go_enter Try.func7, Try.ntmps7
  go_wp2_with fail
  generalize (((w.alloc (.cells P 38)).alloc (.cells M 38)).alloc (.cells B 39)) = W0 at *
  ((with_reducible refine (vworks_any _).mono ?_); rintro e W1 ⟨rfl, hb1⟩)
  replace HA := Kept.mk (HA.out.keep hb1)
  clear hb1
  go_wp2_with fail
  ((with_reducible refine (vleast_own _).mono ?_); rintro e U ⟨r1, r2, rfl, b1a, b2a, b3a, q1a, q2a, hb1⟩)
  obtain ⟨K1, K2, K3, K4, K6⟩ := lay_own U [.int .i64 2, .int .i64 0, .int .i64 0, .bool false, .string ⟨#[]⟩, .slice (some ⟨r1, 0, none⟩) 8 8, .slice (some ⟨r2, 0, none⟩) 8 8, .int .u64 0] rfl
  have hs1a := HA.out.size
  replace HA := Kept.mk ((HA.out.keep hb1).keep K3.out)
  replace q1a := q1a.of_block (K3.out.block _ q1a.lt)
  replace q2a := q2a.of_block (K3.out.block _ q2a.lt)
  have Q1a := Kept.mk q1a
  have Q2a := Kept.mk q2a
  have CAa := K4
  have K6a := K6
  have K5 : Kept (Ones [.int .i64 2, .int .i64 0, .int .i64 0, .bool false, .string ⟨#[]⟩, .slice (some ⟨r1, 0, none⟩) 8 8, .slice (some ⟨r2, 0, none⟩) 8 8, .int .u64 0]) := ⟨⟨rfl, rfl, rfl, rfl, rfl, rfl, rfl, rfl, trivial⟩⟩
  clear q1a q2a K4 K6 hb1
  go_wp2_with (have hz0 := K1; refine wpList_storeN 25 rfl (.tmp 8) (.tmp 21) rfl U.heap.size [.int .i64 2, .int .i64 0, .int .i64 0, .bool false, .string ⟨#[]⟩, .slice (some ⟨r1, 0, none⟩) 8 8, .slice (some ⟨r2, 0, none⟩) 8 8, .int .u64 0] size_va rfl rfl K1.out rfl K2.out K5.out ?_; clear hz0 K1 K2 K3 K5; generalize setN (U.alloc (.cells #[.int .i64 0, .int .i64 0, .int .i64 0, .bool false, .string ⟨#[]⟩, .slice none 0 0, .slice none 0 0, .int .u64 0] 25)) U.heap.size 0 [.int .i64 2, .int .i64 0, .int .i64 0, .bool false, .string ⟨#[]⟩, .slice (some ⟨r1, 0, none⟩) 8 8, .slice (some ⟨r2, 0, none⟩) 8 8, .int .u64 0] = W2 at *; generalize U.heap.size = ga at *)
  ((with_reducible refine (vleast_own _).mono ?_); rintro e U ⟨r3, r4, rfl, b1b, b2b, b3b, q1b, q2b, hb1⟩)
  obtain ⟨K1, K2, K3, K4, K6⟩ := lay_own U [.int .i64 2, .int .i64 0, .int .i64 0, .bool false, .string ⟨#[]⟩, .slice (some ⟨r3, 0, none⟩) 8 8, .slice (some ⟨r4, 0, none⟩) 8 8, .int .u64 0] rfl
  have hs1b := HA.out.size
  replace HA := Kept.mk ((HA.out.keep hb1).keep K3.out)
  replace q1b := q1b.of_block (K3.out.block _ q1b.lt)
  replace q2b := q2b.of_block (K3.out.block _ q2b.lt)
  replace CAa := Kept.mk ((CAa.out.keep hb1 CAa.out.1).keep K3.out (Nat.lt_of_lt_of_le CAa.out.1 hb1.size))
  replace Q1a := Kept.mk ((Q1a.out.of_block (hb1.block _ Q1a.out.lt)).of_block (K3.out.block _ (Nat.lt_of_lt_of_le Q1a.out.lt hb1.size)))
  replace Q2a := Kept.mk ((Q2a.out.of_block (hb1.block _ Q2a.out.lt)).of_block (K3.out.block _ (Nat.lt_of_lt_of_le Q2a.out.lt hb1.size)))
  have hga := K6a.out
  have Q1b := Kept.mk q1b
  have Q2b := Kept.mk q2b
  have CAb := K4
  have K6b := K6
  have K5 : Kept (Ones [.int .i64 2, .int .i64 0, .int .i64 0, .bool false, .string ⟨#[]⟩, .slice (some ⟨r3, 0, none⟩) 8 8, .slice (some ⟨r4, 0, none⟩) 8 8, .int .u64 0]) := ⟨⟨rfl, rfl, rfl, rfl, rfl, rfl, rfl, rfl, trivial⟩⟩
  clear q1b q2b K4 K6 hb1
  go_wp2_with (have hz0 := K1; refine wpList_storeN 25 rfl (.tmp 10) (.tmp 25) rfl U.heap.size [.int .i64 2, .int .i64 0, .int .i64 0, .bool false, .string ⟨#[]⟩, .slice (some ⟨r3, 0, none⟩) 8 8, .slice (some ⟨r4, 0, none⟩) 8 8, .int .u64 0] size_va rfl rfl K1.out rfl K2.out K5.out ?_; clear hz0 K1 K2 K3 K5; generalize setN (U.alloc (.cells #[.int .i64 0, .int .i64 0, .int .i64 0, .bool false, .string ⟨#[]⟩, .slice none 0 0, .slice none 0 0, .int .u64 0] 25)) U.heap.size 0 [.int .i64 2, .int .i64 0, .int .i64 0, .bool false, .string ⟨#[]⟩, .slice (some ⟨r3, 0, none⟩) 8 8, .slice (some ⟨r4, 0, none⟩) 8 8, .int .u64 0] = W3 at *; generalize U.heap.size = gb at *; have ka5 := CAa.out.2 5 _ rfl; have ka6 := CAa.out.2 6 _ rfl; have kb5 := CAb.out.2 5 _ rfl; have kb6 := CAb.out.2 6 _ rfl)
  have HO : Kept (Ord w.heap.size ga gb r1 r2 r3 r4) := ⟨⟨by omega, by omega, by omega, by omega, by omega, by omega⟩⟩
  have HS : Kept (SIv w f g m ga gb r1 r2 r3 r4 0 W3) := ⟨⟨HA.out, CAa.out, CAb.out, Q1a.out.congr (fun j _ => by simp), Q2a.out.congr (fun j _ => by simp), Q1b.out.congr (fun j _ => by simp), Q2b.out.congr (fun j _ => by simp)⟩⟩
  clear HA CAa CAb Q1a Q2a Q1b Q2b ka5 ka6 kb5 kb6 K6a K6b
  go_loopw [12, 13] (fun c i wr => ∃ k : Nat, k ≤ 8 ∧ i = .int .i64 (k : Int) ∧ c = .int .i64 (sumTo (fun j => f j - g j) k) ∧ Kept (SIv w f g m ga gb r1 r2 r3 r4 k wr)) (fun _ i _ => 8 - (intOf i).toNat)
  case atStart => exact ⟨0, by omega, rfl, rfl, HS⟩
  case round =>
    clear HS
    obtain ⟨k, hk, rfl, rfl, HS⟩ := hrel
    by_cases hlt : k < 8
    · have d1 : decide ((k : Int) < 8) = true := by simp; omega
      have c1 := HS.out.arr.p k hlt
      have c2 := HS.out.arr.q k hlt
      have c3 := HS.out.arr.b k hlt
      have ka5 := HS.out.ca.2 5 _ rfl
      have ka6 := HS.out.ca.2 6 _ rfl
      have kb5 := HS.out.cb.2 5 _ rfl
      have kb6 := HS.out.cb.2 6 _ rfl
      have z1 := HS.out.p1.cell hlt
      have y1 := HS.out.p1.frozen k
      unfold intC at z1
      rewrite [if_neg (by omega)] at z1
      have z2 := HS.out.p2.cell hlt
      have y2 := HS.out.p2.frozen k
      unfold intC at z2
      rewrite [if_neg (by omega)] at z2
      have z3 := HS.out.p3.cell hlt
      have y3 := HS.out.p3.frozen k
      unfold intC at z3
      rewrite [if_neg (by omega)] at z3
      have z4 := HS.out.p4.cell hlt
      have y4 := HS.out.p4.frozen k
      unfold intC at z4
      rewrite [if_neg (by omega)] at z4
      obtain ⟨x, hx⟩ : ∃ x, x = f k := ⟨_, rfl⟩
      obtain ⟨y, hy⟩ : ∃ y, y = g k := ⟨_, rfl⟩
      obtain ⟨s, hs⟩ : ∃ s, s = sumTo (fun j => f j - g j) k := ⟨_, rfl⟩
      have bx := HF.out k
      have bY := HG.out k
      have bs := sum_diff f g HF.out HG.out k
      have HS2 := Kept.mk (show sumTo (fun j => f j - g j) (k + 1) = s + x - y by rw [hs, hx, hy]; show _ + (f k - g k) = _; omega)
      rw [← hx] at c1 bx
      rw [← hy] at c2 bY
      rw [← hs] at bs ⊢
      obtain ⟨bx1, bx2⟩ := bx
      obtain ⟨by1, by2⟩ := bY
      obtain ⟨bs1, bs2⟩ := bs
      have HXX := Kept.mk hx
      have HYY := Kept.mk hy
      clear hx hy hs
      have OO := HO.out
      have n1 : r1 ≠ r2 := by have := OO.o2; omega
      have n2 : r3 ≠ r4 := by have := OO.o5; omega
      clear OO
      cases hm : m k with
      | true =>
        rw [hm] at c3
        have HNX := Kept.mk (HS.out.yes HO.out hm)
        rw [← HXX.out, ← HYY.out] at HNX
        clear hm
        go_wp2
        go_region
        all_goals go_wp2
        all_goals go_region
        all_goals go_wp2
        all_goals go_region
        all_goals go_wp2
        all_goals
          go_roundw
          case rel => exact ⟨k + 1, by omega, by go_num, by rw [HS2.out], ⟨HNX.out.drew.drew.drew⟩⟩
          case measure => simp [intOf]; omega
      | false =>
        rw [hm] at c3
        have HNX := Kept.mk (HS.out.no HO.out hm)
        rw [← HXX.out, ← HYY.out] at HNX
        clear hm
        go_wp2
        go_region
        all_goals go_wp2
        all_goals go_region
        all_goals go_wp2
        all_goals go_region
        all_goals go_wp2
        all_goals
          go_roundw
          case rel => exact ⟨k + 1, by omega, by go_num, by rw [HS2.out], ⟨HNX.out.drew.drew.drew⟩⟩
          case measure => simp [intOf]; omega
    · have d1 : decide ((k : Int) < 8) = false := by simp; omega
      obtain rfl : k = 8 := by omega
      have he : joinE (cntV (half true m f) (half true m g)) (cntV (half false m f) (half false m g)) = 0 := HX.out.1
      have LA : Kept (isVa (cntV (half true m f) (half true m g)) (.agg #[.int .i64 2, .int .i64 0, .int .i64 0, .bool false, .string ⟨#[]⟩, .slice (some ⟨r1, 0, none⟩) 8 8, .slice (some ⟨r2, 0, none⟩) 8 8, .int .u64 0]) wr) := ⟨⟨_, _, rfl, cells_row8 (f := half true m f) (HS.out.p1.congr (fun j hj => by rw [if_pos hj])) rfl, cells_row8 (f := half true m g) (HS.out.p2.congr (fun j hj => by rw [if_pos hj])) rfl⟩⟩
      have LB : Kept (isVa (cntV (half false m f) (half false m g)) (.agg #[.int .i64 2, .int .i64 0, .int .i64 0, .bool false, .string ⟨#[]⟩, .slice (some ⟨r3, 0, none⟩) 8 8, .slice (some ⟨r4, 0, none⟩) 8 8, .int .u64 0]) wr) := ⟨⟨_, _, rfl, cells_row8 (f := half false m f) (HS.out.p3.congr (fun j hj => by rw [if_pos hj])) rfl, cells_row8 (f := half false m g) (HS.out.p4.congr (fun j hj => by rw [if_pos hj])) rfl⟩⟩
      have ka0 := HS.out.ca.2 0 _ rfl
      have ka1 := HS.out.ca.2 1 _ rfl
      have ka2 := HS.out.ca.2 2 _ rfl
      have ka3 := HS.out.ca.2 3 _ rfl
      have ka4 := HS.out.ca.2 4 _ rfl
      have ka5 := HS.out.ca.2 5 _ rfl
      have ka6 := HS.out.ca.2 6 _ rfl
      have ka7 := HS.out.ca.2 7 _ rfl
      have kb0 := HS.out.cb.2 0 _ rfl
      have kb1 := HS.out.cb.2 1 _ rfl
      have kb2 := HS.out.cb.2 2 _ rfl
      have kb3 := HS.out.cb.2 3 _ rfl
      have kb4 := HS.out.cb.2 4 _ rfl
      have kb5 := HS.out.cb.2 5 _ rfl
      have kb6 := HS.out.cb.2 6 _ rfl
      have kb7 := HS.out.cb.2 7 _ rfl
      go_wp2_with fail
      ((with_reducible refine (vjoin_any (cntV (half true m f) (half true m g)) (cntV (half false m f) (half false m g)) _ _ _ LA.out LB.out (fit_cnt _ _) (fit_cnt _ _)).mono ?_); rintro e U ⟨v', rfl, ⟨p', m', rfl, hp', hm', _, _⟩, hb1⟩)
      obtain ⟨K1, K2, K3, K4, K5⟩ := vnew U (joinF (cntV (half true m f) (half true m g)) (cntV (half false m f) (half false m g))) p' m' hp' hm' U.heap.size rfl
      clear hp' hm' ka0 ka1 ka2 ka3 ka4 ka5 ka6 ka7 kb0 kb1 kb2 kb3 kb4 kb5 kb6 kb7
      have HBW := Kept.mk (hb1.trans (K3.out.mono hb1.size))
      have CA9 := Kept.mk (HS.out.ca.keep HBW.out HS.out.ca.1)
      have CB9 := Kept.mk (HS.out.cb.keep HBW.out HS.out.cb.1)
      have LA9 := Kept.mk (va_grow LA.out HBW.out)
      have LB9 := Kept.mk (va_grow LB.out HBW.out)
      have hB := Kept.mk (HS.out.arr.below.trans (HBW.out.mono HS.out.arr.below.size))
      have bs := sum_diff f g HF.out HG.out 8
      clear hb1 HBW
      go_wp2_with (have hz0 := K1; refine wpList_storeN 25 rfl (.tmp 14) (.tmp 103) rfl U.heap.size [.int .i64 (joinF (cntV (half true m f) (half true m g)) (cntV (half false m f) (half false m g))).kind, .int .i64 (joinF (cntV (half true m f) (half true m g)) (cntV (half false m f) (half false m g))).time, .int .i64 (joinF (cntV (half true m f) (half true m g)) (cntV (half false m f) (half false m g))).node, .bool (joinF (cntV (half true m f) (half true m g)) (cntV (half false m f) (half false m g))).dead, .string ⟨(joinF (cntV (half true m f) (half true m g)) (cntV (half false m f) (half false m g))).text.toArray⟩, p', m', .int .u64 ((joinF (cntV (half true m f) (half true m g)) (cntV (half false m f) (half false m g))).flags.toNat : Int)] size_va rfl rfl K1.out rfl K2.out K5.out ?_; clear hz0 K1 K2 K3 K5; generalize setN (U.alloc (.cells #[.int .i64 0, .int .i64 0, .int .i64 0, .bool false, .string ⟨#[]⟩, .slice none 0 0, .slice none 0 0, .int .u64 0] 25)) U.heap.size 0 [.int .i64 (joinF (cntV (half true m f) (half true m g)) (cntV (half false m f) (half false m g))).kind, .int .i64 (joinF (cntV (half true m f) (half true m g)) (cntV (half false m f) (half false m g))).time, .int .i64 (joinF (cntV (half true m f) (half true m g)) (cntV (half false m f) (half false m g))).node, .bool (joinF (cntV (half true m f) (half true m g)) (cntV (half false m f) (half false m g))).dead, .string ⟨(joinF (cntV (half true m f) (half true m g)) (cntV (half false m f) (half false m g))).text.toArray⟩, p', m', .int .u64 ((joinF (cntV (half true m f) (half true m g)) (cntV (half false m f) (half false m g))).flags.toNat : Int)] = W9 at *; generalize U.heap.size = gj at *)
      refine vsums_region _ _ _ rfl (cntV (half true m f) (half true m g)) (cntV (half false m f) (half false m g)) (joinF (cntV (half true m f) (half true m g)) (cntV (half false m f) (half false m g))) _ _ _ gj ga gb r1 r2 r3 r4 p' m' rfl rfl rfl rfl rfl rfl K4.out.1 CA9.out CB9.out ⟨p', m', rfl, K4.out.2.1, K4.out.2.2⟩ LA9.out LB9.out (fit_join (fit_cnt _ _) (fit_cnt _ _)) (fit_cnt _ _) (fit_cnt _ _) HX.out.2.1 rfl rfl HX.out.2.2 (by omega) (by omega) ?_
      intro f9 W10 d6 hb9
      simp only [List.foldl_cons, List.foldl_nil, d6]
      generalize f9 105 = y105
      generalize f9 106 = y106
      generalize f9 107 = y107
      generalize f9 108 = y108
      generalize f9 109 = y109
      generalize f9 110 = y110
      generalize f9 111 = y111
      generalize f9 112 = y112
      generalize f9 113 = y113
      generalize f9 114 = y114
      generalize f9 115 = y115
      generalize f9 116 = y116
      generalize f9 117 = y117
      generalize f9 118 = y118
      generalize f9 119 = y119
      generalize f9 120 = y120
      generalize f9 121 = y121
      generalize f9 122 = y122
      generalize f9 123 = y123
      generalize f9 124 = y124
      clear d6
      simp only [List.setIfInBounds_toArray, List.set_cons_succ, List.set_cons_zero]
      replace hB := Kept.mk (hB.out.trans (hb9.mono hB.out.size))
      clear hb9
      go_wp2
      go_ret
      exact ⟨rfl, hB.out⟩
set_option maxRecDepth 100000 in
theorem valueSums_lifted (os : Os) (started : os.Started) (H : Type) (enc : TypeId × Value → H) :
    ReturnsInHanded {} Try.checked os 7 .any (Rows.valueSumsSpec.pre6 enc Try.prog Try.f7 Rows.valueSumsRow.domain false) (Rows.valueSumsSpec.post enc Try.prog Try.f7 false true false false) := by
  refine returnsInHanded_of_change (C := Try.checked) (by kernel_rfl : ownKnob Try.prog.godebug = none) started (by kernel_rfl) Try.func7
    (ChangeSpec.witness6 (enc := enc) (C := Try.checked) false ⟨#[], #[.agg #[.int .u16 0, .int .u16 0, .int .u16 0, .int .u16 0, .int .u16 0, .int .u16 0, .int .u16 0, .int .u16 0], .agg #[.int .u16 0, .int .u16 0, .int .u16 0, .int .u16 0, .int .u16 0, .int .u16 0, .int .u16 0, .int .u16 0], .agg #[.bool false, .bool false, .bool false, .bool false, .bool false, .bool false, .bool false, .bool false]], []⟩ 8 (by kernel_rfl) (by kernel_rfl) (by kernel_rfl) (by kernel_rfl)) ?_
  intro W base args ds gs before hval0 hW hcnd _
  have hval : ∀ (j : Nat) t v, Try.f7.params[j]? = some t → args[j]? = some v → Value.okWide Try.prog W .any base t v := hval0
  have hW' := hW
  obtain ⟨p, q, hA0, hV, rfl, hfz, hnd⟩ := hW
  have hA : DataW.TrodAll enc Try.prog W 0 (fun _ => true) true Try.f7.params.toList args.toList ds p := hA0
  rw [Try.params7] at hA hval
  obtain ⟨v0, vs0, d0, ds0, p0, q0, hargs, rfl, rfl, h0, r0⟩ := trodAll_cons hA
  obtain ⟨v1, vs1, d1, ds1, p1, q1, rfl, rfl, rfl, h1, r1⟩ := trodAll_cons r0
  obtain ⟨v2, vs2, d2, ds2, p2, q2, rfl, rfl, rfl, h2, r2⟩ := trodAll_cons r1
  obtain ⟨rfl, rfl, rfl⟩ := trodAll_nil r2
  obtain rfl : args = #[v0, v1, v2] := by cases args; simp_all
  obtain ⟨rfl, rfl⟩ := trodVars_none hV
  have lt0 : ∀ x ∈ p0, x.block < W.heap.size := fun x hx => by obtain ⟨fuel, hf⟩ := h0; exact DataW.trod_lt fuel _ _ _ hf x hx
  obtain ⟨f0, rfl, w0⟩ := open_u16s (hval 0 38 v0 rfl rfl) h0
  have lt1 : ∀ x ∈ p1, x.block < W.heap.size := fun x hx => by obtain ⟨fuel, hf⟩ := h1; exact DataW.trod_lt fuel _ _ _ hf x hx
  obtain ⟨f1, rfl, w1⟩ := open_u16s (hval 1 38 v1 rfl rfl) h1
  have lt2 : ∀ x ∈ p2, x.block < W.heap.size := fun x hx => by obtain ⟨fuel, hf⟩ := h2; exact DataW.trod_lt fuel _ _ _ hf x hx
  obtain ⟨f2, rfl⟩ := open_bools (hval 2 39 v2 rfl rfl) h2
  clear hA0 hval0
  simp only [List.append_nil] at hW'
  refine (valueSums_walk f0 f1 f2 _ _ _ (fun j hj => by simp [hj]) (fun j hj => by simp [hj]) (fun j hj => by simp [hj]) w0 w1 W).mono fun e W' ⟨he, bel⟩ => ?_
  subst he
  exact ⟨_, rfl, _, _, _, [], _, [], hW', trodAll_mk1 (shut_bool Try.underlying4 _), (trodAll_cons_mk (Below.trod (by kernel_rfl) (by kernel_rfl) (of_decide_eq_true (by kernel_rfl)) h0 bel lt0) (trodAll_cons_mk (Below.trod (by kernel_rfl) (by kernel_rfl) (of_decide_eq_true (by kernel_rfl)) h1 bel lt1) (trodAll_cons_mk (Below.trod (by kernel_rfl) (by kernel_rfl) (of_decide_eq_true (by kernel_rfl)) h2 bel lt2) trodAll_mk0))), rfl, bel.frame _, fun h => by cases h⟩
/-- THE STATEMENT. -/
theorem valueSums_proved : Rows.ValueSumsSaid :=
  OpenClaim.holds_of_wide 7 Try.f7 rfl rfl rfl rfl rfl rfl rfl ⟨rfl, rfl, rfl, rfl, rfl⟩ rfl rfl rfl rfl rfl (by kernel_rfl) Try.func7 (by kernel_rfl)
    (of_decide_eq_true (by kernel_rfl)) (by unfold Func.isWrapper; first | (rw [if_pos (by decide +kernel)]; kernel_rfl) | (rw [if_neg (by decide +kernel)]; exact ⟨rfl, rfl⟩))
    (fun os started H enc _ => valueSums_lifted os started H enc)
#print axioms valueSums_proved
end Go.Proofs.Ytnjlefciekcehaa
