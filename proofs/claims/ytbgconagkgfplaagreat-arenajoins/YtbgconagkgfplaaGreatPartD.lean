/- Joined texts: contracts of the program's functions, and the mathematics that they lean on. -/
import Derived.Test.YtbgconagkgfplaaGreatPartC
import Derived.Shelf.Spec.SlicesInsert
import Derived.Shelf.Spec.SlicesInsertGrow
import Derived.OrdersIn
import Derived.RangeFuncCalls
import Derived.RangeFuncNested
import Derived.RangeFuncBound
import Derived.RangeFuncFrom
section
namespace Go.Proofs.YtbgconagkgfplaaGreat
open Go.RowKit
set_option linter.unusedVariables false
set_option linter.unusedSimpArgs false

def flatE (ps : List (En × Value × Value)) : List Value := ps.flatMap fun q => enL q.1 q.2.1 q.2.2
theorem flatE_cons (q : En × Value × Value) (ps : List (En × Value × Value)) : flatE (q :: ps) = enL q.1 q.2.1 q.2.2 ++ flatE ps := rfl
theorem flatE_snoc (ps : List (En × Value × Value)) (q : En × Value × Value) : flatE (ps ++ [q]) = flatE ps ++ enL q.1 q.2.1 q.2.2 := by unfold flatE; simp
theorem flatE_length : ∀ ps : List (En × Value × Value), (flatE ps).length = ps.length * 9
  | [] => rfl
  | q :: ps => by rw [flatE_cons, List.length_append, flatE_length ps, List.length_cons]; show 9 + _ = _; omega
theorem flatE_get : ∀ {ps : List (En × Value × Value)} {j : Nat} {q : En × Value × Value}, ps[j]? = some q → ∀ {i : Nat} {x : Value}, (enL q.1 q.2.1 q.2.2)[i]? = some x → (flatE ps)[j * 9 + i]? = some x
  | [], j, q, h, _, _, _ => by simp at h
  | p :: ps, 0, q, h, i, x, hx => by
    simp only [List.getElem?_cons_zero, Option.some.injEq] at h
    subst h
    have := (List.getElem?_eq_some_iff.1 hx).1
    rw [flatE_cons, Nat.zero_mul, Nat.zero_add, List.getElem?_append_left this]; exact hx
  | p :: ps, j + 1, q, h, i, x, hx => by
    rw [List.getElem?_cons_succ] at h
    have e : (j + 1) * 9 + i = 9 + (j * 9 + i) := by omega
    rw [flatE_cons, e, List.getElem?_append_right (by show 9 ≤ _; omega), show 9 + (j * 9 + i) - (enL p.1 p.2.1 p.2.2).length = j * 9 + i by show 9 + (j * 9 + i) - 9 = _; omega]
    exact flatE_get h hx
def RowsOk (ps : List (En × Value × Value)) (w : World) : Prop := ∀ q ∈ ps, isCells (q.1.val.plus.map intC) q.2.1 w ∧ isCells (q.1.val.minus.map intC) q.2.2 w
def OffQ (b : Nat) (q : En × Value × Value) : Prop := (q.1.val.plus.map intC = [] ∨ blk q.2.1 ≠ some b) ∧ (q.1.val.minus.map intC = [] ∨ blk q.2.2 ≠ some b)
theorem own_low {B B' : Nat} {w : World} {e : TypeId} {size : Nat} {v : Value} {n : Nat} {xs : List Value} (h : w.ownsRow B e size v n xs) (hB : B' ≤ B) : w.ownsRow B' e size v n xs := by
  obtain ⟨hl, h | ⟨g, cap, cur, hv, hg, rest⟩⟩ := h
  · exact ⟨hl, .inl h⟩
  · exact ⟨hl, .inr ⟨g, cap, cur, hv, Nat.le_trans hB hg, rest⟩⟩
theorem own_ens {B : Nat} {w : World} {v : Value} {ps : List (En × Value × Value)} (h : w.ownsRow B 30 9 v ps.length (flatE ps)) (hr : RowsOk ps w) : isEns (ps.map (·.1)) v w := by
  obtain ⟨hl, ⟨rfl, h0⟩ | ⟨g, cap, cur, rfl, hB, hg, hn, hc, hcs, ht⟩⟩ := h
  · have : ps = [] := List.eq_nil_of_length_eq_zero h0
    subst this
    exact .inl ⟨rfl, rfl⟩
  · refine .inr (.inr ⟨g, 0, cap, by rw [List.length_map], (Array.getElem?_eq_some_iff.1 hg).1, fun j E hj => ?_⟩)
    rw [List.getElem?_map] at hj
    obtain ⟨q, hq, rfl⟩ := Option.map_eq_some_iff.1 hj
    obtain ⟨h1, h2⟩ := hr q (List.mem_of_getElem? hq)
    refine ⟨q.2.1, q.2.2, fun i x hx => ?_, h1, h2⟩
    have hx2 := flatE_get hq (i := i) (x := x) hx
    rw [← ht, List.getElem?_take] at hx2
    split at hx2
    · have e : w.cell? ⟨g, 0 + j * 9 + i, none⟩ = cur[j * 9 + i]? := by simp [World.cell?, hg]
      rw [e, ← Array.getElem?_toList]
      exact hx2
    · cases hx2
/-- What changes: a struct in block g, with rows of its own. -/
structure ChA (B : Nat) (w : World) (g : Nat) (A : Ar) (vs vi : Value) (ps : List (En × Value × Value)) : Prop where
  st : Blk w g [.int .i64 A.cap, vs, vi]
  lo : B ≤ g
  own : w.ownsRow B 30 9 vs ps.length (flatE ps)
  sl : ps.map (·.1) = A.slots
  idx : w.ownsRow B 3 1 vi A.index.length (A.index.map intC)
  rows : RowsOk ps w
  n1 : vs.ownBlock ≠ some g
  n2 : vi.ownBlock ≠ some g
  n3 : ∀ b, vs.ownBlock = some b → vi.ownBlock ≠ some b
  off : ∀ q ∈ ps, ∀ b, b = g ∨ vs.ownBlock = some b ∨ vi.ownBlock = some b → OffQ b q
  nw : ∀ q ∈ ps, NewB B q.2.1 ∧ NewB B q.2.2
theorem ChA.keep {B : Nat} {w w' : World} {g : Nat} {A : Ar} {vs vi : Value} {ps : List (En × Value × Value)} (h : ChA B w g A vs vi ps) (hb : Below w.heap.size w w') : ChA B w' g A vs vi ps :=
  ⟨h.st.keep hb, h.lo, own_grow h.own hb, h.sl, own_grow h.idx hb, fun q hq => ⟨stable_cells _ _ _ _ (h.rows q hq).1 hb, stable_cells _ _ _ _ (h.rows q hq).2 hb⟩, h.n1, h.n2, h.n3, h.off, h.nw⟩
theorem ChA.low {B B' : Nat} {w : World} {g : Nat} {A : Ar} {vs vi : Value} {ps : List (En × Value × Value)} (h : ChA B w g A vs vi ps) (hB : B' ≤ B) : ChA B' w g A vs vi ps :=
  ⟨h.st, Nat.le_trans hB h.lo, own_low h.own hB, h.sl, own_low h.idx hB, h.rows, h.n1, h.n2, h.n3, h.off, fun q hq => ⟨(h.nw q hq).1.low hB, (h.nw q hq).2.low hB⟩⟩
theorem ChA.ens {B : Nat} {w : World} {g : Nat} {A : Ar} {vs vi : Value} {ps : List (En × Value × Value)} (h : ChA B w g A vs vi ps) : isEns A.slots vs w := by
  have := own_ens h.own h.rows
  rwa [h.sl] at this
theorem ChA.ints {B : Nat} {w : World} {g : Nat} {A : Ar} {vs vi : Value} {ps : List (En × Value × Value)} (h : ChA B w g A vs vi ps) : isCells (A.index.map intC) vi w := by
  refine isOwn.cells (B := B) (e := 3) ?_
  unfold isOwn
  rw [List.length_map]
  exact h.idx
theorem ChA.ar {B : Nat} {w : World} {g : Nat} {A : Ar} {vs vi : Value} {ps : List (En × Value × Value)} (h : ChA B w g A vs vi ps) : isAr A (.agg #[.int .i64 A.cap, vs, vi]) w := ⟨vs, vi, rfl, h.ens, h.ints⟩
theorem ChA.len {B : Nat} {w : World} {g : Nat} {A : Ar} {vs vi : Value} {ps : List (En × Value × Value)} (h : ChA B w g A vs vi ps) : ps.length = A.slots.length := by rw [← h.sl, List.length_map]
/-- What was changed, as an arena, where a block older than its rows is written. -/
theorem ChA.ar_set {B : Nat} {w : World} {g : Nat} {A : Ar} {vs vi : Value} {ps : List (En × Value × Value)} (h : ChA B w g A vs vi ps) {b : Nat} (hb : b < B) (k : Nat) (l : List Value) : isAr A (.agg #[.int .i64 A.cap, vs, vi]) (setN w b k l) := by
  have bt : Bt (fun x => x = b) w (setN w b k l) := by
    have key : ∀ (l : List Value) (k : Nat) (w : World), Bt (fun x => x = b) w (setN w b k l) := by
      intro l
      induction l with
      | nil => intro k w; exact ⟨rfl, rfl, rfl, Nat.le_refl _, fun _ _ _ => rfl⟩
      | cons v r ih => intro k w; rw [setN]; exact (bt_set (S := fun x => x = b) b k v w rfl).trans (ih (k + 1) _)
    exact key l k w
  have hw : ∀ x, B ≤ x → ¬ x = b := fun x hx e => by omega
  refine ⟨vs, vi, rfl, ?_, ?_⟩
  · have := own_ens (bt.own h.own (fun x hx => hw x (h.own.lt x hx).1)) (fun q hq => ⟨bt.cells (h.rows q hq).1 (.inr (fun x hx => hw x ((h.nw q hq).1 x hx))), bt.cells (h.rows q hq).2 (.inr (fun x hx => hw x ((h.nw q hq).2 x hx)))⟩)
    rwa [h.sl] at this
  · refine isOwn.cells (B := B) (e := 3) ?_
    unfold isOwn
    rw [List.length_map]
    exact bt.own h.idx (fun x hx => hw x (h.idx.lt x hx).1)
theorem ChA.lt {B : Nat} {w : World} {g : Nat} {A : Ar} {vs vi : Value} {ps : List (En × Value × Value)} (h : ChA B w g A vs vi ps) : g < w.heap.size := h.st.lt
/-- One more slot. -/
theorem ChA.push {B : Nat} {w w' : World} {g : Nat} {A : Ar} {vs vi : Value} {ps : List (En × Value × Value)} (h : ChA B w g A vs vi ps) (E : En) (v vp vm : Value)
    (h1 : w'.ownsRow B 30 9 v (ps.length + 1) (flatE ps ++ enL E vp vm)) (h2 : isCells (E.val.plus.map intC) vp w') (h3 : isCells (E.val.minus.map intC) vm w') (h4 : NewB w.heap.size vp) (h5 : NewB w.heap.size vm) (h6 : v.ownBlock = vs.ownBlock ∨ NewB w.heap.size v) (h7 : ∀ b, v.ownBlock = some b → (E.val.plus.map intC = [] ∨ blk vp ≠ some b) ∧ (E.val.minus.map intC = [] ∨ blk vm ≠ some b)) (h8 : Blk w' g [.int .i64 A.cap, v, vi]) (h9 : Bt (fun b => b = g ∨ vs.ownBlock = some b) w w') : ChA B w' g ⟨A.cap, A.slots ++ [E], A.index⟩ v vi (ps ++ [(E, vp, vm)]) := by
  have hg := h.lt
  have new_v : ∀ b, v.ownBlock = some b → vs.ownBlock = some b ∨ w.heap.size ≤ b := fun b hb => h6.imp (fun e => by rw [← e]; exact hb) (fun e => e b (own_blk_eq hb))
  have vi_lt : ∀ b, vi.ownBlock = some b → b < w.heap.size := fun b hb => (h.idx.lt b hb).2
  have hBw : B ≤ w.heap.size := by have := h.lo; omega
  refine ⟨h8, h.lo, ?_, ?_, h9.own h.idx (fun b hb => ?_), ?_, ?_, h.n2, ?_, ?_, fun q hq => (List.mem_append.1 hq).elim (h.nw q) (fun hq => by rw [List.mem_singleton] at hq; subst hq; exact ⟨h4.low hBw, h5.low hBw⟩)⟩
  · rw [List.length_append, flatE_snoc]; exact h1
  · rw [List.map_append, h.sl]; rfl
  · rintro (rfl | e)
    · exact h.n2 hb
    · exact h.n3 b e hb
  · intro q hq
    rcases List.mem_append.1 hq with hq | hq
    · have o := h.off q hq
      refine ⟨h9.cells (h.rows q hq).1 ?_, h9.cells (h.rows q hq).2 ?_⟩
      · by_cases e : q.1.val.plus.map intC = []
        · exact .inl e
        · exact .inr (fun b hb hS => ((o b (by rcases hS with hS | hS; exact .inl hS; exact .inr (.inl hS))).1.resolve_left e) hb)
      · by_cases e : q.1.val.minus.map intC = []
        · exact .inl e
        · exact .inr (fun b hb hS => ((o b (by rcases hS with hS | hS; exact .inl hS; exact .inr (.inl hS))).2.resolve_left e) hb)
    · rw [List.mem_singleton] at hq
      subst hq
      exact ⟨h2, h3⟩
  · intro e
    rcases new_v g e with e | e
    · exact h.n1 e
    · omega
  · intro b hb e
    rcases new_v b hb with e2 | e2
    · exact h.n3 b e2 e
    · have := vi_lt b e; omega
  · intro q hq b hb
    rcases List.mem_append.1 hq with hq | hq
    · have o := h.off q hq
      rcases hb with hb | hb | hb
      · exact o b (.inl hb)
      · rcases new_v b hb with e | e
        · exact o b (.inr (.inl e))
        · refine ⟨(cells_lt (h.rows q hq).1).imp id (fun h3 e3 => ?_), (cells_lt (h.rows q hq).2).imp id (fun h3 e3 => ?_)⟩
          · have := h3 b e3; omega
          · have := h3 b e3; omega
      · exact o b (.inr (.inr hb))
    · rw [List.mem_singleton] at hq
      subst hq
      rcases hb with rfl | hb | hb
      · exact ⟨.inr (h4.ne hg), .inr (h5.ne hg)⟩
      · exact h7 b hb
      · exact ⟨.inr (h4.ne (vi_lt b hb)), .inr (h5.ne (vi_lt b hb))⟩
attribute [local irreducible] setN
section
variable {P : Program} {ops : Array Oper} {Q : Exit → Act → World → Prop} {i : Nat} {a : Act} {w : World} {c : Nat}
theorem tail_assignA (x : Operand) (d : Tmp) (v : Value) (hop : (ops[i]?).map (fun o => (o.op, o.guard)) = some (.assign x, none)) (hd : (ops[i]?).bind (·.dst) = some d) (hx : a.eval x = v) (h : Tail P ops Q c (i + 1) (a.put (some d) v) w) : Tail P ops Q (c + 1) i a w :=
  tail_op (fun _ _ => True) hop fun o ho e => by
    rw [ho] at hd
    simp only [Option.bind_some] at hd
    unfold Oper.wp execOp
    rw [e]
    simp only [Sem.run_pure, Oper.upon, hx, hd]
    exact h
theorem tail_box (t : TypeId) (x : Operand) (d : Tmp) (cs : Array Value) (hop : (ops[i]?).map (fun o => (o.op, o.guard)) = some (.box t x, none)) (hd : (ops[i]?).bind (·.dst) = some d) (hx : a.eval x = .agg cs) (h : Tail P ops Q c (i + 1) (a.put (some d) (.pointer (some ⟨w.heap.size, 0, none⟩))) (w.alloc (.cells cs t))) : Tail P ops Q (c + 1) i a w :=
  tail_op (fun _ _ => True) hop fun o ho e => by
    rw [ho] at hd
    simp only [Option.bind_some] at hd
    unfold Oper.wp execOp
    rw [e]
    simp [Instr.box, newVar, hx, Oper.upon, hd, Value.cells]
    exact h
end
theorem built_ar (c : Int) (p : Option Addr) (n cp : Nat) : Tryz.prog.built 25 [(0, .int .i64 c), (2, .slice p n cp)] = some #[.int .i64 c, .slice none 0 0, .slice p n cp] := by kernel_rfl
theorem built_ch (c : Int) (p : Option Addr) (n cp : Nat) : Tryz.prog.built 72 [(0, .agg #[.int .i64 c, .slice none 0 0, .slice p n cp])] = some #[.int .i64 c, .slice none 0 0, .slice p n cp] := by kernel_rfl
theorem put_kept4 {Q : Exit → Act → World → Prop} {a : Act} {d1 d2 d3 d4 : Tmp} {v1 v2 v3 v4 : Value} {t : Array Value} {ds : List Deferred} {w : World} (e : a = { tmps := t, defers := ds }) (h : Q .normal { tmps := (((t.setIfInBounds d1 v1).setIfInBounds d2 v2).setIfInBounds d3 v3).setIfInBounds d4 v4, defers := ds } w) : Q .normal ((((a.put (some d1) v1).put (some d2) v2).put (some d3) v3).put (some d4) v4) w := by
  subst e; exact h
noncomputable def chg1Ops : Array Oper := regionOf Tryz.f48 1
set_option maxRecDepth 100000 in
set_option maxHeartbeats 2000000 in
theorem chg1_region (Q : Exit → Act → World → Prop) (a0 : Act) (w0 : World) (hsz : a0.tmps.size = 36) (A : Ar) (g : Nat) (vs vi : Value) (e1 : a0.tmps.getD 1 undef = .pointer (some ⟨g, 0, none⟩)) (HG : Blk w0 g [.int .i64 A.cap, vs, vi]) (hi : isCells (A.index.map intC) vi w0) (hl : A.index.length * 8 ≤ 140737488355328)
    (hQ : ∀ (y : Nat → Value) (c : Nat) (vi' : Value) (w : World), ChA w0.heap.size w c ⟨A.cap, [], A.index⟩ (.slice none 0 0) vi' [] → Below w0.heap.size w0 w →
      Q .normal { tmps := (((([6, 7, 8, 9, 10, 11, 12, 13, 3].foldl (fun t s => t.setIfInBounds s (y s)) a0.tmps).setIfInBounds 11 (.agg #[.int .i64 A.cap, .slice none 0 0, vi'])).setIfInBounds 12 (.agg #[.int .i64 A.cap, .slice none 0 0, vi'])).setIfInBounds 13 (.pointer (some ⟨c, 0, none⟩))).setIfInBounds 3 (.pointer (some ⟨c, 0, none⟩)), defers := a0.defers } w) :
    (Code.region 1 chg1Ops true).wp Tryz.prog Q a0 w0 := by
  refine wp_region_cov 5 mixed (by rw [hsz]; kernel_rfl) (by kernel_rfl) ?_
  rw [show chg1Ops.size - 5 = 4 by kernel_rfl]
  refine ⟨isVal (.pointer (some ⟨g, 0, none⟩)), step_field 25 (.tmp 1) 0 ⟨g, 0, none⟩ ⟨g, 0, none⟩ (by kernel_rfl) (wanted_none (by kernel_rfl)) (knows_old 1 (.pointer (some ⟨g, 0, none⟩)) (by kernel_rfl) e1) (f_ar_0_0 (g)), ?_⟩
  refine ⟨isVal (.int .i64 A.cap), step_read 3 (.tmp 6) ⟨g, 0, none⟩ (.int .i64 A.cap) (by kernel_rfl) (wanted_none (by kernel_rfl)) (knows_new (V := isVal (.pointer (some ⟨g, 0, none⟩))) 6 0 (by kernel_rfl) (by kernel_rfl) (by kernel_rfl)) (HG.cells.2 0 _ rfl) (HG.lt) (agg_noZ), ?_⟩
  refine ⟨isVal (.pointer (some ⟨g, 2, none⟩)), step_field 25 (.tmp 1) 2 ⟨g, 0, none⟩ ⟨g, 2, none⟩ (by kernel_rfl) (wanted_none (by kernel_rfl)) (knows_old 1 (.pointer (some ⟨g, 0, none⟩)) (by kernel_rfl) e1) (f_ar_0_2 (g)), ?_⟩
  refine ⟨isVal vi, step_read 23 (.tmp 8) ⟨g, 2, none⟩ vi (by kernel_rfl) (wanted_none (by kernel_rfl)) (knows_new (V := isVal (.pointer (some ⟨g, 2, none⟩))) 8 2 (by kernel_rfl) (by kernel_rfl) (by kernel_rfl)) (HG.cells.2 2 _ rfl) (HG.lt) (agg_noI), ?_⟩
  refine ⟨(isOwn w0.heap.size 3 (A.index.map intC)), step_call 96 #[.tmp 9] #[23] #[vi] (by kernel_rfl) (wanted_none (by kernel_rfl)) (stable_own _ _ _) (args1 (.tmp 9) vi (knows_new (V := isVal vi) 9 3 (by kernel_rfl) (by kernel_rfl) (by kernel_rfl))) (enters_of Tryz.func96 (by kernel_rfl) rfl) (by intro w' hb; exact clone_i' w0.heap.size A.index vi w' (stable_cells _ _ _ _ hi hb) hl hb.size), ?_⟩
  intro a w hkp hb hd
  have d7 := fdone_of (hd 1 (by decide)) (t := 7) (V := isVal (.int .i64 A.cap)) (by kernel_rfl) (by kernel_rfl)
  have d10 := fdone_of (hd 4 (by decide)) (t := 10) (V := isOwn w0.heap.size 3 (A.index.map intC)) (by kernel_rfl) (by kernel_rfl)
  generalize hv : a.tmps.getD 10 undef = v at d10
  have hown : w.ownsRow w0.heap.size 3 1 v A.index.length (A.index.map intC) := by have := d10; unfold isOwn at this; rwa [List.length_map] at this
  obtain ⟨p, n, cp, hvv⟩ : ∃ p n c, v = .slice p n c := by
    obtain ⟨_, ⟨rfl, _⟩ | ⟨g', cap, cur, rfl, _⟩⟩ := hown
    · exact ⟨_, _, _, rfl⟩
    · exact ⟨_, _, _, rfl⟩
  have hs : a.tmps.size = 36 := hkp.2.1.trans hsz
  obtain ⟨y, ey⟩ := kept_ex hkp [some 6, some 7, some 8, some 9, some 10, some 11, some 12, some 13, some 3] [6, 7, 8, 9, 10, 11, 12, 13, 3] (by kernel_rfl) (by decide)
  have hlt : ∀ j, v.ownBlock = some j → w0.heap.size ≤ j ∧ j < w.heap.size := hown.lt
  subst hvv
  have b1 : Tryz.prog.built 25 ((#[(0, .tmp 7), (2, .tmp 10)] : Array (Nat × Operand)).map fun (i, x) => (i, a.eval x)).toList = some #[.int .i64 A.cap, .slice none 0 0, .slice p n cp] := by
    have e7 : a.eval (.tmp 7) = .int .i64 A.cap := d7
    have e10 : a.eval (.tmp 10) = .slice p n cp := hv
    simp only [List.map_toArray, List.map_cons, List.map_nil, e7, e10]
    exact built_ar _ _ _ _
  refine tail_build 25 #[(0, .tmp 7), (2, .tmp 10)] #[.int .i64 A.cap, .slice none 0 0, .slice p n cp] 11 (by kernel_rfl) (by kernel_rfl) b1 ?_
  have b2 : Tryz.prog.built 72 ((#[(0, .tmp 11)] : Array (Nat × Operand)).map fun (i, x) => (i, (a.put (some 11) (.agg #[.int .i64 A.cap, .slice none 0 0, .slice p n cp])).eval x)).toList = some #[.int .i64 A.cap, .slice none 0 0, .slice p n cp] := by
    have e11 : (a.put (some 11) (.agg #[.int .i64 A.cap, .slice none 0 0, .slice p n cp])).eval (.tmp 11) = .agg #[.int .i64 A.cap, .slice none 0 0, .slice p n cp] := getD_put_self (by rw [hs]; decide)
    simp only [List.map_toArray, List.map_cons, List.map_nil, e11]
    exact built_ch _ _ _ _
  refine tail_build 72 #[(0, .tmp 11)] #[.int .i64 A.cap, .slice none 0 0, .slice p n cp] 12 (by kernel_rfl) (by kernel_rfl) b2 ?_
  refine tail_box 72 (.tmp 12) 13 #[.int .i64 A.cap, .slice none 0 0, .slice p n cp] (by kernel_rfl) (by kernel_rfl) (getD_put_self (by rw [size_put, hs]; decide)) ?_
  refine tail_assignA (.tmp 13) 3 (.pointer (some ⟨w.heap.size, 0, none⟩)) (by kernel_rfl) (by kernel_rfl) (getD_put_self (by rw [size_put, size_put, hs]; decide)) ?_
  have hbl := lit_below w (.cells #[.int .i64 A.cap, .slice none 0 0, .slice p n cp] 72)
  have hch : ChA w0.heap.size (w.alloc (.cells #[.int .i64 A.cap, .slice none 0 0, .slice p n cp] 72)) w.heap.size ⟨A.cap, [], A.index⟩ (.slice none 0 0) (.slice p n cp) [] := ⟨Blk.new w 72 _ _ rfl, hb.size, World.ownsRow_nil _ _ _ _, rfl, own_grow hown hbl, (fun q hq => by cases hq), (fun h => by cases h), (fun h => by have := (hlt _ h).2; omega), (fun b h => by cases h), (fun q hq => by cases hq), (fun q hq => by cases hq)⟩
  have hq := hQ y w.heap.size (.slice p n cp) _ hch (hb.trans (hbl.mono hb.size))
  exact put_kept4 ey hq
set_option maxRecDepth 100000 in
set_option maxHeartbeats 2000000 in
theorem change_any (A : Ar) (v : Value) (w : World) (hv : isAr A v w) (hF : FitA A) : Calls Tryz.prog 48 #[v] w fun e w' => ∃ c vs vi ps, e = .returned (.pointer (some ⟨c, 0, none⟩)) ∧ ChA w.heap.size w' c A vs vi ps ∧ Below w.heap.size w w' := by
  obtain ⟨vs0, vi0, rfl, hs, hi⟩ := hv
  have hb0 := lit_below w (.cells #[.int .i64 A.cap, vs0, vi0] 25)
  have HG := Kept.mk (Blk.new w 25 [.int .i64 A.cap, vs0, vi0] w.heap.size rfl)
  have hB := Kept.mk hb0
  have HS := Kept.mk hs
  have HG0 : w.heap.size < (w.alloc (.cells #[.int .i64 A.cap, vs0, vi0] 25)).heap.size := by simp
  have HI := Kept.mk (stable_cells _ _ _ _ hi hb0)
  have f1 := hF.slots
  have f2 := hF.index
  clear hs hi hb0
  go_enter Tryz.func48, Tryz.ntmps48
  go_wp2_with fail
  generalize (w.alloc (.cells #[.int .i64 A.cap, vs0, vi0] 25)) = W0 at *
  refine chg1_region _ _ _ rfl A w.heap.size vs0 vi0 rfl HG.out HI.out (by omega) ?_
  intro y c vi' W1 hch hb1
  simp only [List.foldl_cons, List.foldl_nil]
  generalize y 6 = z6
  generalize y 7 = z7
  generalize y 8 = z8
  generalize y 9 = z9
  generalize y 10 = z10
  generalize y 11 = z11
  generalize y 12 = z12
  generalize y 13 = z13
  generalize y 3 = z3
  simp only [List.setIfInBounds_toArray, List.set_cons_succ, List.set_cons_zero]
  have hsz := hB.out.size
  obtain ⟨N0, hN0⟩ : ∃ N0, W0.heap.size = N0 := ⟨_, rfl⟩
  rw [hN0] at hch HG0
  have HCH := Kept.mk (show ∃ vs vi ps, ChA N0 W1 c ⟨A.cap, A.slots.take 0, A.index⟩ vs vi ps from ⟨_, _, _, hch⟩)
  replace HG := Kept.mk (HG.out.keep hb1)
  replace hB := Kept.mk (hB.out.trans (hb1.mono hsz))
  have hgc : w.heap.size ≠ c := by have := hch.lo; have := HG0; omega
  obtain ⟨sa, cs, e0⟩ := HS.out.len
  have K1 := HG.out.cells.2 1 _ rfl
  clear HI hb1 hch
  subst e0
  go_wp2
  clear K1
  go_loopw [17] (fun i wr => ∃ k : Nat, k ≤ A.slots.length ∧ i = .int .i64 (k : Int) ∧ Kept (Below w.heap.size w wr) ∧ Kept (Blk wr w.heap.size [.int .i64 A.cap, .slice sa A.slots.length cs, vi0]) ∧ Kept (∃ vs vi ps, ChA N0 wr c ⟨A.cap, A.slots.take k, A.index⟩ vs vi ps)) (fun i _ => A.slots.length - (intOf i).toNat)
  case atStart => exact ⟨0, Nat.zero_le _, rfl, hB, HG, HCH⟩
  case round =>
    clear hB HG HCH
    obtain ⟨k, hk, rfl, B, HG, HCH⟩ := hrel
    by_cases hlt : k < A.slots.length
    · have hlt' : (k : Int) < (A.slots.length : Int) := by omega
      obtain ⟨E, hE⟩ : ∃ E, A.slots[k]? = some E := ⟨_, List.getElem?_eq_getElem hlt⟩
      obtain ⟨bs, os, cs', hvs, hbs, hat⟩ := HS.out.get hE
      injection hvs with h1 _ h2
      subst h1 h2
      obtain ⟨ep, em, hcell, hp0, hm0⟩ := hat
      have hsw := B.out.size
      have FE := Kept.mk (hF.ents E (List.mem_of_getElem? hE))
      have OP := Kept.mk (And.intro (cells_lt hp0) (cells_lt hm0))
      have hp := stable_cells _ _ _ _ hp0 B.out
      have hm := stable_cells _ _ _ _ hm0 B.out
      have kc0 : wr.cell? ⟨bs, os + k * 9, none⟩ = _ := (B.out.cell (p := ⟨bs, os + k * 9 + 0, none⟩) hbs).trans (hcell 0 _ rfl)
      have kc1 : wr.cell? ⟨bs, os + k * 9 + 1, none⟩ = _ := (B.out.cell (p := ⟨bs, os + k * 9 + 1, none⟩) hbs).trans (hcell 1 _ rfl)
      have kc2 : wr.cell? ⟨bs, os + k * 9 + 2, none⟩ = _ := (B.out.cell (p := ⟨bs, os + k * 9 + 2, none⟩) hbs).trans (hcell 2 _ rfl)
      have kc3 : wr.cell? ⟨bs, os + k * 9 + 3, none⟩ = _ := (B.out.cell (p := ⟨bs, os + k * 9 + 3, none⟩) hbs).trans (hcell 3 _ rfl)
      have kc4 : wr.cell? ⟨bs, os + k * 9 + 4, none⟩ = _ := (B.out.cell (p := ⟨bs, os + k * 9 + 4, none⟩) hbs).trans (hcell 4 _ rfl)
      have kc5 : wr.cell? ⟨bs, os + k * 9 + 5, none⟩ = _ := (B.out.cell (p := ⟨bs, os + k * 9 + 5, none⟩) hbs).trans (hcell 5 _ rfl)
      have kc6 : wr.cell? ⟨bs, os + k * 9 + 6, none⟩ = _ := (B.out.cell (p := ⟨bs, os + k * 9 + 6, none⟩) hbs).trans (hcell 6 _ rfl)
      have kc7 : wr.cell? ⟨bs, os + k * 9 + 7, none⟩ = _ := (B.out.cell (p := ⟨bs, os + k * 9 + 7, none⟩) hbs).trans (hcell 7 _ rfl)
      have kc8 : wr.cell? ⟨bs, os + k * 9 + 8, none⟩ = _ := (B.out.cell (p := ⟨bs, os + k * 9 + 8, none⟩) hbs).trans (hcell 8 _ rfl)
      obtain ⟨K1, K2, K3, K4, K5⟩ := enew wr E ep em hp hm wr.heap.size rfl
      have HH := Kept.mk ((Blk.new wr 30 [.string ⟨#[]⟩, .int .i64 0, .int .i64 0, .int .i64 0, .bool false, .string ⟨#[]⟩, .slice none 0 0, .slice none 0 0, .int .u64 0] wr.heap.size rfl).all_ (l := [.string ⟨E.key.toArray⟩, .int .i64 E.val.kind, .int .i64 E.val.time, .int .i64 E.val.node, .bool E.val.dead, .string ⟨E.val.text.toArray⟩, ep, em, .int .u64 (E.val.flags.toNat : Int)]) rfl)
      have HE := Kept.mk hE
      have HGW : w.heap.size < wr.heap.size := HG.out.lt
      clear hcell hp0 hm0 hp hm hE
      go_wp2_with (have hz0 := K1; refine wpList_storeN 30 rfl (.tmp 5) (.tmp 20) rfl wr.heap.size [.string ⟨E.key.toArray⟩, .int .i64 E.val.kind, .int .i64 E.val.time, .int .i64 E.val.node, .bool E.val.dead, .string ⟨E.val.text.toArray⟩, ep, em, .int .u64 (E.val.flags.toNat : Int)] size_en rfl rfl K1.out rfl K2.out K5.out ?_; clear hz0 K1 K2 K5 kc0 kc1 kc2 kc3 kc4 kc5 kc6 kc7 kc8)
      have hs2 := K3.out.size
      have hw2 : wr.heap.size < (setN (wr.alloc (.cells #[.string ⟨#[]⟩, .int .i64 0, .int .i64 0, .int .i64 0, .bool false, .string ⟨#[]⟩, .slice none 0 0, .slice none 0 0, .int .u64 0] 30)) wr.heap.size 0 [.string ⟨E.key.toArray⟩, .int .i64 E.val.kind, .int .i64 E.val.time, .int .i64 E.val.node, .bool E.val.dead, .string ⟨E.val.text.toArray⟩, ep, em, .int .u64 (E.val.flags.toNat : Int)]).heap.size := HH.out.lt
      generalize (setN (wr.alloc (.cells #[.string ⟨#[]⟩, .int .i64 0, .int .i64 0, .int .i64 0, .bool false, .string ⟨#[]⟩, .slice none 0 0, .slice none 0 0, .int .u64 0] 30)) wr.heap.size 0 [.string ⟨E.key.toArray⟩, .int .i64 E.val.kind, .int .i64 E.val.time, .int .i64 E.val.node, .bool E.val.dead, .string ⟨E.val.text.toArray⟩, ep, em, .int .u64 (E.val.flags.toNat : Int)]) = W2 at *
      obtain ⟨vs, vi, ps, hch⟩ := HCH.out
      have hps : ps.length ≤ 1000 := by rw [hch.len]; simp; omega
      have hch2 := hch.keep K3.out
      have hvs : ∀ s, vs.ownBlock = some s → N0 ≤ s ∧ s < wr.heap.size := hch.own.lt
      refine chapp_region _ _ _ rfl c wr.heap.size N0 ps.length [.int .i64 A.cap, vs, vi] E vs ep em (flatE ps) rfl rfl hch2.st rfl HH.out K4.out.2.1 K4.out.2.2 FE.out hch2.own hps (by have := hch.lo; have := hch.lt; omega) (fun s hs => ?_) ?_
      · obtain ⟨l1, l2⟩ := hvs s hs
        refine ⟨fun e => hch.n1 (by rw [hs, e]), by omega, OP.out.1.imp id (fun h e => ?_), OP.out.2.imp id (fun h e => ?_)⟩
        · have := h s e; omega
        · have := h s e; omega
      intro y v vp vm W3 h1 h2 h3 h4 h5 h6 h7 h8 h9
      have hch3 := hch2.push E v vp vm h1 h2 h3 h4 h5 h6 h7 h8 h9
      have htk : A.slots.take k ++ [E] = A.slots.take (k + 1) := by rw [List.take_add_one, HE.out]; rfl
      simp only [htk] at hch3
      have B3 := Kept.mk (B.out.trans ((K3.out.mono hsw).trans (h9.below (fun b hb => by rcases hb with rfl | hb; (have := hch.lo; omega); (have := (hvs b hb).1; omega)) (by omega))))
      have HG3 := Kept.mk (h9.blk (HG.out.keep K3.out) (by rintro (e | e); exact hgc e; have := (hvs _ e).1; omega))
      have HCH3 := Kept.mk (show ∃ vs vi ps, ChA N0 W3 c ⟨A.cap, A.slots.take (k + 1), A.index⟩ vs vi ps from ⟨_, _, _, hch3⟩)
      clear h1 h2 h3 h4 h5 h6 h7 h8 h9 hch hch2 hch3 hvs K3 K4 HH
      simp only [List.foldl_cons, List.foldl_nil]
      generalize y 21 = z21'
      generalize y 22 = z22'
      generalize y 23 = z23'
      generalize y 24 = z24'
      generalize y 25 = z25'
      generalize y 26 = z26'
      generalize y 27 = z27'
      generalize y 28 = z28'
      generalize y 29 = z29'
      generalize y 30 = z30'
      generalize y 31 = z31'
      generalize y 32 = z32'
      generalize y 33 = z33'
      simp only [List.setIfInBounds_toArray, List.set_cons_succ, List.set_cons_zero]
      go_wp2
      go_roundw
      case rel => exact ⟨k + 1, by omega, by go_num, B3, HG3, HCH3⟩
      case measure => simp [intOf]; omega
    · have hlt' : ¬ (k : Int) < (A.slots.length : Int) := by omega
      obtain ⟨vs, vi, ps, hch⟩ := HCH.out
      rw [show A.slots.take k = A.slots from List.take_of_length_le (by omega)] at hch
      have HC := Kept.mk hch
      clear hch
      go_wp2
      go_ret
      exact ⟨c, rfl, ⟨vs, vi, ps, HC.out.low (by omega)⟩, B.out⟩
end Go.Proofs.YtbgconagkgfplaaGreat
end
section
namespace Go.Proofs
open Go.Shelf
def Tryz.laysIns_ren : Go.Shelf.Ren := ⟨fun | 21 => 99 | 27 => 126 | 28 => 127 | 35 => 136 | 39 => 139 | n => n, fun | 0 => 0 | 3 => 3 | 4 => 4 | 22 => 23 | n => n, fun | n => n⟩
theorem Tryz.laysIns : Go.Proofs.Lays2.n21 Tryz.prog Tryz.laysIns_ren := {
  mixed := by kernel_rfl
  f21 := Tryz.func99.trans (congrArg some (by kernel_rfl))
  f27 := Tryz.func126.trans (congrArg some (by kernel_rfl))
  f28 := Tryz.func127.trans (congrArg some (by kernel_rfl))
  f35 := Tryz.func136.trans (congrArg some (by kernel_rfl))
  f39 := Tryz.func139.trans (congrArg some (by kernel_rfl))
  t0 := Tryz.underlying0
  a0 := Tryz.isAgg0
  z0 := Tryz.sizeOf0
  v0 := Tryz.zeroValue0
  t3 := Tryz.underlying3
  a3 := Tryz.isAgg3
  z3 := Tryz.sizeOf3
  v3 := Tryz.zeroValue3
  t4 := Tryz.underlying4
  a4 := Tryz.isAgg4
  z4 := Tryz.sizeOf4
  v4 := Tryz.zeroValue4
  t22 := Tryz.underlying23
  a22 := Tryz.isAgg23
  z22 := Tryz.sizeOf23
  v22 := Tryz.zeroValue23
  i3 := by kernel_rfl }
end Go.Proofs
namespace Go.Proofs.YtbgconagkgfplaaGreat
open Go.RowKit
set_option linter.unusedVariables false
set_option linter.unusedSimpArgs false

def setL (cur : Array Value) : Nat → List Value → Array Value
  | _, [] => cur
  | o, v :: r => setL (cur.setIfInBounds o v) (o + 1) r
theorem setL_size : ∀ (vs : List Value) (o : Nat) (cur : Array Value), (setL cur o vs).size = cur.size
  | [], _, _ => rfl
  | v :: r, o, cur => by rw [setL, setL_size r]; simp
theorem setL_get : ∀ (vs : List Value) (o : Nat) (cur : Array Value) (j : Nat), (setL cur o vs)[j]? = if o ≤ j ∧ j < o + vs.length ∧ j < cur.size then vs[j - o]? else cur[j]?
  | [], o, cur, j => by rw [setL, if_neg (by simp; omega)]
  | v :: r, o, cur, j => by
    rw [setL, setL_get r (o + 1) _ j]
    simp only [Array.size_setIfInBounds, List.length_cons]
    by_cases h1 : o + 1 ≤ j ∧ j < o + 1 + r.length ∧ j < cur.size
    · rw [if_pos h1, if_pos (by omega), show j - o = (j - (o + 1)) + 1 by omega, List.getElem?_cons_succ]
    · rw [if_neg h1]
      by_cases h2 : j = o
      · subst h2
        by_cases h3 : j < cur.size
        · rw [if_pos (by omega), Nat.sub_self, List.getElem?_cons_zero, Array.getElem?_setIfInBounds_self_of_lt h3]
        · rw [if_neg (by omega), Array.getElem?_eq_none (by simp; omega), Array.getElem?_eq_none (by omega)]
      · rw [if_neg (by omega), Array.getElem?_setIfInBounds_ne (by omega)]
theorem heap_setCells {g : Nat} {e : TypeId} : ∀ (vs : List Value) (o : Nat) (w : World) (cur : Array Value), w.heap[g]? = some (.cells cur e (0, 0)) → (w.setCells g o vs).heap[g]? = some (.cells (setL cur o vs) e (0, 0))
  | [], _, _, _, h => h
  | v :: r, o, w, cur, h => by rw [World.setCells, setL]; exact heap_setCells r (o + 1) _ _ (Go.heap_setCell_same w g o cur e v h)
theorem setCells_gb (g : Nat) : ∀ (vs : List Value) (o : Nat) (w : World), w.grownBy (w.setCells g o vs) (some g)
  | [], _, w => (gb_pre (some g)).refl w
  | v :: r, o, w => by
    rw [World.setCells]
    refine (gb_pre (some g)).trans w (w.setCell ⟨g, o, none⟩ v) _ ⟨rfl, rfl, rfl, by simp, fun b _ hne => ?_⟩ (setCells_gb g r (o + 1) _)
    exact heap_setCell_other w ⟨g, o, none⟩ b v (by rintro rfl; exact hne rfl)
def insL (l : List Int) (i : Nat) (x : Int) : List Int := l.take i ++ (x :: l.drop i)
theorem insL_length (l : List Int) (i : Nat) (x : Int) (h : i ≤ l.length) : (insL l i x).length = l.length + 1 := by unfold insL; simp; omega
theorem insL_get (l : List Int) (i : Nat) (x : Int) (h : i ≤ l.length) (j : Nat) : (insL l i x)[j]? = if j < i then l[j]? else if j = i then some x else l[j - 1]? := by
  unfold insL
  by_cases h1 : j < i
  · rw [if_pos h1, List.getElem?_append_left (by simp; omega), List.getElem?_take_of_lt h1]
  · rw [if_neg h1, List.getElem?_append_right (by simp; omega)]
    have e : (l.take i).length = i := by simp; omega
    rw [e]
    by_cases h2 : j = i
    · subst h2; simp
    · rw [if_neg h2, show j - i = (j - i - 1) + 1 by omega, List.getElem?_cons_succ, List.getElem?_drop]
      congr 1; omega
theorem own_new_row {B : Nat} {w w' : World} {cur : Array Value} {cap : Nat} {cs : List Value} {g : Nat} (hg : w'.heap[g]? = some (.cells cur 3 (0, 0))) (hB : B ≤ g) (hn : cs.length ≤ cap) (hc : cap ≤ maxLen) (hs : cur.size = cap) (ht : cur.toList.take cs.length = cs) : w'.ownsRow B 3 1 (.slice (some ⟨g, 0, none⟩) cs.length cap) cs.length cs :=
  ⟨by simp, .inr ⟨g, cap, cur, rfl, hB, hg, hn, hc, by simp [hs], by simpa using ht⟩⟩
theorem own_alloc_row {B : Nat} {w : World} (cs : List Value) (cap : Nat) (z : Array Value) (hB : B ≤ w.heap.size) (hz : z.size = cap - cs.length) (hn : cs.length ≤ cap) (hc : cap ≤ maxLen) : (w.drew.alloc (.cells (cs.toArray ++ z) 3)).ownsRow B 3 1 (.slice (some ⟨w.heap.size, 0, none⟩) cs.length cap) cs.length cs :=
  own_new_row (w := w) (heap_alloc_new w.drew _) hB hn hc (by rw [Array.size_append, hz, List.size_toArray]; omega) (by simp)
theorem gb_fresh {w w' : World} (h : w.grownBy w' (some w.heap.size)) (r : Option Nat) : w.grownBy w' r := ⟨h.os, h.tape, h.output, h.size, fun b hb _ => h.block b hb (by intro e; injection e with e; omega)⟩
theorem take_eq {cur : Array Value} {cs : List Value} (hs : cs.length ≤ cur.size) (h : ∀ j, j < cs.length → cur[j]? = cs[j]?) : cur.toList.take cs.length = cs := by
  apply List.ext_getElem?
  intro j
  by_cases hj : j < cs.length
  · rw [List.getElem?_take_of_lt hj, Array.getElem?_toList, h j hj]
  · rw [List.getElem?_eq_none (by simp; omega), List.getElem?_eq_none (by omega)]
set_option maxRecDepth 100000 in
set_option maxHeartbeats 2000000 in
theorem insert_any (B : Nat) (l : List Int) (i vb : Nat) (x : Int) (v : Value) (w : World) (hown : w.ownsRow B 3 1 v l.length (l.map intC)) (hi : i ≤ l.length) (hl : l.length ≤ 100) (hB : B ≤ w.heap.size) (hvb : w.heap[vb]? = some (.cells #[intC x] 3 (0, 0))) (hne : v.ownBlock ≠ some vb) :
    Calls Tryz.prog 99 #[v, .int .i64 (i : Int), .slice (some ⟨vb, 0, none⟩) 1 1] w fun e w' => ∃ v', e = .returned v' ∧ w'.ownsRow B 3 1 v' (l.length + 1) ((insL l i x).map intC) ∧ w.grownBy w' v.ownBlock ∧ (v'.ownBlock = v.ownBlock ∨ v'.ownBlock = some w.heap.size) := by
  have hvs : ∀ (j : Nat) (u : Value), [intC x][j]? = some u → w.cell? ⟨vb, 0 + j, none⟩ = some u := by
    intro j u hu
    have : w.cell? ⟨vb, 0 + j, none⟩ = #[intC x][0 + j]? := by simp [World.cell?, hvb]
    rw [this, Nat.zero_add]
    simpa using hu
  have hone : ∀ u ∈ [intC x], u.oneCell' = true := by intro u hu; rw [List.mem_singleton] at hu; subst hu; rfl
  have hzs : ∀ k : Nat, (Builtin.zeroCells (Value.int .i64 0).cells k).size = k := fun k => by rw [size_zeroCells]; exact Nat.mul_one k
  have hlen := insL_length l i x hi
  obtain ⟨hcl, h0 | ⟨g, cap, cur, rfl, hBg, hg, hnc, hcm, hcs, ht⟩⟩ := hown
  · obtain ⟨rfl, h0⟩ := h0
    obtain rfl : l = [] := List.eq_nil_of_length_eq_zero h0
    obtain rfl : i = 0 := by simpa using hi
    refine (Any2.slices_Insert_int_end_grow Tryz.laysIns none 0 0 vb 0 1 1 [] [intC x] w (by decide) (by decide) (by decide) (by decide) rfl rfl (fun _ => rfl) (fun a h => by cases h) hvs hone).mono ?_
    rintro e w' ⟨rfl, rfl⟩
    have hge := grownCap_ge w (0 + 1) 0 (Tryz.laysIns_ren.t 3)
    have hle := grownCap_le_maxLen w (0 + 1) 0 (Tryz.laysIns_ren.t 3) (by unfold maxLen; omega)
    refine ⟨_, rfl, ?_, ⟨rfl, rfl, rfl, by simp, fun k hk _ => (lit_below w.drew _).block k hk⟩, .inr rfl⟩
    exact own_alloc_row [intC x] _ _ hB (hzs _) hge hle
  · have e1 : ∀ j : Nat, j < l.length → cur[j]? = some (intC (l.getD j 0)) := by
      intro j hj
      have h2 : (cur.toList.take (l.length * 1))[j]? = (l.map intC)[j]? := by rw [ht]
      rw [List.getElem?_take_of_lt (by omega), Array.getElem?_toList] at h2
      rw [h2, List.getElem?_map, List.getElem?_eq_getElem hj]
      simp [List.getD, List.getElem?_eq_getElem hj]
    have hcell : ∀ j : Nat, w.cell? ⟨g, 0 + j, none⟩ = cur[j]? := fun j => by simp [World.cell?, hg]
    have hcsz : cur.size = cap := by simpa using hcs
    have hsrc : ∀ (j : Nat) (u : Value), (l.map intC)[j]? = some u → w.cell? ⟨g, 0 + j, none⟩ = some u := by
      intro j u hu
      have hj := (List.getElem?_eq_some_iff.1 hu).1
      rw [List.length_map] at hj
      rw [hcell, e1 j hj, ← hu, List.getElem?_map, List.getElem?_eq_getElem hj]
      simp [List.getD, List.getElem?_eq_getElem hj]
    have hfz : ∀ j : Nat, w.frozen? ⟨g, j, none⟩ = false := fun j => by simp [World.frozen?, hg]
    have honel : ∀ u ∈ l.map intC, u.oneCell' = true := by intro u hu; obtain ⟨y, _, rfl⟩ := List.mem_map.1 hu; rfl
    have lget : ∀ j : Nat, j < l.length → l[j]? = some (l.getD j 0) := fun j hj => by simp [List.getD, List.getElem?_eq_getElem hj]
    by_cases hroom : l.length + 1 ≤ cap
    · have hsp : ∀ j : Nat, j < l.length + 1 → (w.cell? ⟨g, 0 + j, none⟩).isSome = true := fun j hj => by rw [hcell, Array.getElem?_eq_getElem (by omega)]; rfl
      by_cases hil : i = l.length
      · subst hil
        refine (Any2.slices_Insert_int_end_room Tryz.laysIns g 0 l.length cap vb 0 1 1 [intC x] w (by decide) hroom (by unfold maxLen at hcm; omega) rfl (fun j hj => by rw [Nat.zero_add]; have := hsp (l.length + j) (by omega); rwa [Nat.zero_add] at this) (fun j hj => hfz _) hvs hone).mono ?_
        rintro e w' ⟨rfl, rfl⟩
        refine ⟨_, rfl, ?_, setCells_gb g _ _ _, .inl rfl⟩
        have := own_new_row (B := B) (w := w) (cs := (insL l l.length x).map intC) (heap_setCells [intC x] (0 + l.length) w cur hg) hBg (by rw [List.length_map, hlen]; exact hroom) hcm (by rw [setL_size, hcsz]) (take_eq (by rw [List.length_map, hlen, setL_size]; omega) (fun j hj => by
          rw [List.length_map, hlen] at hj
          rw [setL_get, List.getElem?_map, insL_get l _ x hi]
          by_cases hj2 : j < l.length
          · rw [if_neg (by simp; omega), if_pos hj2, e1 j hj2, lget j hj2]; rfl
          · obtain rfl : j = l.length := by omega
            rw [if_pos (by simp; omega), if_neg (by omega), if_pos rfl]; simp))
        rwa [List.length_map, hlen] at this
      · refine (Any2.slices_Insert_int_shift Tryz.laysIns g 0 l.length cap i vb 0 1 1 (l.map intC) [intC x] w (by omega) (by decide) hroom (by unfold maxLen at hcm; omega) (by rintro rfl; exact hne rfl) (by simp) rfl hsrc hsp (fun j _ => hfz _) hvs honel hone 3 3 1 cap (by simp [World.shape?, hvb]) (by simp [World.shape?, hg, hcsz]) (by omega) (by simp [World.frozen?, hvb]) (by simp [World.frozen?, hvb])).mono ?_
        rintro e w' ⟨rfl, rfl⟩
        refine ⟨_, rfl, ?_, (gb_pre (some g)).trans _ _ _ ((gb_pre (some g)).trans _ _ _ ((gb_pre (some g)).drew w) (setCells_gb g _ _ _)) (setCells_gb g _ _ _), .inl rfl⟩
        have := own_new_row (B := B) (w := w) (cs := (insL l i x).map intC) (heap_setCells [intC x] (0 + i) _ _ (heap_setCells ((l.map intC).drop i) (0 + (i + 1)) w.drew cur hg)) hBg (by rw [List.length_map, hlen]; exact hroom) hcm (by rw [setL_size, setL_size, hcsz]) (take_eq (by rw [List.length_map, hlen, setL_size, setL_size]; omega) (fun j hj => by
          rw [List.length_map, hlen] at hj
          rw [setL_get, setL_get, List.getElem?_map, insL_get l _ x hi, setL_size]
          simp only [List.length_drop, List.length_map, List.length_singleton]
          by_cases hj2 : j < i
          · rw [if_neg (by omega), if_neg (by omega), if_pos hj2, e1 j (by omega), lget j (by omega)]; rfl
          · rw [if_neg hj2]
            by_cases hj3 : j = i
            · subst hj3
              rw [if_pos (by omega), if_pos rfl]; simp
            · rw [if_neg (by omega), if_pos (by omega), if_neg hj3, List.getElem?_drop, List.getElem?_map]
              congr 1; congr 1; omega))
        rwa [List.length_map, hlen] at this
    · by_cases hil : i = l.length
      · subst hil
        refine (Any2.slices_Insert_int_end_grow Tryz.laysIns (some ⟨g, 0, none⟩) l.length cap vb 0 1 1 (l.map intC) [intC x] w (by decide) hnc (by omega) (by omega) (by simp) rfl (fun h => by cases h) (fun a ha j u hu => by
          cases ha
          have := hsrc j u hu
          by_cases e0 : j = 0
          · subst e0; simpa [Addr.add] using this
          · simpa [Addr.add, e0] using this) hvs hone).mono ?_
        rintro e w' ⟨rfl, rfl⟩
        have hge := grownCap_ge w (l.length + 1) cap (Tryz.laysIns_ren.t 3)
        have hle := grownCap_le_maxLen w (l.length + 1) cap (Tryz.laysIns_ren.t 3) (by unfold maxLen; omega)
        refine ⟨_, rfl, ?_, ⟨rfl, rfl, rfl, by simp, fun k hk _ => (lit_below w.drew _).block k hk⟩, .inr rfl⟩
        have e2 : (l.map intC ++ [intC x]).length = l.length + 1 := by simp
        have := own_alloc_row (B := B) (w := w) (l.map intC ++ [intC x]) (grownCap w (l.length + 1) cap (Tryz.laysIns_ren.t 3)) (Builtin.zeroCells (Value.int .i64 0).cells (grownCap w (l.length + 1) cap (Tryz.laysIns_ren.t 3) - (l.length + 1))) hB (by rw [hzs, e2]) (by rw [e2]; exact hge) hle
        rw [e2] at this
        rw [show (insL l l.length x).map intC = l.map intC ++ [intC x] by simp [insL]]
        exact this
      · refine (Any2.slices_Insert_int_grow Tryz.laysIns g 0 l.length cap i vb 0 1 1 (l.map intC) [intC x] w (by omega) (by decide) hnc (by omega) (by omega) (by simp) rfl hsrc hvs honel hone).mono ?_
        rintro e w' ⟨rfl, rfl⟩
        have hge := grownCap_ge w (l.length + 1) cap (Tryz.laysIns_ren.t 3)
        have hle := grownCap_le_maxLen w (l.length + 1) cap (Tryz.laysIns_ren.t 3) (by unfold maxLen; omega)
        refine ⟨_, rfl, ?_, ?_, .inr rfl⟩
        · have hh : (w.alloc (.cells (((l.map intC).take i).toArray ++ Builtin.zeroCells (Value.int .i64 0).cells (l.length + 1 - i) ++ Builtin.zeroCells (Value.int .i64 0).cells (grownCap w (l.length + 1) cap (Tryz.laysIns_ren.t 3) - (l.length + 1))) 3)).drew.heap[w.heap.size]? = some (.cells (((l.map intC).take i).toArray ++ Builtin.zeroCells (Value.int .i64 0).cells (l.length + 1 - i) ++ Builtin.zeroCells (Value.int .i64 0).cells (grownCap w (l.length + 1) cap (Tryz.laysIns_ren.t 3) - (l.length + 1))) 3 (0, 0)) := heap_alloc_new w _
          have hh2 := heap_setCells [intC x] i _ _ hh
          have hh3 := heap_setCells ((l.map intC).drop i) (i + 1) (((w.alloc (.cells (((l.map intC).take i).toArray ++ Builtin.zeroCells (Value.int .i64 0).cells (l.length + 1 - i) ++ Builtin.zeroCells (Value.int .i64 0).cells (grownCap w (l.length + 1) cap (Tryz.laysIns_ren.t 3) - (l.length + 1))) 3)).drew.setCells w.heap.size i [intC x]).drew) _ hh2
          have hcs2 : (((l.map intC).take i).toArray ++ Builtin.zeroCells (Value.int .i64 0).cells (l.length + 1 - i) ++ Builtin.zeroCells (Value.int .i64 0).cells (grownCap w (l.length + 1) cap (Tryz.laysIns_ren.t 3) - (l.length + 1))).size = grownCap w (l.length + 1) cap (Tryz.laysIns_ren.t 3) := by rw [Array.size_append, Array.size_append, hzs, hzs]; simp; omega
          have := own_new_row (B := B) (w := w) (cs := (insL l i x).map intC) (cap := grownCap w (l.length + 1) cap (Tryz.laysIns_ren.t 3)) hh3 hB (by rw [List.length_map, hlen]; exact hge) hle (by rw [setL_size, setL_size, hcs2]) (take_eq (by rw [List.length_map, hlen, setL_size, setL_size, hcs2]; exact hge) (fun j hj => by
            rw [List.length_map, hlen] at hj
            rw [setL_get, setL_get, List.getElem?_map, insL_get l _ x hi, setL_size, hcs2]
            simp only [List.length_drop, List.length_map, List.length_singleton]
            by_cases hj2 : j < i
            · rw [if_neg (by omega), if_neg (by omega), if_pos hj2, Array.getElem?_append_left (by rw [Array.size_append, hzs]; simp; omega), Array.getElem?_append_left (by simp; omega)]
              simp only [List.getElem?_toArray]
              rw [List.getElem?_take_of_lt hj2, List.getElem?_map]
            · rw [if_neg hj2]
              by_cases hj3 : j = i
              · subst hj3
                rw [if_neg (by omega), if_pos (by omega), if_pos rfl]; simp
              · rw [if_pos (by omega), if_neg hj3, List.getElem?_drop, List.getElem?_map]
                congr 1; congr 1; omega))
          rw [List.length_map, hlen] at this
          exact this
        · refine gb_fresh ?_ _
          have P := gb_pre (some w.heap.size)
          exact P.trans _ _ _ (P.trans _ _ _ (P.trans _ _ _ (P.trans _ _ _ (World.grownBy_alloc w _ _) (P.drew _)) (setCells_gb _ _ _ _)) (P.drew _)) (setCells_gb _ _ _ _)
end Go.Proofs.YtbgconagkgfplaaGreat
end
section
namespace Go.Proofs.YtbgconagkgfplaaGreat
open Go.RowKit
set_option linter.unusedVariables false
set_option linter.unusedSimpArgs false

theorem setN_cells (g : Nat) : ∀ (l : List Value) (k : Nat) (w : World), setN w g k l = w.setCells g k l
  | [], _, _ => rfl
  | v :: r, k, w => by rw [setN, World.setCells, setN_cells g r]
theorem bt_setN {S : Nat → Prop} {g : Nat} (h : S g) : ∀ (l : List Value) (k : Nat) (w : World), Bt S w (setN w g k l)
  | [], _, w => ⟨rfl, rfl, rfl, Nat.le_refl _, fun _ _ _ => rfl⟩
  | v :: r, k, w => by rw [setN]; exact (bt_set g k v w h).trans (bt_setN h r (k + 1) _)
theorem storeCellsO {P : Program} (g o : Nat) : ∀ (l : List Value) (k : Nat) (w : World), Ones l → (∀ j, j < l.length → ∃ x, w.cell? ⟨g, o + k + j, none⟩ = some x) → Free5 w g → (storeCells ⟨g, o, none⟩ l k).run P w = .ok () (setN w g (o + k) l)
  | [], _, _, _, _, _ => rfl
  | v :: r, k, w, h1, h, hf => by
    obtain ⟨x, hx⟩ := h 0 (by simp)
    have ea : (⟨g, o, none⟩ : Addr).add k = ⟨g, o + k, none⟩ := by
      by_cases e : k = 0
      · subst e; simp [Addr.add]
      · simp [Addr.add, e]
    unfold storeCells
    rw [Sem.run_bind, ea, run_store P w _ v _ h1.1, show w.cell? ⟨g, o + k, none⟩ = some x from hx]
    simp only [hf (o + k), Bool.false_eq_true, if_false]
    rw [Result.andThen_ok, storeCellsO g o r (k + 1) _ h1.2 (fun j hj => ?_) (hf.set _ _)]
    · rfl
    · obtain ⟨x', hx'⟩ := h (j + 1) (by simp; omega)
      refine ⟨x', ?_⟩
      rw [World.cell?_setCell_other w _ _ _ (by intro hh; injection hh; omega), show o + (k + 1) + j = o + k + (j + 1) by omega]
      exact hx'
section
variable {P : Program} {ops : Array Oper} {Q : Exit → Act → World → Prop} {i : Nat} {a : Act} {w : World} {c : Nat}
theorem tail_storeO (t : TypeId) (x y : Operand) (g o : Nat) (l : List Value) (hop : (ops[i]?).map (fun o => (o.op, o.guard)) = some (.store t x y, none)) (hdst : (ops[i]?).map (·.dst) = some none) (hs : (P.info? t).map (·.size) = some l.length) (hx : a.eval x = .pointer (some ⟨g, o, none⟩)) (hy : a.eval y = .agg l.toArray)
    (h1 : Ones l) (hc : ∀ j, j < l.length → ∃ x, w.cell? ⟨g, o + j, none⟩ = some x) (hf : Free5 w g) (h : Tail P ops Q c (i + 1) a (setN w g o l)) : Tail P ops Q (c + 1) i a w :=
  tail_op (fun _ _ => True) hop fun op ho e => by
    obtain ⟨ie, hie, hz⟩ := Option.map_eq_some_iff.1 hs
    have hsz : (sizeOf t).run P w = .ok l.length w := by simp [sizeOf, typeInfo, hie, hz]
    have hst := storeCellsO (P := P) g o l 0 w h1 (by simpa using hc) hf
    rw [ho] at hdst
    simp only [Option.map_some, Option.some.injEq] at hdst
    unfold Oper.wp execOp
    rw [e]
    simp only [hx, hy, Instr.storeAt, Instr.sureAddr, Sem.run_bind, Sem.run_pure, Result.andThen_ok, storeVar, hsz]
    rw [if_neg (show ¬ ((Value.agg l.toArray).cells.size ≠ l.length) by show ¬ (l.toArray.size ≠ l.length); simp)]
    have hst2 : (storeCells ⟨g, o, none⟩ (Value.agg l.toArray).cells.toList 0).run P w = .ok () (setN w g o l) := hst
    rw [hst2]
    simp only [Result.andThen_ok, Oper.upon, hdst]
    exact h
end
theorem flatE_set : ∀ (ps : List (En × Value × Value)) (q : Nat) (p : En × Value × Value), q < ps.length → ∀ t, (flatE (ps.set q p))[t]? = if q * 9 ≤ t ∧ t < q * 9 + 9 then (enL p.1 p.2.1 p.2.2)[t - q * 9]? else (flatE ps)[t]?
  | [], q, p, h, _ => by simp at h
  | a :: ps, 0, p, h, t => by
    rw [List.set_cons_zero, flatE_cons, flatE_cons]
    by_cases ht : t < 9
    · rw [if_pos (by omega), List.getElem?_append_left (by show t < 9; exact ht)]; simp
    · rw [if_neg (by omega), List.getElem?_append_right (by show 9 ≤ t; omega), List.getElem?_append_right (by show 9 ≤ t; omega)]; rfl
  | a :: ps, q + 1, p, h, t => by
    rw [List.set_cons_succ, flatE_cons, flatE_cons]
    by_cases ht : t < 9
    · rw [if_neg (by omega), List.getElem?_append_left (by show t < 9; exact ht), List.getElem?_append_left (by show t < 9; exact ht)]
    · rw [List.getElem?_append_right (by show 9 ≤ t; omega), List.getElem?_append_right (by show 9 ≤ t; omega), flatE_set ps q p (by simpa using h)]
      show (if q * 9 ≤ t - 9 ∧ t - 9 < q * 9 + 9 then (enL p.1 p.2.1 p.2.2)[t - 9 - q * 9]? else (flatE ps)[t - 9]?) = _
      by_cases h2 : q * 9 ≤ t - 9 ∧ t - 9 < q * 9 + 9
      · rw [if_pos h2, if_pos (by omega)]; congr 1; omega
      · rw [if_neg h2, if_neg (by omega)]; rfl
attribute [local irreducible] setN
/-- A slot of what changes. -/
theorem ChA.slot {B : Nat} {w : World} {g : Nat} {A : Ar} {vs vi : Value} {ps : List (En × Value × Value)} (h : ChA B w g A vs vi ps) {q : Nat} {X : En} (hq : A.slots[q]? = some X) : ∃ s cap xp xm cur, vs = .slice (some ⟨s, 0, none⟩) ps.length cap ∧ ps[q]? = some (X, xp, xm) ∧ w.heap[s]? = some (.cells cur 30 (0, 0)) ∧ cur.size = cap * 9 ∧ ps.length ≤ cap ∧ cap ≤ maxLen ∧ cur.toList.take (ps.length * 9) = flatE ps ∧ B ≤ s ∧ s < w.heap.size ∧ q < ps.length := by
  have hl := (List.getElem?_eq_some_iff.1 hq).1
  rw [← h.sl, List.length_map] at hl
  rw [← h.sl, List.getElem?_map] at hq
  obtain ⟨⟨E, xp, xm⟩, hp, rfl⟩ := Option.map_eq_some_iff.1 hq
  obtain ⟨_, ⟨_, h0⟩ | ⟨s, cap, cur, hv, hB, hg, hn, hc, hcs, ht⟩⟩ := h.own
  · omega
  · exact ⟨s, cap, xp, xm, cur, hv, hp, hg, hcs, hn, hc, ht, hB, (Array.getElem?_eq_some_iff.1 hg).1, hl⟩
theorem cell_flat {w : World} {s : Nat} {cur : Array Value} {ps : List (En × Value × Value)} {q : Nat} {X : En} {xp xm : Value} (hg : w.heap[s]? = some (.cells cur 30 (0, 0))) (ht : cur.toList.take (ps.length * 9) = flatE ps) (hp : ps[q]? = some (X, xp, xm)) : ∀ (j : Nat) (x : Value), (enL X xp xm)[j]? = some x → w.cell? ⟨s, q * 9 + j, none⟩ = some x := by
  intro j x hx
  have h2 := flatE_get hp (i := j) (x := x) hx
  rw [← ht, List.getElem?_take] at h2
  split at h2
  · have e : w.cell? ⟨s, q * 9 + j, none⟩ = cur[q * 9 + j]? := by simp [World.cell?, hg]
    rw [e, ← Array.getElem?_toList]; exact h2
  · cases h2
set_option maxHeartbeats 1000000 in
/-- A slot is laid down anew. -/
theorem ChA.put {B : Nat} {w : World} {g : Nat} {A : Ar} {vi : Value} {ps : List (En × Value × Value)} {s cap q : Nat} {cur : Array Value} (J : En) (jp jm : Value) (h : ChA B w g A (.slice (some ⟨s, 0, none⟩) ps.length cap) vi ps) (hg : w.heap[s]? = some (.cells cur 30 (0, 0))) (hcs : cur.size = cap * 9) (hn : ps.length ≤ cap) (hc : cap ≤ maxLen) (ht : cur.toList.take (ps.length * 9) = flatE ps) (hB : B ≤ s) (hq : q < ps.length)
    (hp : isCells (J.val.plus.map intC) jp w) (hm : isCells (J.val.minus.map intC) jm w) (o : ∀ b, b = g ∨ b = s ∨ vi.ownBlock = some b → OffQ b (J, jp, jm)) (nJ : NewB B jp ∧ NewB B jm) : ChA B (setN w s (q * 9) (enL J jp jm)) g ⟨A.cap, A.slots.set q J, A.index⟩ (.slice (some ⟨s, 0, none⟩) ps.length cap) vi (ps.set q (J, jp, jm)) := by
  have hsg : s ≠ g := fun e => h.n1 (by rw [e]; rfl)
  have bt := bt_setN (S := fun b => b = s) rfl (enL J jp jm) (q * 9) w
  have offs : ∀ p ∈ ps, OffQ s p := fun p hp => h.off p hp s (.inr (.inl rfl))
  have hcur := heap_setCells (enL J jp jm) (q * 9) w cur hg
  rw [← setN_cells] at hcur
  refine ⟨bt.blk h.st (fun e => hsg e.symm), h.lo, ⟨by rw [flatE_length, List.length_set], .inr ⟨s, cap, _, by rw [List.length_set], hB, hcur, by rw [List.length_set]; exact hn, hc, by rw [setL_size, hcs], ?_⟩⟩, ?_, bt.own h.idx (fun b hb e => h.n3 s rfl (by rw [hb, e])), ?_, h.n1, h.n2, h.n3, ?_, fun p hp' => (List.mem_or_eq_of_mem_set hp').elim (h.nw p) (fun e => by rw [e]; exact nJ)⟩
  · rw [List.length_set]
    apply List.ext_getElem?
    intro t
    by_cases htl : t < ps.length * 9
    · rw [List.getElem?_take_of_lt htl, Array.getElem?_toList, setL_get, flatE_set ps q _ hq]
      have h9 : (enL J jp jm).length = 9 := rfl
      have hm9 : ps.length * 9 ≤ cap * 9 := Nat.mul_le_mul_right _ hn
      by_cases h2 : q * 9 ≤ t ∧ t < q * 9 + 9
      · rw [if_pos (by omega), if_pos h2]
      · rw [if_neg (by omega), if_neg h2, ← ht, List.getElem?_take_of_lt htl, Array.getElem?_toList]
    · rw [List.getElem?_eq_none (by simp; omega), List.getElem?_eq_none (by rw [flatE_length, List.length_set]; omega)]
  · rw [List.map_set, h.sl]
  · intro p hp'
    rcases List.mem_or_eq_of_mem_set hp' with hp' | rfl
    · obtain ⟨r1, r2⟩ := h.rows p hp'
      obtain ⟨o1, o2⟩ := offs p hp'
      exact ⟨bt.cells r1 (o1.imp id (fun h b hb e => h (by rw [hb, e]))), bt.cells r2 (o2.imp id (fun h b hb e => h (by rw [hb, e])))⟩
    · obtain ⟨o1, o2⟩ := o s (.inr (.inl rfl))
      exact ⟨bt.cells hp (o1.imp id (fun h b hb e => h (by rw [hb, e]))), bt.cells hm (o2.imp id (fun h b hb e => h (by rw [hb, e])))⟩
  · intro p hp' b hb
    have hb' : b = g ∨ b = s ∨ vi.ownBlock = some b := by
      rcases hb with hb | hb | hb
      · exact .inl hb
      · have e : some s = some b := hb
        injection e with e
        exact .inr (.inl e.symm)
      · exact .inr (.inr hb)
    rcases List.mem_or_eq_of_mem_set hp' with hp' | rfl
    · exact h.off p hp' b hb
    · exact o b hb'
noncomputable def meetOps : Array Oper := regionOf Tryz.f98 3
set_option maxRecDepth 100000 in
set_option maxHeartbeats 2000000 in
theorem meet_region (Q : Exit → Act → World → Prop) (a0 : Act) (w0 : World) (hsz : a0.tmps.size = 36) (g h s n cap q : Nat) (J : En) (jp jm : Value) (e0 : a0.tmps.getD 0 undef = .pointer (some ⟨g, 0, none⟩)) (e1 : a0.tmps.getD 1 undef = .int .i64 (q : Int)) (e8 : a0.tmps.getD 8 undef = .pointer (some ⟨h, 0, none⟩)) (hcell : w0.cell? ⟨g, 1, none⟩ = some (.slice (some ⟨s, 0, none⟩) n cap)) (hg : g < w0.heap.size) (HJ : Blk w0 h [.string ⟨J.key.toArray⟩, .int .i64 J.val.kind, .int .i64 J.val.time, .int .i64 J.val.node, .bool J.val.dead, .string ⟨J.val.text.toArray⟩, jp, jm, .int .u64 (J.val.flags.toNat : Int)]) (ho : Ones [.string ⟨J.key.toArray⟩, .int .i64 J.val.kind, .int .i64 J.val.time, .int .i64 J.val.node, .bool J.val.dead, .string ⟨J.val.text.toArray⟩, jp, jm, .int .u64 (J.val.flags.toNat : Int)]) (hq : q < n)
    (hs : ∀ j, j < 9 → ∃ x, w0.cell? ⟨s, 0 + q * 9 + j, none⟩ = some x) (hsl : s < w0.heap.size) (hf : Free5 w0 s)
    (hQ : ∀ (y : Nat → Value) (w : World), Below w0.heap.size w0 w → Q .normal { tmps := [24, 25, 26, 27, 28, 29, 30, 31].foldl (fun t s => t.setIfInBounds s (y s)) a0.tmps, defers := a0.defers } (setN w s (0 + q * 9) [.string ⟨J.key.toArray⟩, .int .i64 J.val.kind, .int .i64 J.val.time, .int .i64 J.val.node, .bool J.val.dead, .string ⟨J.val.text.toArray⟩, jp, jm, .int .u64 (J.val.flags.toNat : Int)])) :
    (Code.region 3 meetOps true).wp Tryz.prog Q a0 w0 := by
  refine wp_region_cov 8 mixed (by rw [hsz]; kernel_rfl) (by kernel_rfl) ?_
  rw [show meetOps.size - 8 = 1 by kernel_rfl]
  refine ⟨isVal (.pointer (some ⟨g, 0, none⟩)), step_move (.tmp 0) (by kernel_rfl) (wanted_none (by kernel_rfl)) (stable_val _) (knows_old 0 (.pointer (some ⟨g, 0, none⟩)) (by kernel_rfl) e0), ?_⟩
  refine ⟨isVal (.pointer (some ⟨g, 0, none⟩)), step_nilA (.tmp 24) ⟨g, 0, none⟩ (by kernel_rfl) (wanted_none (by kernel_rfl)) (knows_new (V := isVal (.pointer (some ⟨g, 0, none⟩))) 24 0 (by kernel_rfl) (by kernel_rfl) (by kernel_rfl)), ?_⟩
  refine ⟨isVal (.pointer (some ⟨g, 0, none⟩)), step_field 72 (.tmp 25) 0 ⟨g, 0, none⟩ ⟨g, 0, none⟩ (by kernel_rfl) (wanted_none (by kernel_rfl)) (knows_new (V := isVal (.pointer (some ⟨g, 0, none⟩))) 25 1 (by kernel_rfl) (by kernel_rfl) (by kernel_rfl)) (f_ch_0_0 (g)), ?_⟩
  refine ⟨isVal (.pointer (some ⟨g, 1, none⟩)), step_field 25 (.tmp 26) 1 ⟨g, 0, none⟩ ⟨g, 1, none⟩ (by kernel_rfl) (wanted_none (by kernel_rfl)) (knows_new (V := isVal (.pointer (some ⟨g, 0, none⟩))) 26 2 (by kernel_rfl) (by kernel_rfl) (by kernel_rfl)) (f_ar_0_1 (g)), ?_⟩
  refine ⟨isVal (.slice (some ⟨s, 0, none⟩) n cap), step_read 22 (.tmp 27) ⟨g, 1, none⟩ (.slice (some ⟨s, 0, none⟩) n cap) (by kernel_rfl) (wanted_none (by kernel_rfl)) (knows_new (V := isVal (.pointer (some ⟨g, 1, none⟩))) 27 3 (by kernel_rfl) (by kernel_rfl) (by kernel_rfl)) (hcell) (hg) (agg_noS), ?_⟩
  refine ⟨isVal (.int .i64 (q : Int)), step_move (.tmp 1) (by kernel_rfl) (wanted_none (by kernel_rfl)) (stable_val _) (knows_old 1 (.int .i64 (q : Int)) (by kernel_rfl) e1), ?_⟩
  refine ⟨isVal (.agg #[.string ⟨J.key.toArray⟩, .int .i64 J.val.kind, .int .i64 J.val.time, .int .i64 J.val.node, .bool J.val.dead, .string ⟨J.val.text.toArray⟩, jp, jm, .int .u64 (J.val.flags.toNat : Int)]), step_loadA 30 (.tmp 8) (h) (0) [.string ⟨J.key.toArray⟩, .int .i64 J.val.kind, .int .i64 J.val.time, .int .i64 J.val.node, .bool J.val.dead, .string ⟨J.val.text.toArray⟩, jp, jm, .int .u64 (J.val.flags.toNat : Int)] (by kernel_rfl) (wanted_none (by kernel_rfl)) (knows_old 8 (.pointer (some ⟨h, 0, none⟩)) (by kernel_rfl) e8) size_en agg_en (⟨HJ.lt, fun j x hx => by rw [Nat.zero_add]; exact HJ.cells.2 j x hx⟩), ?_⟩
  refine ⟨isVal (.pointer (some ⟨s, 0 + q * 9, none⟩)), step_placeE 22 30 (.tmp 28) (.tmp 29) s (0) (n) (cap) (q) (0 + q * 9) (by kernel_rfl) (wanted_none (by kernel_rfl)) (knows_new (V := isVal (.slice (some ⟨s, 0, none⟩) n cap)) 28 4 (by kernel_rfl) (by kernel_rfl) (by kernel_rfl)) (knows_new (V := isVal (.int .i64 (q : Int))) 29 5 (by kernel_rfl) (by kernel_rfl) (by kernel_rfl)) Tryz.underlying22 (by kernel_rfl) (⟨hq, rfl⟩), ?_⟩
  intro a w hkp hb hd
  have d31 := fdone_of (hd 7 (by decide)) (t := 31) (V := isVal (.pointer (some ⟨s, 0 + q * 9, none⟩))) (by kernel_rfl) (by kernel_rfl)
  have d30 := fdone_of (hd 6 (by decide)) (t := 30) (V := isVal (.agg #[.string ⟨J.key.toArray⟩, .int .i64 J.val.kind, .int .i64 J.val.time, .int .i64 J.val.node, .bool J.val.dead, .string ⟨J.val.text.toArray⟩, jp, jm, .int .u64 (J.val.flags.toNat : Int)])) (by kernel_rfl) (by kernel_rfl)
  refine tail_storeO 30 (.tmp 31) (.tmp 30) s (0 + q * 9) [.string ⟨J.key.toArray⟩, .int .i64 J.val.kind, .int .i64 J.val.time, .int .i64 J.val.node, .bool J.val.dead, .string ⟨J.val.text.toArray⟩, jp, jm, .int .u64 (J.val.flags.toNat : Int)] (by kernel_rfl) (by kernel_rfl) size_en d31 d30 ho (fun j hj => by obtain ⟨x, hx⟩ := hs j hj; exact ⟨x, (hb.cell (p := ⟨s, 0 + q * 9 + j, none⟩) hsl).trans hx⟩) (hf.keep hb hsl) ?_
  obtain ⟨y, ey⟩ := kept_ex hkp [some 24, some 25, some 26, some 27, some 28, some 29, some 30, some 31, none] [24, 25, 26, 27, 28, 29, 30, 31] (by kernel_rfl) (by decide)
  rw [ey]
  exact hQ y w hb
end Go.Proofs.YtbgconagkgfplaaGreat
end
section
namespace Go.Proofs.YtbgconagkgfplaaGreat
open Go.RowKit
set_option linter.unusedVariables false
set_option linter.unusedSimpArgs false
attribute [local irreducible] setN

theorem ok_fit' {E : En} (h : okE E = true) : FitE E := by
  simp only [okE, Bool.and_eq_true, decide_eq_true_eq] at h
  obtain ⟨⟨h1, h8⟩, hv⟩ := h
  refine ⟨by omega, ?_⟩
  rcases ok_kind hv with hk | hk | hk
  · obtain ⟨hi, ho⟩ := ok_reg hv hk
    simp only [inReg, Bool.and_eq_true, decide_eq_true_eq] at hi
    refine ⟨by omega, ?_, ?_⟩ <;> (rw [ho]; show 0 ≤ _; omega)
  · obtain ⟨hi, ho⟩ := ok_count hv hk
    simp only [inCount, okRow, Bool.and_eq_true, decide_eq_true_eq] at hi
    refine ⟨?_, by omega, by omega⟩
    rw [ho]; show 0 ≤ _; omega
  · have ho := ok_flags hv hk
    refine ⟨?_, ?_, ?_⟩ <;> (rw [ho]; show 0 ≤ _; omega)
set_option maxRecDepth 100000 in
set_option maxHeartbeats 2000000 in
theorem meet_any (B g q : Nat) (A : Ar) (X Y J : En) (vs vi v : Value) (ps : List (En × Value × Value)) (w : World) (hJ : joinEF X Y = J) (h : ChA B w g A vs vi ps) (hq : A.slots[q]? = some X) (hv : isEn Y v w) (hX : FitE X) (hY : FitE Y) (hj : joinEE X Y = 0) (hBw : B ≤ w.heap.size) :
    Calls Tryz.prog 98 #[.pointer (some ⟨g, 0, none⟩), .int .i64 (q : Int), v] w fun e w' => ∃ ps', e = .returned (.bool (!decide (X = J))) ∧ ChA B w' g ⟨A.cap, A.slots.set q J, A.index⟩ vs vi ps' ∧ Below B w w' := by
  obtain ⟨s, cap, xp, xm, cur, rfl, hps, hg0, hcs, hnc, hcm, ht, hBs, hsl, hqn⟩ := h.slot hq
  have HC := Kept.mk h
  have hgl := h.lt
  have hlo := h.lo
  have OX := Kept.mk (h.off _ (List.mem_of_getElem? hps))
  have RX := Kept.mk (h.rows _ (List.mem_of_getElem? hps))
  have hvi : ∀ b, vi.ownBlock = some b → b < w.heap.size := fun b hb => (h.idx.lt b hb).2
  have hsg : s ≠ g := fun e => h.n1 (by rw [e]; rfl)
  have cx := cell_flat hg0 ht hps
  have HG0 := Kept.mk hg0
  have hqp : A.slots.length = ps.length := h.len.symm
  clear h
  obtain ⟨pe, me, rfl, hpe, hme⟩ := hv
  obtain ⟨hB, Ve⟩ := ebox w Y pe me hpe hme (w.heap.size) (by simp)
  clear hpe hme
  replace HC := Kept.mk (HC.out.keep hB.out)
  have KC := Kept.mk (show ∀ (j : Nat) (x : Value), (enL X xp xm)[j]? = some x → (w.alloc (.cells #[.string ⟨Y.key.toArray⟩, .int .i64 Y.val.kind, .int .i64 Y.val.time, .int .i64 Y.val.node, .bool Y.val.dead, .string ⟨Y.val.text.toArray⟩, pe, me, .int .u64 (Y.val.flags.toNat : Int)] 30)).cell? ⟨s, q * 9 + j, none⟩ = some x from fun j x hx => (hB.out.cell (p := ⟨s, q * 9 + j, none⟩) hsl).trans (cx j x hx))
  clear cx hg0
  replace HG0 := Kept.mk ((hB.out.block s hsl).trans HG0.out)
  have RX0 := RX
  replace RX := Kept.mk (And.intro (stable_cells _ _ _ _ RX.out.1 hB.out) (stable_cells _ _ _ _ RX.out.2 hB.out))
  have hN0 : w.heap.size < (w.alloc (.cells #[.string ⟨Y.key.toArray⟩, .int .i64 Y.val.kind, .int .i64 Y.val.time, .int .i64 Y.val.node, .bool Y.val.dead, .string ⟨Y.val.text.toArray⟩, pe, me, .int .u64 (Y.val.flags.toNat : Int)] 30)).heap.size := Ve.out.lt
  have k1 := HC.out.st.cells.2 1 _ rfl
  have kc0 : (w.alloc (.cells #[.string ⟨Y.key.toArray⟩, .int .i64 Y.val.kind, .int .i64 Y.val.time, .int .i64 Y.val.node, .bool Y.val.dead, .string ⟨Y.val.text.toArray⟩, pe, me, .int .u64 (Y.val.flags.toNat : Int)] 30)).cell? ⟨s, q * 9, none⟩ = _ := KC.out 0 _ rfl
  have kc1 : (w.alloc (.cells #[.string ⟨Y.key.toArray⟩, .int .i64 Y.val.kind, .int .i64 Y.val.time, .int .i64 Y.val.node, .bool Y.val.dead, .string ⟨Y.val.text.toArray⟩, pe, me, .int .u64 (Y.val.flags.toNat : Int)] 30)).cell? ⟨s, q * 9 + 1, none⟩ = _ := KC.out 1 _ rfl
  have kc2 : (w.alloc (.cells #[.string ⟨Y.key.toArray⟩, .int .i64 Y.val.kind, .int .i64 Y.val.time, .int .i64 Y.val.node, .bool Y.val.dead, .string ⟨Y.val.text.toArray⟩, pe, me, .int .u64 (Y.val.flags.toNat : Int)] 30)).cell? ⟨s, q * 9 + 2, none⟩ = _ := KC.out 2 _ rfl
  have kc3 : (w.alloc (.cells #[.string ⟨Y.key.toArray⟩, .int .i64 Y.val.kind, .int .i64 Y.val.time, .int .i64 Y.val.node, .bool Y.val.dead, .string ⟨Y.val.text.toArray⟩, pe, me, .int .u64 (Y.val.flags.toNat : Int)] 30)).cell? ⟨s, q * 9 + 3, none⟩ = _ := KC.out 3 _ rfl
  have kc4 : (w.alloc (.cells #[.string ⟨Y.key.toArray⟩, .int .i64 Y.val.kind, .int .i64 Y.val.time, .int .i64 Y.val.node, .bool Y.val.dead, .string ⟨Y.val.text.toArray⟩, pe, me, .int .u64 (Y.val.flags.toNat : Int)] 30)).cell? ⟨s, q * 9 + 4, none⟩ = _ := KC.out 4 _ rfl
  have kc5 : (w.alloc (.cells #[.string ⟨Y.key.toArray⟩, .int .i64 Y.val.kind, .int .i64 Y.val.time, .int .i64 Y.val.node, .bool Y.val.dead, .string ⟨Y.val.text.toArray⟩, pe, me, .int .u64 (Y.val.flags.toNat : Int)] 30)).cell? ⟨s, q * 9 + 5, none⟩ = _ := KC.out 5 _ rfl
  have kc6 : (w.alloc (.cells #[.string ⟨Y.key.toArray⟩, .int .i64 Y.val.kind, .int .i64 Y.val.time, .int .i64 Y.val.node, .bool Y.val.dead, .string ⟨Y.val.text.toArray⟩, pe, me, .int .u64 (Y.val.flags.toNat : Int)] 30)).cell? ⟨s, q * 9 + 6, none⟩ = _ := KC.out 6 _ rfl
  have kc7 : (w.alloc (.cells #[.string ⟨Y.key.toArray⟩, .int .i64 Y.val.kind, .int .i64 Y.val.time, .int .i64 Y.val.node, .bool Y.val.dead, .string ⟨Y.val.text.toArray⟩, pe, me, .int .u64 (Y.val.flags.toNat : Int)] 30)).cell? ⟨s, q * 9 + 7, none⟩ = _ := KC.out 7 _ rfl
  have kc8 : (w.alloc (.cells #[.string ⟨Y.key.toArray⟩, .int .i64 Y.val.kind, .int .i64 Y.val.time, .int .i64 Y.val.node, .bool Y.val.dead, .string ⟨Y.val.text.toArray⟩, pe, me, .int .u64 (Y.val.flags.toNat : Int)] 30)).cell? ⟨s, q * 9 + 8, none⟩ = _ := KC.out 8 _ rfl
  clear KC
  generalize hn : ps.length = n at *
  have HN := Kept.mk hn
  clear hn
  have hqn' : (q : Int) < (n : Int) := by omega
  go_enter Tryz.func98, Tryz.ntmps98
  obtain ⟨K1, K2, K3, K4, K5⟩ := enew (w.alloc (.cells #[.string ⟨Y.key.toArray⟩, .int .i64 Y.val.kind, .int .i64 Y.val.time, .int .i64 Y.val.node, .bool Y.val.dead, .string ⟨Y.val.text.toArray⟩, pe, me, .int .u64 (Y.val.flags.toNat : Int)] 30)) X xp xm RX.out.1 RX.out.2 (w.heap.size + 1) (by simp)
  have HBX0 := Kept.mk ((Blk.new (w.alloc (.cells #[.string ⟨Y.key.toArray⟩, .int .i64 Y.val.kind, .int .i64 Y.val.time, .int .i64 Y.val.node, .bool Y.val.dead, .string ⟨Y.val.text.toArray⟩, pe, me, .int .u64 (Y.val.flags.toNat : Int)] 30)) 30 [.string ⟨#[]⟩, .int .i64 0, .int .i64 0, .int .i64 0, .bool false, .string ⟨#[]⟩, .slice none 0 0, .slice none 0 0, .int .u64 0] (w.heap.size + 1) (by simp)).all_ (l := [.string ⟨X.key.toArray⟩, .int .i64 X.val.kind, .int .i64 X.val.time, .int .i64 X.val.node, .bool X.val.dead, .string ⟨X.val.text.toArray⟩, xp, xm, .int .u64 (X.val.flags.toNat : Int)]) rfl)
  go_wp2_with (have hz0 := K1; refine wpList_storeN 30 rfl (.tmp 7) (.tmp 17) rfl (w.heap.size + 1) [.string ⟨X.key.toArray⟩, .int .i64 X.val.kind, .int .i64 X.val.time, .int .i64 X.val.node, .bool X.val.dead, .string ⟨X.val.text.toArray⟩, xp, xm, .int .u64 (X.val.flags.toNat : Int)] size_en rfl rfl K1.out rfl K2.out K5.out ?_; replace hB := Kept.mk (hB.out.trans ((K3.out).mono hB.out.size)); replace Ve := Kept.mk (Ve.out.keep (K3.out)); replace HC := Kept.mk (HC.out.keep (K3.out)); replace HG0 := Kept.mk ((K3.out.block s (by omega)).trans HG0.out); have hN1 := K3.out.size; have Va := Kept.mk (show VarN _ _ X from ⟨_, _, K4.out⟩); have HBX := HBX0; clear HBX0 hz0 K1 K2 K3 K4 K5 k1 kc0 kc1 kc2 kc3 kc4 kc5 kc6 kc7 kc8; generalize setN ((w.alloc (.cells #[.string ⟨Y.key.toArray⟩, .int .i64 Y.val.kind, .int .i64 Y.val.time, .int .i64 Y.val.node, .bool Y.val.dead, .string ⟨Y.val.text.toArray⟩, pe, me, .int .u64 (Y.val.flags.toNat : Int)] 30)).alloc (.cells #[.string ⟨#[]⟩, .int .i64 0, .int .i64 0, .int .i64 0, .bool false, .string ⟨#[]⟩, .slice none 0 0, .slice none 0 0, .int .u64 0] 30)) (w.heap.size + 1) 0 [.string ⟨X.key.toArray⟩, .int .i64 X.val.kind, .int .i64 X.val.time, .int .i64 X.val.node, .bool X.val.dead, .string ⟨X.val.text.toArray⟩, xp, xm, .int .u64 (X.val.flags.toNat : Int)] = W1 at *; generalize hga : w.heap.size + 1 = ga at *; obtain ⟨qa, ra, xa, ya, ka0, ka1, ka2, ka3, ka4, ka5, ka6, ka7, ka8⟩ := Va.out.open_; have Xa := Kept.mk xa; have Ya := Kept.mk ya; clear xa ya; obtain ⟨qe, re, xe, ye, ke0, ke1, ke2, ke3, ke4, ke5, ke6, ke7, ke8⟩ := Ve.out.open_; have Xe := Kept.mk xe; have Ye := Kept.mk ye; clear xe ye)
  have hc := ejoin_any X Y _ _ _ Xa.out Xe.out hX hY
  rw [hj, hJ] at hc
  refine hc.mono ?_
  clear hc
  rintro e U ⟨v', rfl, ⟨jp, jm, rfl, hjp, hjm, njp, njm⟩, hb1⟩
  have NJ := Kept.mk (And.intro (njp.low (show W1.heap.size ≤ W1.heap.size from Nat.le_refl _)) njm)
  replace HG0 := Kept.mk ((hb1.block s (by omega)).trans HG0.out)
  have hN2 := hb1.size
  have hgaW : ga < W1.heap.size := Va.out.lt
  have FJ := Kept.mk (show Fit J.val by rw [← hJ]; exact (ok_fit' (joinEF_ok hj)).val)
  have HJ := Kept.mk hJ
  clear hJ njp njm
  obtain ⟨K1, K2, K3, K4, K5⟩ := enew U J jp jm hjp hjm U.heap.size rfl
  have HBJ := Kept.mk ((Blk.new U 30 [.string ⟨#[]⟩, .int .i64 0, .int .i64 0, .int .i64 0, .bool false, .string ⟨#[]⟩, .slice none 0 0, .slice none 0 0, .int .u64 0] U.heap.size rfl).all_ (l := [.string ⟨J.key.toArray⟩, .int .i64 J.val.kind, .int .i64 J.val.time, .int .i64 J.val.node, .bool J.val.dead, .string ⟨J.val.text.toArray⟩, jp, jm, .int .u64 (J.val.flags.toNat : Int)]) rfl)
  have HON := K5
  clear hjp hjm
  clear Xa Ya ka0 ka1 ka2 ka3 ka4 ka5 ka6 ka7 ka8
  clear Xe Ye ke0 ke1 ke2 ke3 ke4 ke5 ke6 ke7 ke8
  replace hB := Kept.mk (hB.out.trans ((hb1).mono hB.out.size))
  replace Ve := Kept.mk (Ve.out.keep (hb1))
  replace Va := Kept.mk (Va.out.keep (hb1))
  replace HC := Kept.mk (HC.out.keep (hb1))
  replace HBX := Kept.mk (HBX.out.keep hb1)
  clear hb1
  go_wp2_with (have hz0 := K1; refine wpList_storeN 30 rfl (.tmp 8) (.tmp 22) rfl U.heap.size [.string ⟨J.key.toArray⟩, .int .i64 J.val.kind, .int .i64 J.val.time, .int .i64 J.val.node, .bool J.val.dead, .string ⟨J.val.text.toArray⟩, jp, jm, .int .u64 (J.val.flags.toNat : Int)] size_en rfl rfl K1.out rfl K2.out K5.out ?_; replace hB := Kept.mk (hB.out.trans ((K3.out).mono hB.out.size)); replace Ve := Kept.mk (Ve.out.keep (K3.out)); replace Va := Kept.mk (Va.out.keep (K3.out)); replace HC := Kept.mk (HC.out.keep (K3.out)); replace HG0 := Kept.mk ((K3.out.block s (by omega)).trans HG0.out); replace HBX := Kept.mk (HBX.out.keep K3.out); have hN3 := K3.out.size; have RJ := Kept.mk K4.out.2; clear hz0 K1 K2 K3 K4 K5; generalize setN (U.alloc (.cells #[.string ⟨#[]⟩, .int .i64 0, .int .i64 0, .int .i64 0, .bool false, .string ⟨#[]⟩, .slice none 0 0, .slice none 0 0, .int .u64 0] 30)) U.heap.size 0 [.string ⟨J.key.toArray⟩, .int .i64 J.val.kind, .int .i64 J.val.time, .int .i64 J.val.node, .bool J.val.dead, .string ⟨J.val.text.toArray⟩, jp, jm, .int .u64 (J.val.flags.toNat : Int)] = W2 at *; generalize hgb : U.heap.size = gb at *)
  have hk1 := HC.out.st.cells.2 1 _ rfl
  have hcs9 : ∀ j, j < 9 → ∃ x, W2.cell? ⟨s, 0 + q * 9 + j, none⟩ = some x := fun j hj9 => ⟨cur[q * 9 + j]'(by have : (q + 1) * 9 ≤ cap * 9 := Nat.mul_le_mul_right _ (by omega); omega), (show W2.cell? ⟨s, 0 + q * 9 + j, none⟩ = cur[q * 9 + j]? by simp [World.cell?, HG0.out]).trans (Array.getElem?_eq_getElem _)⟩
  have hfs : Free5 W2 s := fun j => by simp [World.frozen?, HG0.out]
  refine meet_region _ _ _ rfl g gb s n cap q J jp jm rfl rfl rfl hk1 (by have := HC.out.lt; omega) HBJ.out HON.out hqn hcs9 (by omega) hfs ?_
  intro y W3 hb3
  clear hk1 hcs9
  simp only [List.foldl_cons, List.foldl_nil]
  generalize y 24 = z24
  generalize y 25 = z25
  generalize y 26 = z26
  generalize y 27 = z27
  generalize y 28 = z28
  generalize y 29 = z29
  generalize y 30 = z30
  generalize y 31 = z31
  simp only [List.setIfInBounds_toArray, List.set_cons_succ, List.set_cons_zero]
  rw [Nat.zero_add]
  have hN4 := hb3.size
  have hg3 := (hb3.block s (by omega)).trans HG0.out
  have hbx3 := HBX.out.keep hb3
  have hbj3 := HBJ.out.keep hb3
  have hfj := FJ.out
  have hnn := HN.out
  subst hnn
  have C3 := HC.out.keep hb3
  have rp := stable_cells _ _ _ _ RJ.out.1 hb3
  have rm := stable_cells _ _ _ _ RJ.out.2 hb3
  have oJ : ∀ b, b = g ∨ b = s ∨ vi.ownBlock = some b → OffQ b (J, jp, jm) := fun b hb => by
    have hlt : b < W1.heap.size := by
      rcases hb with rfl | rfl | hb
      · omega
      · omega
      · have := hvi b hb; omega
    exact ⟨.inr (NJ.out.1.ne hlt), .inr (NJ.out.2.ne hlt)⟩
  have C4 := Kept.mk (ChA.put J jp jm C3 hg3 hcs hnc hcm ht hBs hqn rp rm oJ ⟨NJ.out.1.low (by omega), NJ.out.2.low (by omega)⟩)
  have bt := bt_setN (S := fun b => b = s) rfl (enL J jp jm) (q * 9) W3
  have B4 := Kept.mk (((hB.out.trans (hb3.mono (by omega))).mono hBw).trans (bt.below (fun b e => by rw [e]; exact hBs) (by omega)))
  have B3 : Below w.heap.size w W3 := hB.out.trans (hb3.mono (by omega))
  have imp : ∀ {cs : List Value} {u : Value}, (cs = [] ∨ blk u ≠ some s) → (cs = [] ∨ ∀ b, blk u = some b → ¬ (b = s)) := fun h => h.imp id (fun h b hb e => h (by rw [hb, e]))
  have oX := OX.out s (.inr (.inl rfl))
  have oS := oJ s (.inr (.inl rfl))
  have XA := Kept.mk (show isEn X (.agg #[.string ⟨X.key.toArray⟩, .int .i64 X.val.kind, .int .i64 X.val.time, .int .i64 X.val.node, .bool X.val.dead, .string ⟨X.val.text.toArray⟩, xp, xm, .int .u64 (X.val.flags.toNat : Int)]) (setN W3 s (q * 9) (enL J jp jm)) from ⟨xp, xm, rfl, bt.cells (stable_cells _ _ _ _ RX0.out.1 B3) (imp oX.1), bt.cells (stable_cells _ _ _ _ RX0.out.2 B3) (imp oX.2)⟩)
  have XJ := Kept.mk (show isEn J (.agg #[.string ⟨J.key.toArray⟩, .int .i64 J.val.kind, .int .i64 J.val.time, .int .i64 J.val.node, .bool J.val.dead, .string ⟨J.val.text.toArray⟩, jp, jm, .int .u64 (J.val.flags.toNat : Int)]) (setN W3 s (q * 9) (enL J jp jm)) from ⟨jp, jm, rfl, bt.cells rp (imp oS.1), bt.cells rm (imp oS.2)⟩)
  have ba := bt.blk hbx3 (show ¬ (ga = s) by omega)
  have bj := bt.blk hbj3 (show ¬ (gb = s) by omega)
  have ka0 := ba.cells.2 0 _ rfl
  have ka1 := ba.cells.2 1 _ rfl
  have ka2 := ba.cells.2 2 _ rfl
  have ka3 := ba.cells.2 3 _ rfl
  have ka4 := ba.cells.2 4 _ rfl
  have ka5 := ba.cells.2 5 _ rfl
  have ka6 := ba.cells.2 6 _ rfl
  have ka7 := ba.cells.2 7 _ rfl
  have ka8 := ba.cells.2 8 _ rfl
  have kb0 := bj.cells.2 0 _ rfl
  have kb1 := bj.cells.2 1 _ rfl
  have kb2 := bj.cells.2 2 _ rfl
  have kb3 := bj.cells.2 3 _ rfl
  have kb4 := bj.cells.2 4 _ rfl
  have kb5 := bj.cells.2 5 _ rfl
  have kb6 := bj.cells.2 6 _ rfl
  have kb7 := bj.cells.2 7 _ rfl
  have kb8 := bj.cells.2 8 _ rfl
  clear C3 hg3 rp rm oJ imp oX oS ba bj hbx3 hbj3 bt B3 hb3
  skip
  skip
  rw [show [.string ⟨J.key.toArray⟩, .int .i64 J.val.kind, .int .i64 J.val.time, .int .i64 J.val.node, .bool J.val.dead, .string ⟨J.val.text.toArray⟩, jp, jm, .int .u64 (J.val.flags.toNat : Int)] = enL J jp jm from rfl]
  generalize setN W3 s (q * 9) (enL J jp jm) = W4 at *
  go_wp2_with fail
  refine (esame_any X J _ _ _ XA.out XJ.out hX.val hfj).mono ?_
  rintro e W5 ⟨rfl, hb5⟩
  have hsz4 := C4.out.lt
  have C5 := Kept.mk (C4.out.keep hb5)
  have B5 := Kept.mk (B4.out.trans (hb5.mono (Nat.le_trans hBw B4.out.size)))
  clear hb5 C4 XA XJ ka0 kb0 ka1 kb1 ka2 kb2 ka3 kb3 ka4 kb4 ka5 kb5 ka6 kb6 ka7 kb7 ka8 kb8
  cases hz : decide (X = J) <;>
  · go_wp2
    go_ret
    first
    | exact ⟨_, rfl, C5.out, B5.out⟩
    | exact ⟨rfl, ⟨_, C5.out⟩, B5.out⟩
    | exact ⟨by rw [hz]; rfl, ⟨_, C5.out⟩, B5.out⟩
    | exact ⟨_, by rw [hz]; rfl, C5.out, B5.out⟩
end Go.Proofs.YtbgconagkgfplaaGreat
end
section
namespace Go.Proofs.YtbgconagkgfplaaGreat
open Go.RowKit
set_option linter.unusedVariables false
set_option linter.unusedSimpArgs false
attribute [local irreducible] setN

theorem search_val (A : Ar) (Y : En) (P : Nat) (Z : Bool) (v u : Value) (w : World) (hok : OkA A) (hv : isAr A v w) (hu : isEn Y u w) (hP : posN (ordA A) Y = P) (hZ : hitB (ordA A) Y = Z) : Calls Tryz.prog 88 #[v, u] w fun e w' => ∃ x, e = .returned x ∧ isVal (.tuple #[.int .i64 (P : Int), .bool Z]) x w' ∧ Below w.heap.size w w' :=
  (search_any A Y v u w hok hv hu).mono (by rintro e w' ⟨rfl, h⟩; exact ⟨_, rfl, by rw [hP, hZ]; rfl, h⟩)
noncomputable def jn3Ops : Array Oper := regionOf Tryz.f49 3
set_option maxRecDepth 100000 in
set_option maxHeartbeats 2000000 in
theorem jn3_region (Q : Exit → Act → World → Prop) (a0 : Act) (w0 : World) (hsz : a0.tmps.size = 83) (A : Ar) (g h P : Nat) (Z : Bool) (Y : En) (vs vi yp ym : Value) (e0 : a0.tmps.getD 0 undef = .pointer (some ⟨g, 0, none⟩)) (e3 : a0.tmps.getD 3 undef = .pointer (some ⟨h, 0, none⟩)) (HG : Blk w0 g [.int .i64 A.cap, vs, vi]) (HE : Blk w0 h [.string ⟨Y.key.toArray⟩, .int .i64 Y.val.kind, .int .i64 Y.val.time, .int .i64 Y.val.node, .bool Y.val.dead, .string ⟨Y.val.text.toArray⟩, yp, ym, .int .u64 (Y.val.flags.toNat : Int)]) (hok : OkA A) (hA : isAr A (.agg #[.int .i64 A.cap, vs, vi]) w0) (hyp : isCells (Y.val.plus.map intC) yp w0) (hym : isCells (Y.val.minus.map intC) ym w0) (hP : posN (ordA A) Y = P) (hZ : hitB (ordA A) Y = Z)
    (hQ : ∀ (g : Nat → Value) (w : World), g 6 = .int .i64 (P : Int) → g 7 = .bool Z → Below w0.heap.size w0 w → Q .normal { tmps := [20, 21, 22, 23, 24, 25, 19, 26, 27, 6, 7].foldl (fun t s => t.setIfInBounds s (g s)) a0.tmps, defers := a0.defers } w) :
    (Code.region 3 jn3Ops true).wp Tryz.prog Q a0 w0 := by
  refine wp_region_flow mixed (by rw [hsz]; kernel_rfl) ?_
  rw [show jn3Ops.size = 11 by kernel_rfl]
  refine ⟨isVal (.pointer (some ⟨g, 0, none⟩)), step_move (.tmp 0) (by kernel_rfl) (wanted_none (by kernel_rfl)) (stable_val _) (knows_old 0 (.pointer (some ⟨g, 0, none⟩)) (by kernel_rfl) e0), ?_⟩
  refine ⟨isVal (.pointer (some ⟨g, 0, none⟩)), step_nilA (.tmp 20) ⟨g, 0, none⟩ (by kernel_rfl) (wanted_none (by kernel_rfl)) (knows_new (V := isVal (.pointer (some ⟨g, 0, none⟩))) 20 0 (by kernel_rfl) (by kernel_rfl) (by kernel_rfl)), ?_⟩
  refine ⟨isVal (.pointer (some ⟨g, 0, none⟩)), step_field 72 (.tmp 21) 0 ⟨g, 0, none⟩ ⟨g, 0, none⟩ (by kernel_rfl) (wanted_none (by kernel_rfl)) (knows_new (V := isVal (.pointer (some ⟨g, 0, none⟩))) 21 1 (by kernel_rfl) (by kernel_rfl) (by kernel_rfl)) (f_ch_0_0 (g)), ?_⟩
  refine ⟨isVal (.agg #[.int .i64 A.cap, vs, vi]), step_loadA 25 (.tmp 22) (g) (0) [.int .i64 A.cap, vs, vi] (by kernel_rfl) (wanted_none (by kernel_rfl)) (knows_new (V := isVal (.pointer (some ⟨g, 0, none⟩))) 22 2 (by kernel_rfl) (by kernel_rfl) (by kernel_rfl)) size_ar agg_ar (⟨HG.lt, fun j x hx => by rw [Nat.zero_add]; exact HG.cells.2 j x hx⟩), ?_⟩
  refine ⟨isVal (.agg #[.string ⟨Y.key.toArray⟩, .int .i64 Y.val.kind, .int .i64 Y.val.time, .int .i64 Y.val.node, .bool Y.val.dead, .string ⟨Y.val.text.toArray⟩, yp, ym, .int .u64 (Y.val.flags.toNat : Int)]), step_loadA 30 (.tmp 3) (h) (0) [.string ⟨Y.key.toArray⟩, .int .i64 Y.val.kind, .int .i64 Y.val.time, .int .i64 Y.val.node, .bool Y.val.dead, .string ⟨Y.val.text.toArray⟩, yp, ym, .int .u64 (Y.val.flags.toNat : Int)] (by kernel_rfl) (wanted_none (by kernel_rfl)) (knows_old 3 (.pointer (some ⟨h, 0, none⟩)) (by kernel_rfl) e3) size_en agg_en (⟨HE.lt, fun j x hx => by rw [Nat.zero_add]; exact HE.cells.2 j x hx⟩), ?_⟩
  refine ⟨isVal (.tuple #[.int .i64 (P : Int), .bool Z]), step_call 88 #[.tmp 23, .tmp 24] #[25, 30] #[.agg #[.int .i64 A.cap, vs, vi], .agg #[.string ⟨Y.key.toArray⟩, .int .i64 Y.val.kind, .int .i64 Y.val.time, .int .i64 Y.val.node, .bool Y.val.dead, .string ⟨Y.val.text.toArray⟩, yp, ym, .int .u64 (Y.val.flags.toNat : Int)]] (by kernel_rfl) (wanted_none (by kernel_rfl)) (stable_val _) (args2 (.tmp 23) (.tmp 24) (.agg #[.int .i64 A.cap, vs, vi]) (.agg #[.string ⟨Y.key.toArray⟩, .int .i64 Y.val.kind, .int .i64 Y.val.time, .int .i64 Y.val.node, .bool Y.val.dead, .string ⟨Y.val.text.toArray⟩, yp, ym, .int .u64 (Y.val.flags.toNat : Int)]) (knows_new (V := isVal (.agg #[.int .i64 A.cap, vs, vi])) 23 3 (by kernel_rfl) (by kernel_rfl) (by kernel_rfl)) (knows_new (V := isVal (.agg #[.string ⟨Y.key.toArray⟩, .int .i64 Y.val.kind, .int .i64 Y.val.time, .int .i64 Y.val.node, .bool Y.val.dead, .string ⟨Y.val.text.toArray⟩, yp, ym, .int .u64 (Y.val.flags.toNat : Int)])) 24 4 (by kernel_rfl) (by kernel_rfl) (by kernel_rfl))) (enters_of Tryz.func88 (by kernel_rfl) rfl) (by intro w' hb; exact search_val A Y P Z _ _ w' hok (stable_ar _ _ _ _ hA hb) (en_mk hyp hym hb) hP hZ), ?_⟩
  refine ⟨isVal (.tuple #[.int .i64 (P : Int), .bool Z]), step_move (.tmp 25) (by kernel_rfl) (wanted_none (by kernel_rfl)) (stable_val _) (knows_new (V := isVal (.tuple #[.int .i64 (P : Int), .bool Z])) 25 5 (by kernel_rfl) (by kernel_rfl) (by kernel_rfl)), ?_⟩
  refine ⟨isVal (.int .i64 (P : Int)), step_extract (.tmp 19) 0 _ (.int .i64 (P : Int)) (by kernel_rfl) (wanted_none (by kernel_rfl)) (knows_new (V := isVal (.tuple #[.int .i64 (P : Int), .bool Z])) 19 6 (by kernel_rfl) (by kernel_rfl) (by kernel_rfl)) rfl, ?_⟩
  refine ⟨isVal (.bool Z), step_extract (.tmp 19) 1 _ (.bool Z) (by kernel_rfl) (wanted_none (by kernel_rfl)) (knows_new (V := isVal (.tuple #[.int .i64 (P : Int), .bool Z])) 19 6 (by kernel_rfl) (by kernel_rfl) (by kernel_rfl)) rfl, ?_⟩
  refine ⟨isVal (.int .i64 (P : Int)), step_assign (.tmp 26) (by kernel_rfl) (wanted_none (by kernel_rfl)) (stable_val _) (knows_new (V := isVal (.int .i64 (P : Int))) 26 7 (by kernel_rfl) (by kernel_rfl) (by kernel_rfl)), ?_⟩
  refine ⟨isVal (.bool Z), step_assign (.tmp 27) (by kernel_rfl) (wanted_none (by kernel_rfl)) (stable_val _) (knows_new (V := isVal (.bool Z)) 27 8 (by kernel_rfl) (by kernel_rfl) (by kernel_rfl)), ?_⟩
  intro a w hkp hb hd
  rw [kept_of hkp [some 20, some 21, some 22, some 23, some 24, some 25, some 19, some 26, some 27, some 6, some 7] [20, 21, 22, 23, 24, 25, 19, 26, 27, 6, 7] (by kernel_rfl) (by decide)]
  have d6 := fdone_of (hd 9 (by rw [show jn3Ops.size = 11 by kernel_rfl]; decide)) (t := 6) (V := isVal (.int .i64 (P : Int))) (by kernel_rfl) (by kernel_rfl)
  have d7 := fdone_of (hd 10 (by rw [show jn3Ops.size = 11 by kernel_rfl]; decide)) (t := 7) (V := isVal (.bool Z)) (by kernel_rfl) (by kernel_rfl)
  exact hQ (fun s => a.tmps.getD s undef) w d6 d7 hb

theorem put_kept3 {Q : Exit → Act → World → Prop} {a : Act} {d1 d2 d3 : Tmp} {v1 v2 v3 : Value} {t : Array Value} {ds : List Deferred} {w : World} (e : a = { tmps := t, defers := ds }) (h : Q .normal { tmps := ((t.setIfInBounds d1 v1).setIfInBounds d2 v2).setIfInBounds d3 v3, defers := ds } w) : Q .normal (((a.put (some d1) v1).put (some d2) v2).put (some d3) v3) w := by
  subst e; exact h
noncomputable def jn5Ops : Array Oper := regionOf Tryz.f49 5
set_option maxRecDepth 100000 in
set_option maxHeartbeats 2000000 in
theorem jn5_region (Q : Exit → Act → World → Prop) (a0 : Act) (w0 : World) (hsz : a0.tmps.size = 83) (A : Ar) (g h P q bi oi ci n : Nat) (Y : En) (vs yp ym : Value) (e0 : a0.tmps.getD 0 undef = .pointer (some ⟨g, 0, none⟩)) (e3 : a0.tmps.getD 3 undef = .pointer (some ⟨h, 0, none⟩)) (e6 : a0.tmps.getD 6 undef = .int .i64 (P : Int)) (HG : Blk w0 g [.int .i64 A.cap, vs, .slice (some ⟨bi, oi, none⟩) n ci]) (HE : Blk w0 h [.string ⟨Y.key.toArray⟩, .int .i64 Y.val.kind, .int .i64 Y.val.time, .int .i64 Y.val.node, .bool Y.val.dead, .string ⟨Y.val.text.toArray⟩, yp, ym, .int .u64 (Y.val.flags.toNat : Int)]) (hPn : P < n) (hci : w0.cell? ⟨bi, oi + P, none⟩ = some (.int .i64 (q : Int))) (hbi : bi < w0.heap.size)
    (hC : ∀ (y : Nat → Value) (w : World), Below w0.heap.size w0 w → Calls Tryz.prog 98 #[.pointer (some ⟨g, 0, none⟩), .int .i64 (q : Int), .agg #[.string ⟨Y.key.toArray⟩, .int .i64 Y.val.kind, .int .i64 Y.val.time, .int .i64 Y.val.node, .bool Y.val.dead, .string ⟨Y.val.text.toArray⟩, yp, ym, .int .u64 (Y.val.flags.toNat : Int)]] w fun e w' => ∃ z, e = .returned (.bool z) ∧ Q .normal { tmps := ((([29, 30, 31, 32, 33, 34, 35, 36, 37, 38, 39, 4, 5].foldl (fun t s => t.setIfInBounds s (y s)) a0.tmps).setIfInBounds 39 (.bool z)).setIfInBounds 4 (.bool z)).setIfInBounds 5 (.int .i64 0), defers := a0.defers } w') :
    (Code.region 5 jn5Ops true).wp Tryz.prog Q a0 w0 := by
  refine wp_region_cov 10 mixed (by rw [hsz]; kernel_rfl) (by kernel_rfl) ?_
  rw [show jn5Ops.size - 10 = 3 by kernel_rfl]
  refine ⟨isVal (.pointer (some ⟨g, 0, none⟩)), step_move (.tmp 0) (by kernel_rfl) (wanted_none (by kernel_rfl)) (stable_val _) (knows_old 0 (.pointer (some ⟨g, 0, none⟩)) (by kernel_rfl) e0), ?_⟩
  refine ⟨isVal (.pointer (some ⟨g, 0, none⟩)), step_move (.tmp 0) (by kernel_rfl) (wanted_none (by kernel_rfl)) (stable_val _) (knows_old 0 (.pointer (some ⟨g, 0, none⟩)) (by kernel_rfl) e0), ?_⟩
  refine ⟨isVal (.pointer (some ⟨g, 0, none⟩)), step_nilA (.tmp 30) ⟨g, 0, none⟩ (by kernel_rfl) (wanted_none (by kernel_rfl)) (knows_new (V := isVal (.pointer (some ⟨g, 0, none⟩))) 30 1 (by kernel_rfl) (by kernel_rfl) (by kernel_rfl)), ?_⟩
  refine ⟨isVal (.pointer (some ⟨g, 0, none⟩)), step_field 72 (.tmp 31) 0 ⟨g, 0, none⟩ ⟨g, 0, none⟩ (by kernel_rfl) (wanted_none (by kernel_rfl)) (knows_new (V := isVal (.pointer (some ⟨g, 0, none⟩))) 31 2 (by kernel_rfl) (by kernel_rfl) (by kernel_rfl)) (f_ch_0_0 (g)), ?_⟩
  refine ⟨isVal (.pointer (some ⟨g, 2, none⟩)), step_field 25 (.tmp 32) 2 ⟨g, 0, none⟩ ⟨g, 2, none⟩ (by kernel_rfl) (wanted_none (by kernel_rfl)) (knows_new (V := isVal (.pointer (some ⟨g, 0, none⟩))) 32 3 (by kernel_rfl) (by kernel_rfl) (by kernel_rfl)) (f_ar_0_2 (g)), ?_⟩
  refine ⟨isVal (.slice (some ⟨bi, oi, none⟩) n ci), step_read 23 (.tmp 33) ⟨g, 2, none⟩ (.slice (some ⟨bi, oi, none⟩) n ci) (by kernel_rfl) (wanted_none (by kernel_rfl)) (knows_new (V := isVal (.pointer (some ⟨g, 2, none⟩))) 33 4 (by kernel_rfl) (by kernel_rfl) (by kernel_rfl)) (HG.cells.2 2 _ rfl) (HG.lt) (agg_noI), ?_⟩
  refine ⟨isVal (.int .i64 (P : Int)), step_move (.tmp 6) (by kernel_rfl) (wanted_none (by kernel_rfl)) (stable_val _) (knows_old 6 (.int .i64 (P : Int)) (by kernel_rfl) e6), ?_⟩
  refine ⟨isVal (.pointer (some ⟨bi, oi + P, none⟩)), step_place 23 3 (.tmp 34) (.tmp 35) bi (oi) (n) (ci) (P) (by kernel_rfl) (wanted_none (by kernel_rfl)) (knows_new (V := isVal (.slice (some ⟨bi, oi, none⟩) n ci)) 34 5 (by kernel_rfl) (by kernel_rfl) (by kernel_rfl)) (knows_new (V := isVal (.int .i64 (P : Int))) 35 6 (by kernel_rfl) (by kernel_rfl) (by kernel_rfl)) Tryz.underlying23 (by kernel_rfl) (hPn), ?_⟩
  refine ⟨isVal (.int .i64 (q : Int)), step_read 3 (.tmp 36) ⟨bi, oi + P, none⟩ (.int .i64 (q : Int)) (by kernel_rfl) (wanted_none (by kernel_rfl)) (knows_new (V := isVal (.pointer (some ⟨bi, oi + P, none⟩))) 36 7 (by kernel_rfl) (by kernel_rfl) (by kernel_rfl)) (hci) (hbi) (agg_noZ), ?_⟩
  refine ⟨isVal (.agg #[.string ⟨Y.key.toArray⟩, .int .i64 Y.val.kind, .int .i64 Y.val.time, .int .i64 Y.val.node, .bool Y.val.dead, .string ⟨Y.val.text.toArray⟩, yp, ym, .int .u64 (Y.val.flags.toNat : Int)]), step_loadA 30 (.tmp 3) (h) (0) [.string ⟨Y.key.toArray⟩, .int .i64 Y.val.kind, .int .i64 Y.val.time, .int .i64 Y.val.node, .bool Y.val.dead, .string ⟨Y.val.text.toArray⟩, yp, ym, .int .u64 (Y.val.flags.toNat : Int)] (by kernel_rfl) (wanted_none (by kernel_rfl)) (knows_old 3 (.pointer (some ⟨h, 0, none⟩)) (by kernel_rfl) e3) size_en agg_en (⟨HE.lt, fun j x hx => by rw [Nat.zero_add]; exact HE.cells.2 j x hx⟩), ?_⟩
  intro a w hkp hb hd
  have d29 : a.eval (.tmp 29) = _ := fdone_of (hd 0 (by decide)) (t := 29) (V := isVal (.pointer (some ⟨g, 0, none⟩))) (by kernel_rfl) (by kernel_rfl)
  have d37 : a.eval (.tmp 37) = _ := fdone_of (hd 8 (by decide)) (t := 37) (V := isVal (.int .i64 (q : Int))) (by kernel_rfl) (by kernel_rfl)
  have d38 : a.eval (.tmp 38) = _ := fdone_of (hd 9 (by decide)) (t := 38) (V := isVal (.agg #[.string ⟨Y.key.toArray⟩, .int .i64 Y.val.kind, .int .i64 Y.val.time, .int .i64 Y.val.node, .bool Y.val.dead, .string ⟨Y.val.text.toArray⟩, yp, ym, .int .u64 (Y.val.flags.toNat : Int)])) (by kernel_rfl) (by kernel_rfl)
  refine tail_call 98 #[.tmp 29, .tmp 37, .tmp 38] #[67, 3, 30] #[.pointer (some ⟨g, 0, none⟩), .int .i64 (q : Int), .agg #[.string ⟨Y.key.toArray⟩, .int .i64 Y.val.kind, .int .i64 Y.val.time, .int .i64 Y.val.node, .bool Y.val.dead, .string ⟨Y.val.text.toArray⟩, yp, ym, .int .u64 (Y.val.flags.toNat : Int)]] 39 (by kernel_rfl) (by kernel_rfl) (by simp only [List.map_toArray, List.map_cons, List.map_nil, d29, d37, d38]) (enters_of Tryz.func98 (by kernel_rfl) rfl) ?_
  obtain ⟨y, ey⟩ := kept_ex hkp [some 29, some 30, some 31, some 32, some 33, some 34, some 35, some 36, some 37, some 38, some 39, some 4, some 5] [29, 30, 31, 32, 33, 34, 35, 36, 37, 38, 39, 4, 5] (by kernel_rfl) (by decide)
  have hs : a.tmps.size = 83 := hkp.2.1.trans hsz
  refine (hC y w hb).mono ?_
  rintro e w' ⟨z, rfl, hq⟩
  refine ⟨_, rfl, ?_⟩
  refine tail_assignA (.tmp 39) 4 (.bool z) (by kernel_rfl) (by kernel_rfl) (getD_put_self (by rw [hs]; decide)) ?_
  refine tail_assignA (.const (.int .i64 0)) 5 (.int .i64 0) (by kernel_rfl) (by kernel_rfl) rfl ?_
  exact put_kept3 ey hq
/-- A slice of just this number, in a new block of its own. -/
def isLit1 (N : Nat) (x : Int) : VP := fun v w => ∃ b, v = .slice (some ⟨b, 0, none⟩) 1 1 ∧ N ≤ b ∧ w.heap[b]? = some (.cells #[intC x] 3 (0, 0))
theorem stable_lit1 (N : Nat) (x : Int) : Stable (isLit1 N x) := fun v w w' ⟨b, e, hN, h⟩ hb => ⟨b, e, hN, (hb.block b (Array.getElem?_eq_some_iff.1 h).1).trans h⟩
theorem lit1_R {N : Nat} {r : Option Nat} (hr : ∀ s, r = some s → s < N) (x : Int) : StableR (GB r) (isLit1 N x) := fun v w w' ⟨b, e, hN, h⟩ hb => ⟨b, e, hN, (hb.block b (Array.getElem?_eq_some_iff.1 h).1 (fun e => by have := hr b e.symm; omega)).trans h⟩
theorem step_lit1 {ops : Array Oper} {base : World} {a0 : Act} {Q : Exit → Act → World → Prop} {kn : Nat → VP} {i : Nat} (N : Nat) (x : Operand) (a1 : Int) (hop : (ops[i]?).map (·.op) = some (.buildSlice 23 1 #[(0, x)])) (hw : Wanted ops a0 kn i) (h0 : Knows ops a0 kn i x (isVal (.int .i64 a1))) (hN : N ≤ base.heap.size) : FStep Tryz.prog ops base a0 Q kn i (isLit1 N a1) :=
  step_mk (stable_lit1 _ _) hw fun o ho a w hk hb hd => by
    have e0 : a.eval x = intC a1 := h0 a w hk hd
    obtain ⟨ie, hie, h2⟩ := Option.map_eq_some_iff.1 Tryz.infoInt
    simp only [Prod.mk.injEq] at h2
    obtain ⟨hz, hsz, _⟩ := h2
    have hf : Instr.fill (fun i => some (i * ie.size, ie.size)) ((Array.range (1 * ie.size)).map ((Value.int .i64 0).cells[· % (Value.int .i64 0).cells.size]!)) ((#[(0, x)] : Array (Nat × Operand)).map fun (i, x) => (i, a.eval x)).toList = some #[intC a1] := by
      have e1 : ((#[(0, x)] : Array (Nat × Operand)).map fun (i, x) => (i, a.eval x)).toList = (([intC a1] : List Value).zipIdx 0).map fun x => (x.2, x.1) := by simp [e0]
      rw [e1, hsz, Great.fill_flat _ _ (fun v hv => by simp only [List.mem_cons, List.not_mem_nil, or_false] at hv; subst hv; rfl) (by simp)]
    refine wp_buildSlice 23 3 1 _ (op_of hop ho) _ ie (.int .i64 0) Tryz.underlying23 hie hz (by rw [hsz]; omega) (by rw [hsz]; omega) hf ?_
    exact ⟨_, rfl, ⟨w.heap.size, rfl, Nat.le_trans hN hb.size, heap_alloc_new w _⟩, (Below.refl _ _).alloc (Nat.le_refl _) _⟩
/-- The row with one number more. -/
def isIns (B N : Nat) (r : Option Nat) (l : List Int) (P : Nat) (x : Int) : VP := fun v w => w.ownsRow B 3 1 v (l.length + 1) ((insL l P x).map intC) ∧ (v.ownBlock = r ∨ NewB N v)
theorem ostep_ins {ops : Array Oper} {base : World} {a0 : Act} {Q : Exit → Act → World → Prop} {kn : Nat → VP} {i : Nat} {k0 : Nat} {ups : List Nat} (B N : Nat) (r : Option Nat) (l : List Int) (P : Nat) (x : Int) (vi : Value) (o1 o2 o3 : Operand) (hop : (ops[i]?).map (fun o => (o.op, o.guard)) = some (.call { callee := .value (.func 99), args := #[o1, o2, o3], argTypes := #[23, 3, 23] }, none))
    (h1 : Knows ops a0 kn i o1 (isVal vi)) (h2 : Knows ops a0 kn i o2 (isVal (.int .i64 (P : Int)))) (h3 : Knows ops a0 kn i o3 (isLit1 N x)) (hP : P ≤ l.length) (hl : l.length ≤ 100) (hB : B ≤ base.heap.size) (hre : vi.ownBlock = r) (hrN : ∀ s, r = some s → s < N) (hdst : ((ops[i]?).bind (·.dst)).isSome = true) (hNb : N = base.heap.size := by rfl) : OStep (GB r) i ups (fun w => w.ownsRow B 3 1 vi l.length (l.map intC)) Tryz.prog ops base a0 Q k0 kn i (isIns B N r l P x) := by
  refine ⟨⟨fun _ => fun v w w' h hb => ⟨own_grow h.1 hb, h.2⟩, fun h => absurd rfl h⟩, fun o ho a w hk0 hb h0 hd => ?_⟩
  have hkf := hk0.f
  have hown := h0 (.inl rfl)
  rw [ho] at hop hdst
  simp only [Option.map_some, Option.some.injEq, Prod.mk.injEq] at hop
  obtain ⟨ho1, ho2⟩ := hop
  have hd' : FDeps ops kn i a w := fun o' ho' e he hbd => rdone_f (hd o' ho' e he hbd)
  have e1 : a.eval o1 = vi := h1 a w hkf hd'
  have e2 : a.eval o2 = .int .i64 (P : Int) := h2 a w hkf hd'
  obtain ⟨vb, e3, hvN, hvb⟩ := h3 a w hkf hd'
  have hne : vi.ownBlock ≠ some vb := by
    intro e
    have := hrN vb (hre.symm.trans e)
    omega
  unfold wpOp
  simp only [ho]
  rw [show Region.wanted o (yielded ops a.tmps) = true by simp [Region.wanted, ho2]]
  refine .inl ?_
  unfold Oper.wp execOp
  rw [ho1]
  have e4 : a.eval (.func 99) = .func (.func 99) #[] #[] := rfl
  simp only [resolve, e4, Deferred.ofValue, Sem.run_bind, Sem.run_pure, Result.andThen_ok, invoke, Array.append_empty, Array.empty_append, List.map_toArray, List.map_cons, List.map_nil, e1, e2, e3]
  rw [enters_of Tryz.func99 (by kernel_rfl) rfl]
  simp only [Oper.upon]
  refine (insert_any B l P vb x vi w hown hP hl (Nat.le_trans hB hb.size) hvb hne).mono ?_
  rintro e w' ⟨v', rfl, q1, q2, q3⟩
  rw [hre] at q2 q3
  refine ⟨v', rfl, fun hn => by simp [hn] at hdst, ⟨q1, q3.imp id (fun e b hb' => ?_)⟩, q2, fun h => absurd rfl h⟩
  have h4 := own_blk_eq e
  rw [hb'] at h4
  injection h4 with h4
  have := hb.size
  omega
noncomputable def jn8Ops : Array Oper := regionOf Tryz.f49 8
set_option maxRecDepth 100000 in
set_option maxHeartbeats 2000000 in
theorem jn8_region (Q : Exit → Act → World → Prop) (a0 : Act) (w0 : World) (hsz : a0.tmps.size = 83) (A : Ar) (B g P m cs : Nat) (sa : Option Addr) (vi : Value) (e0 : a0.tmps.getD 0 undef = .pointer (some ⟨g, 0, none⟩)) (e6 : a0.tmps.getD 6 undef = .int .i64 (P : Int)) (HG : Blk w0 g [.int .i64 A.cap, .slice sa m cs, vi]) (hown : w0.ownsRow B 3 1 vi A.index.length (A.index.map intC)) (hB : B ≤ w0.heap.size) (hP : P ≤ A.index.length) (hl : A.index.length ≤ 100) (hng0 : vi.ownBlock ≠ some g)
    (hQ : ∀ (y : Nat → Value) (v' : Value) (w : World), w.ownsRow B 3 1 v' (A.index.length + 1) ((insL A.index P (m : Int)).map intC) → w0.grownBy w vi.ownBlock → (v'.ownBlock = vi.ownBlock ∨ NewB w0.heap.size v') →
      Q .normal { tmps := [52, 53, 54, 55, 56, 57, 58, 59, 60, 61, 62, 63, 64, 65, 66, 67, 68, 69].foldl (fun t s => t.setIfInBounds s (y s)) a0.tmps, defers := a0.defers } (w.setCell ⟨g, 2, none⟩ v')) :
    (Code.region 8 jn8Ops true).wp Tryz.prog Q a0 w0 := by
  obtain ⟨r, hre⟩ : ∃ r, vi.ownBlock = r := ⟨_, rfl⟩
  have hng : r ≠ some g := by rw [← hre]; exact hng0
  have hrN : ∀ s, r = some s → s < w0.heap.size := fun s e => (hown.lt s (hre.trans e)).2
  have hR := gb_pre r
  refine wp_region_one hR 14 [] (fun w => w.ownsRow B 3 1 vi A.index.length (A.index.map intC)) (by kernel_rfl) (fun _ _ h hb => own_grow h hb) (fun _ h => own_grow h ((Below.refl _ _).drew)) 18 mixed (by rw [hsz]; kernel_rfl) (by kernel_rfl) hown ?_
  rw [show jn8Ops.size - 18 = 1 by kernel_rfl]
  refine ⟨isVal (.pointer (some ⟨g, 0, none⟩)), OStep.of hR (by decide) (stabR_val' _ _) (by kernel_rfl) (by intro w hr; exact step_move (.tmp 0) (by kernel_rfl) (wanted_none (by kernel_rfl)) (stable_val _) (knows_old 0 (.pointer (some ⟨g, 0, none⟩)) (by kernel_rfl) e0)), ?_⟩
  refine ⟨isVal (.pointer (some ⟨g, 0, none⟩)), OStep.of hR (by decide) (stabR_val' _ _) (by kernel_rfl) (by intro w hr; exact step_move (.tmp 0) (by kernel_rfl) (wanted_none (by kernel_rfl)) (stable_val _) (knows_old 0 (.pointer (some ⟨g, 0, none⟩)) (by kernel_rfl) e0)), ?_⟩
  refine ⟨isVal (.pointer (some ⟨g, 0, none⟩)), OStep.of hR (by decide) (stabR_val' _ _) (by kernel_rfl) (by intro w hr; exact step_nilA (.tmp 53) ⟨g, 0, none⟩ (by kernel_rfl) (wanted_none (by kernel_rfl)) (knows_new (V := isVal (.pointer (some ⟨g, 0, none⟩))) 53 1 (by kernel_rfl) (by kernel_rfl) (by kernel_rfl))), ?_⟩
  refine ⟨isVal (.pointer (some ⟨g, 0, none⟩)), OStep.of hR (by decide) (stabR_val' _ _) (by kernel_rfl) (by intro w hr; exact step_field 72 (.tmp 54) 0 ⟨g, 0, none⟩ ⟨g, 0, none⟩ (by kernel_rfl) (wanted_none (by kernel_rfl)) (knows_new (V := isVal (.pointer (some ⟨g, 0, none⟩))) 54 2 (by kernel_rfl) (by kernel_rfl) (by kernel_rfl)) (f_ch_0_0 (g))), ?_⟩
  refine ⟨isVal (.pointer (some ⟨g, 2, none⟩)), OStep.of hR (by decide) (stabR_val' _ _) (by kernel_rfl) (by intro w hr; exact step_field 25 (.tmp 55) 2 ⟨g, 0, none⟩ ⟨g, 2, none⟩ (by kernel_rfl) (wanted_none (by kernel_rfl)) (knows_new (V := isVal (.pointer (some ⟨g, 0, none⟩))) 55 3 (by kernel_rfl) (by kernel_rfl) (by kernel_rfl)) (f_ar_0_2 (g))), ?_⟩
  refine ⟨isVal vi, OStep.of hR (by decide) (stabR_val' _ _) (by kernel_rfl) (by intro w hr; exact step_read 23 (.tmp 56) ⟨g, 2, none⟩ vi (by kernel_rfl) (wanted_none (by kernel_rfl)) (knows_new (V := isVal (.pointer (some ⟨g, 2, none⟩))) 56 4 (by kernel_rfl) (by kernel_rfl) (by kernel_rfl)) ((hr.cell_ (HG.cells.2 2 _ rfl) HG.lt hng)) ((Nat.lt_of_lt_of_le HG.lt hr.size)) (agg_noI)), ?_⟩
  refine ⟨isVal (.int .i64 (P : Int)), OStep.of hR (by decide) (stabR_val' _ _) (by kernel_rfl) (by intro w hr; exact step_move (.tmp 6) (by kernel_rfl) (wanted_none (by kernel_rfl)) (stable_val _) (knows_old 6 (.int .i64 (P : Int)) (by kernel_rfl) e6)), ?_⟩
  refine ⟨isVal (.pointer (some ⟨g, 0, none⟩)), OStep.of hR (by decide) (stabR_val' _ _) (by kernel_rfl) (by intro w hr; exact step_move (.tmp 0) (by kernel_rfl) (wanted_none (by kernel_rfl)) (stable_val _) (knows_old 0 (.pointer (some ⟨g, 0, none⟩)) (by kernel_rfl) e0)), ?_⟩
  refine ⟨isVal (.pointer (some ⟨g, 0, none⟩)), OStep.of hR (by decide) (stabR_val' _ _) (by kernel_rfl) (by intro w hr; exact step_nilA (.tmp 59) ⟨g, 0, none⟩ (by kernel_rfl) (wanted_none (by kernel_rfl)) (knows_new (V := isVal (.pointer (some ⟨g, 0, none⟩))) 59 7 (by kernel_rfl) (by kernel_rfl) (by kernel_rfl))), ?_⟩
  refine ⟨isVal (.pointer (some ⟨g, 0, none⟩)), OStep.of hR (by decide) (stabR_val' _ _) (by kernel_rfl) (by intro w hr; exact step_field 72 (.tmp 60) 0 ⟨g, 0, none⟩ ⟨g, 0, none⟩ (by kernel_rfl) (wanted_none (by kernel_rfl)) (knows_new (V := isVal (.pointer (some ⟨g, 0, none⟩))) 60 8 (by kernel_rfl) (by kernel_rfl) (by kernel_rfl)) (f_ch_0_0 (g))), ?_⟩
  refine ⟨isVal (.pointer (some ⟨g, 1, none⟩)), OStep.of hR (by decide) (stabR_val' _ _) (by kernel_rfl) (by intro w hr; exact step_field 25 (.tmp 61) 1 ⟨g, 0, none⟩ ⟨g, 1, none⟩ (by kernel_rfl) (wanted_none (by kernel_rfl)) (knows_new (V := isVal (.pointer (some ⟨g, 0, none⟩))) 61 9 (by kernel_rfl) (by kernel_rfl) (by kernel_rfl)) (f_ar_0_1 (g))), ?_⟩
  refine ⟨isVal (.slice sa m cs), OStep.of hR (by decide) (stabR_val' _ _) (by kernel_rfl) (by intro w hr; exact step_read 22 (.tmp 62) ⟨g, 1, none⟩ (.slice sa m cs) (by kernel_rfl) (wanted_none (by kernel_rfl)) (knows_new (V := isVal (.pointer (some ⟨g, 1, none⟩))) 62 10 (by kernel_rfl) (by kernel_rfl) (by kernel_rfl)) ((hr.cell_ (HG.cells.2 1 _ rfl) HG.lt hng)) ((Nat.lt_of_lt_of_le HG.lt hr.size)) (agg_noS)), ?_⟩
  refine ⟨isVal (.int .i64 (m : Int)), OStep.of hR (by decide) (stabR_val' _ _) (by kernel_rfl) (by intro w hr; exact step_len 22 (.tmp 63) (.slice sa m cs) (.int .i64 (m : Int)) (by kernel_rfl) (wanted_none (by kernel_rfl)) (knows_new (V := isVal (.slice sa m cs)) 63 11 (by kernel_rfl) (by kernel_rfl) (by kernel_rfl)) (fun ty w => by kernel_rfl)), ?_⟩
  refine ⟨(isLit1 w0.heap.size (m : Int)), OStep.of hR (by decide) (lit1_R hrN _) (by kernel_rfl) (by intro w hr; exact step_lit1 w0.heap.size (.tmp 64) (m : Int) (by kernel_rfl) (wanted_none (by kernel_rfl)) (knows_new (V := isVal (.int .i64 (m : Int))) 64 12 (by kernel_rfl) (by kernel_rfl) (by kernel_rfl)) hr.size), ?_⟩
  refine ⟨isIns B w0.heap.size r A.index P (m : Int), ostep_ins B w0.heap.size r A.index P (m : Int) vi (.tmp 57) (.tmp 58) (.tmp 65) (by kernel_rfl) (knows_new (V := isVal vi) 57 5 (by kernel_rfl) (by kernel_rfl) (by kernel_rfl)) (knows_new (V := isVal (.int .i64 (P : Int))) 58 6 (by kernel_rfl) (by kernel_rfl) (by kernel_rfl)) (knows_new (V := (isLit1 w0.heap.size (m : Int))) 65 13 (by kernel_rfl) (by kernel_rfl) (by kernel_rfl)) hP hl hB hre hrN (by kernel_rfl), ?_⟩
  refine ⟨isVal (.pointer (some ⟨g, 0, none⟩)), OStep.of hR (by decide) (stabR_val' _ _) (by kernel_rfl) (by intro w hr; exact step_nilA (.tmp 52) ⟨g, 0, none⟩ (by kernel_rfl) (wanted_none (by kernel_rfl)) (knows_new (V := isVal (.pointer (some ⟨g, 0, none⟩))) 52 0 (by kernel_rfl) (by kernel_rfl) (by kernel_rfl))), ?_⟩
  refine ⟨isVal (.pointer (some ⟨g, 0, none⟩)), OStep.of hR (by decide) (stabR_val' _ _) (by kernel_rfl) (by intro w hr; exact step_field 72 (.tmp 67) 0 ⟨g, 0, none⟩ ⟨g, 0, none⟩ (by kernel_rfl) (wanted_none (by kernel_rfl)) (knows_new (V := isVal (.pointer (some ⟨g, 0, none⟩))) 67 15 (by kernel_rfl) (by kernel_rfl) (by kernel_rfl)) (f_ch_0_0 (g))), ?_⟩
  refine ⟨isVal (.pointer (some ⟨g, 2, none⟩)), OStep.of hR (by decide) (stabR_val' _ _) (by kernel_rfl) (by intro w hr; exact step_field 25 (.tmp 68) 2 ⟨g, 0, none⟩ ⟨g, 2, none⟩ (by kernel_rfl) (wanted_none (by kernel_rfl)) (knows_new (V := isVal (.pointer (some ⟨g, 0, none⟩))) 68 16 (by kernel_rfl) (by kernel_rfl) (by kernel_rfl)) (f_ar_0_2 (g))), ?_⟩
  intro a w hk0 hb hd
  have d66 := fdone_of (rdone_f (hd 14 (by decide))) (t := 66) (V := isIns B w0.heap.size r A.index P (m : Int)) (by kernel_rfl) (by kernel_rfl)
  have d69 := fdone_of (rdone_f (hd 17 (by decide))) (t := 69) (V := isVal (.pointer (some ⟨g, 2, none⟩))) (by kernel_rfl) (by kernel_rfl)
  generalize hv : a.tmps.getD 66 undef = v' at d66
  obtain ⟨h1, h3⟩ := d66
  have gl : g < w.heap.size := Nat.lt_of_lt_of_le HG.lt hb.size
  have HG3 : Blk w g [.int .i64 A.cap, .slice sa m cs, vi] := ⟨⟨gl, fun j x hx => hb.cell_ (HG.cells.2 j x hx) HG.lt hng⟩, fun j => (hb.frozen_ HG.lt hng).trans (HG.free j)⟩
  refine tail_store 23 (.tmp 69) (.tmp 66) ⟨g, 2, none⟩ v' vi (by kernel_rfl) (by kernel_rfl) d69 hv (by kernel_rfl) (own_one h1).1 (own_one h1).2 (HG3.cells.2 2 _ rfl) (HG3.free 2) ?_
  obtain ⟨y, ey⟩ := kept_ex hk0.f [some 52, some 53, some 54, some 55, some 56, some 57, some 58, some 59, some 60, some 61, some 62, some 63, some 64, some 65, some 66, some 67, some 68, some 69, none] [52, 53, 54, 55, 56, 57, 58, 59, 60, 61, 62, 63, 64, 65, 66, 67, 68, 69] (by kernel_rfl) (by decide)
  rw [ey]
  rw [← hre] at hb h3
  exact hQ y v' w h1 hb h3
end Go.Proofs.YtbgconagkgfplaaGreat
end
section
namespace Go.Proofs.YtbgconagkgfplaaGreat
open Go.RowKit
set_option linter.unusedVariables false
set_option linter.unusedSimpArgs false
attribute [local irreducible] setN

theorem join_no {A : Ar} {Y : En} (h : (okA A && okE Y) = false) : joinAE A Y = 2 ∧ joinAB A Y = false ∧ joinAF A Y = A := by
  unfold joinAE joinAB joinAF; rw [h]; exact ⟨rfl, rfl, rfl⟩
theorem join_hit {A : Ar} {Y : En} (h1 : okA A = true) (h2 : okE Y = true) (h3 : hitB (ordA A) Y = true) : joinAE A Y = 0 ∧ joinAB A Y = !decide (slotAt A.slots (placeI A Y) = joinEF (slotAt A.slots (placeI A Y)) Y) ∧ joinAF A Y = ⟨A.cap, meetL A Y, A.index⟩ := by
  unfold joinAE joinAB joinAF; rw [h1, h2, h3]; exact ⟨rfl, rfl, rfl⟩
theorem join_full {A : Ar} {Y : En} (h1 : okA A = true) (h2 : okE Y = true) (h3 : hitB (ordA A) Y = false) (h4 : (A.slots.length : Int) = A.cap) : joinAE A Y = 4 ∧ joinAB A Y = false ∧ joinAF A Y = A := by
  unfold joinAE joinAB joinAF; rw [h1, h2, h3]; simp [h4]
theorem join_new {A : Ar} {Y : En} (h1 : okA A = true) (h2 : okE Y = true) (h3 : hitB (ordA A) Y = false) (h4 : ¬ (A.slots.length : Int) = A.cap) : joinAE A Y = 0 ∧ joinAB A Y = true ∧ joinAF A Y = ⟨A.cap, A.slots ++ [Y], putIdx A Y⟩ := by
  unfold joinAE joinAB joinAF; rw [h1, h2, h3]; simp [h4]
/-- An entry whose rows are older than B. -/
def isEnO (B : Nat) (E : En) : VP := fun v w => ∃ vp vm, v = .agg #[.string ⟨E.key.toArray⟩, .int .i64 E.val.kind, .int .i64 E.val.time, .int .i64 E.val.node, .bool E.val.dead, .string ⟨E.val.text.toArray⟩, vp, vm, .int .u64 (E.val.flags.toNat : Int)] ∧ isCells (E.val.plus.map intC) vp w ∧ isCells (E.val.minus.map intC) vm w ∧ (E.val.plus.map intC = [] ∨ ∀ b, blk vp = some b → b < B) ∧ (E.val.minus.map intC = [] ∨ ∀ b, blk vm = some b → b < B)
theorem enO_of {E : En} {v : Value} {w w' : World} (h : isEn E v w) (hb : Below w.heap.size w w') (B : Nat) (hB : w.heap.size ≤ B) : isEnO B E v w' := by
  obtain ⟨vp, vm, e, hp, hm⟩ := h
  exact ⟨vp, vm, e, stable_cells _ _ _ _ hp hb, stable_cells _ _ _ _ hm hb, (cells_lt hp).imp id (fun h b hb => Nat.lt_of_lt_of_le (h b hb) hB), (cells_lt hm).imp id (fun h b hb => Nat.lt_of_lt_of_le (h b hb) hB)⟩
def JPost (B g : Nat) (A' : Ar) (w : World) : Prop := ∃ vs vi ps, ChA B w g A' vs vi ps
theorem ChA.idxput {B : Nat} {w0 w : World} {g : Nat} {A : Ar} {vs vi : Value} {ps : List (En × Value × Value)} (h : ChA B w0 g A vs vi ps) (l : List Int) (v' : Value) (h1 : w.ownsRow B 3 1 v' l.length (l.map intC)) (h2 : w0.grownBy w vi.ownBlock) (h3 : v'.ownBlock = vi.ownBlock ∨ NewB w0.heap.size v') : ChA B (w.setCell ⟨g, 2, none⟩ v') g ⟨A.cap, A.slots, l⟩ vs v' ps ∧ Bt (fun b => b = g ∨ vi.ownBlock = some b) w0 (w.setCell ⟨g, 2, none⟩ v') := by
  have bt0 : Bt (fun b => b = g ∨ vi.ownBlock = some b) w0 w := gb_bt h2 (fun b e => .inr e)
  have bts := bt_set (S := fun b => b = g ∨ vi.ownBlock = some b) g 2 v' w (.inl rfl)
  have bt := bt0.trans bts
  have hg := h.lt
  have new_v : ∀ b, v'.ownBlock = some b → vi.ownBlock = some b ∨ w0.heap.size ≤ b := fun b hb => h3.imp (fun e => by rw [← e]; exact hb) (fun e => e b (own_blk_eq hb))
  have hst : Blk w g [.int .i64 A.cap, vs, vi] := (gb_bt (S := fun b => vi.ownBlock = some b) h2 (fun b e => e)).blk h.st h.n2
  have vs_lt : ∀ b, vs.ownBlock = some b → b < w0.heap.size := fun b hb => (h.own.lt b hb).2
  have hvg : v'.ownBlock ≠ some g := by
    intro e
    rcases new_v g e with e | e
    · exact h.n2 e
    · omega
  refine ⟨⟨hst.set 2 v' (by simp), h.lo, bt.own h.own (fun b hb e => ?_), h.sl, own_set h1 hvg, fun q hq => ?_, h.n1, hvg, ?_, ?_, h.nw⟩, bt⟩
  · rcases e with e | e
    · exact h.n1 (by rw [hb, e])
    · exact h.n3 b hb e
  · obtain ⟨r1, r2⟩ := h.rows q hq
    have o := h.off q hq
    refine ⟨bt.cells r1 ?_, bt.cells r2 ?_⟩
    · by_cases e : q.1.val.plus.map intC = []
      · exact .inl e
      · exact .inr (fun b hb hS => ((o b (by rcases hS with hS | hS; exact .inl hS; exact .inr (.inr hS))).1.resolve_left e) hb)
    · by_cases e : q.1.val.minus.map intC = []
      · exact .inl e
      · exact .inr (fun b hb hS => ((o b (by rcases hS with hS | hS; exact .inl hS; exact .inr (.inr hS))).2.resolve_left e) hb)
  · intro b hb e
    rcases new_v b e with e | e
    · exact h.n3 b hb e
    · have := vs_lt b hb; omega
  · intro q hq b hb
    have o := h.off q hq
    rcases hb with hb | hb | hb
    · exact o b (.inl hb)
    · exact o b (.inr (.inl hb))
    · rcases new_v b hb with e | e
      · exact o b (.inr (.inr e))
      · refine ⟨(cells_lt (h.rows q hq).1).imp id (fun h3 e3 => ?_), (cells_lt (h.rows q hq).2).imp id (fun h3 e3 => ?_)⟩
        · have := h3 b e3; omega
        · have := h3 b e3; omega
set_option maxRecDepth 100000 in
set_option maxHeartbeats 2000000 in
theorem cjoin_any (B g : Nat) (A : Ar) (Y : En) (vs vi v : Value) (ps : List (En × Value × Value)) (w : World) (h : ChA B w g A vs vi ps) (hv : isEnO B Y v w) (hF : FitA A) (hY : FitE Y) (hBw : B ≤ w.heap.size) :
    Calls Tryz.prog 49 #[.pointer (some ⟨g, 0, none⟩), v] w fun e w' => e = .returned (.tuple #[.bool (joinAB A Y), .int .i64 (joinAE A Y)]) ∧ JPost B g (joinAF A Y) w' ∧ Below B w w' := by
  obtain ⟨yp, ym, rfl, hyp, hym, oyp, oym⟩ := hv
  have OY := Kept.mk (And.intro oyp oym)
  have hvi0 : ∀ b, vi.ownBlock = some b → B ≤ b ∧ b < w.heap.size := fun b hb => h.idx.lt b hb
  have hvs0 : ∀ b, vs.ownBlock = some b → B ≤ b ∧ b < w.heap.size := fun b hb => h.own.lt b hb
  have hb0 := lit_below w (.cells #[.string ⟨Y.key.toArray⟩, .int .i64 Y.val.kind, .int .i64 Y.val.time, .int .i64 Y.val.node, .bool Y.val.dead, .string ⟨Y.val.text.toArray⟩, yp, ym, .int .u64 (Y.val.flags.toNat : Int)] 30)
  have hB := Kept.mk hb0
  have HC := Kept.mk (h.keep hb0)
  have HE := Kept.mk (Blk.new w 30 [.string ⟨Y.key.toArray⟩, .int .i64 Y.val.kind, .int .i64 Y.val.time, .int .i64 Y.val.node, .bool Y.val.dead, .string ⟨Y.val.text.toArray⟩, yp, ym, .int .u64 (Y.val.flags.toNat : Int)] w.heap.size rfl)
  have RY0 := Kept.mk (And.intro (cells_lt hyp) (cells_lt hym))
  have RY := Kept.mk (And.intro (stable_cells _ _ _ _ hyp hb0) (stable_cells _ _ _ _ hym hb0))
  have hgw := h.lt
  have hlo := h.lo
  have hN0 : w.heap.size < (w.alloc (.cells #[.string ⟨Y.key.toArray⟩, .int .i64 Y.val.kind, .int .i64 Y.val.time, .int .i64 Y.val.node, .bool Y.val.dead, .string ⟨Y.val.text.toArray⟩, yp, ym, .int .u64 (Y.val.flags.toNat : Int)] 30)).heap.size := HE.out.lt
  obtain ⟨RB, hRB⟩ : ∃ r, joinAB A Y = r := ⟨_, rfl⟩
  obtain ⟨RE, hRE⟩ : ∃ r, joinAE A Y = r := ⟨_, rfl⟩
  obtain ⟨RF, hRF⟩ : ∃ r, joinAF A Y = r := ⟨_, rfl⟩
  rw [hRB, hRE, hRF]
  have HR := Kept.mk (And.intro hRB (And.intro hRE hRF))
  clear h hyp hym hb0 hRB hRE hRF
  have k0 := HC.out.st.cells.2 0 _ rfl
  have k1 := HC.out.st.cells.2 1 _ rfl
  have k2 := HC.out.st.cells.2 2 _ rfl
  have XA := Kept.mk HC.out.ar
  go_enter Tryz.func49, Tryz.ntmps49
  go_wp2_with fail
  generalize (w.alloc (.cells #[.string ⟨Y.key.toArray⟩, .int .i64 Y.val.kind, .int .i64 Y.val.time, .int .i64 Y.val.node, .bool Y.val.dead, .string ⟨Y.val.text.toArray⟩, yp, ym, .int .u64 (Y.val.flags.toNat : Int)] 30)) = W0 at *
  refine (acheck_any A _ _ XA.out hF).mono ?_
  rintro e W1 ⟨rfl, hb⟩
  have hN1 := hb.size
  replace HC := Kept.mk (HC.out.keep hb)
  replace HE := Kept.mk (HE.out.keep hb)
  replace RY := Kept.mk (And.intro (stable_cells _ _ _ _ RY.out.1 hb) (stable_cells _ _ _ _ RY.out.2 hb))
  replace hB := Kept.mk (hB.out.trans (hb.mono (by omega)))
  clear hb k0 k1 k2 XA
  cases hok : okA A with
  | false =>
    rw [chk_A0 hok]
    obtain ⟨j1, j2, j3⟩ := join_no (A := A) (Y := Y) (by rw [hok]; rfl)
    obtain ⟨r1, r2, r3⟩ := HR.out
    have HP := Kept.mk (show JPost B g RF W1 from ⟨_, _, _, by rw [← r3, j3]; exact HC.out⟩)
    have HQ := Kept.mk (And.intro (r1.symm.trans j2) (r2.symm.trans j1))
    clear j1 j2 j3 r1 r2 r3 HR
    go_wp2
    go_ret2
    exact ⟨by rw [HQ.out.1, HQ.out.2]; rfl, HP.out, hB.out.mono hBw⟩
  | true =>
    rw [chk_A1 hok]
    have HO := Kept.mk hok
    clear hok
    have ke0 := HE.out.cells.2 0 _ rfl
    have ke1 := HE.out.cells.2 1 _ rfl
    have ke2 := HE.out.cells.2 2 _ rfl
    have ke3 := HE.out.cells.2 3 _ rfl
    have ke4 := HE.out.cells.2 4 _ rfl
    have ke5 := HE.out.cells.2 5 _ rfl
    have ke6 := HE.out.cells.2 6 _ rfl
    have ke7 := HE.out.cells.2 7 _ rfl
    have ke8 := HE.out.cells.2 8 _ rfl
    have XE := Kept.mk (show isEn Y (.agg #[.string ⟨Y.key.toArray⟩, .int .i64 Y.val.kind, .int .i64 Y.val.time, .int .i64 Y.val.node, .bool Y.val.dead, .string ⟨Y.val.text.toArray⟩, yp, ym, .int .u64 (Y.val.flags.toNat : Int)]) W1 from ⟨yp, ym, rfl, RY.out.1, RY.out.2⟩)
    go_wp2_with fail
    refine (echeck_any Y _ _ XE.out hY).mono ?_
    rintro e W2 ⟨rfl, hb⟩
    have hN2 := hb.size
    replace HC := Kept.mk (HC.out.keep hb)
    replace HE := Kept.mk (HE.out.keep hb)
    replace RY := Kept.mk (And.intro (stable_cells _ _ _ _ RY.out.1 hb) (stable_cells _ _ _ _ RY.out.2 hb))
    replace hB := Kept.mk (hB.out.trans (hb.mono (by omega)))
    clear hb XE ke0 ke1 ke2 ke3 ke4 ke5 ke6 ke7 ke8
    cases hoe : okE Y with
    | false =>
      rw [chk_no hoe]
      obtain ⟨j1, j2, j3⟩ := join_no (A := A) (Y := Y) (by rw [hoe, Bool.and_false])
      obtain ⟨r1, r2, r3⟩ := HR.out
      have HP := Kept.mk (show JPost B g RF W2 from ⟨_, _, _, by rw [← r3, j3]; exact HC.out⟩)
      have HQ := Kept.mk (And.intro (r1.symm.trans j2) (r2.symm.trans j1))
      clear j1 j2 j3 r1 r2 r3 HR
      go_wp2
      go_ret2
      exact ⟨by rw [HQ.out.1, HQ.out.2]; rfl, HP.out, hB.out.mono hBw⟩
    | true =>
      rw [chk_ok hoe]
      have HOE := Kept.mk hoe
      clear hoe
      have OKA := Kept.mk (okA_iff.1 HO.out)
      obtain ⟨P, hP⟩ : ∃ P, posN (ordA A) Y = P := ⟨_, rfl⟩
      obtain ⟨Z, hZ⟩ : ∃ Z, hitB (ordA A) Y = Z := ⟨_, rfl⟩
      have HPZ := Kept.mk (And.intro hP hZ)
      clear hP hZ
      go_wp2_with fail
      refine jn3_region _ _ _ rfl A g w.heap.size P Z Y _ _ yp ym rfl rfl HC.out.st HE.out OKA.out HC.out.ar RY.out.1 RY.out.2 HPZ.out.1 HPZ.out.2 ?_
      intro f9 W3 d6 d7 hb9
      simp only [List.foldl_cons, List.foldl_nil, d6, d7]
      generalize f9 20 = y20
      generalize f9 21 = y21
      generalize f9 22 = y22
      generalize f9 23 = y23
      generalize f9 24 = y24
      generalize f9 25 = y25
      generalize f9 19 = y19
      generalize f9 26 = y26
      generalize f9 27 = y27
      clear d6 d7
      simp only [List.setIfInBounds_toArray, List.set_cons_succ, List.set_cons_zero]
      have hN3 := hb9.size
      replace HC := Kept.mk (HC.out.keep hb9)
      replace HE := Kept.mk (HE.out.keep hb9)
      replace RY := Kept.mk (And.intro (stable_cells _ _ _ _ RY.out.1 hb9) (stable_cells _ _ _ _ RY.out.2 hb9))
      replace hB := Kept.mk (hB.out.trans (hb9.mono (by omega)))
      clear hb9
      cases Z with
      | true =>
        obtain ⟨pr, pi, _, pn⟩ := place_spec OKA.out HPZ.out.2
        rw [HPZ.out.1] at pi
        obtain ⟨q, hq⟩ : ∃ q : Nat, placeI A Y = (q : Int) := ⟨(placeI A Y).toNat, by omega⟩
        rw [hq] at pr pi pn
        obtain ⟨X, hX⟩ : ∃ X, A.slots[q]? = some X := ⟨_, List.getElem?_eq_getElem (by omega)⟩
        rw [slotAt_some hX] at pn
        have hoX := OKA.out.ents X (List.mem_of_getElem? hX)
        have hjj : joinEE X Y = 0 := by unfold joinEE; rw [hoX, HOE.out, pn]; rfl
        obtain ⟨J, hJ⟩ : ∃ J, joinEF X Y = J := ⟨_, rfl⟩
        obtain ⟨j1, j2, j3⟩ := join_hit HO.out HOE.out HPZ.out.2
        rw [hq, slotAt_some hX, hJ] at j2
        have j4 : meetL A Y = A.slots.set q J := by unfold meetL; rw [hq, slotAt_some hX, hJ]; rfl
        obtain ⟨bi, oi, ci, hvi, hbi, hci⟩ := cells_get HC.out.ints (by intro e; rw [e] at pi; simp at pi)
        have hPn : P < A.index.length := (List.getElem?_eq_some_iff.1 pi).1
        have kq := hci P _ pi
        have KH := Kept.mk (And.intro hX (And.intro hjj (And.intro hJ (And.intro kq (ok_fit' hoX)))))
        obtain ⟨r1, r2, r3⟩ := HR.out
        have HQ := Kept.mk (And.intro (r1.symm.trans j2) (And.intro (r2.symm.trans j1) (r3.symm.trans (by rw [j3, j4]))))
        subst hvi
        clear hX hjj hJ kq hci pr pi pn hoX j1 j2 j3 j4 r1 r2 r3 HR hq
        go_wp2_with fail
        refine jn5_region _ _ _ rfl A g w.heap.size P q bi oi ci A.index.length Y _ yp ym rfl rfl rfl HC.out.st HE.out hPn KH.out.2.2.2.1 hbi ?_
        intro y W4 hb4
        have hN4 := hb4.size
        refine (meet_any B g q A X Y J _ _ _ _ W4 KH.out.2.2.1 (HC.out.keep hb4) KH.out.1 (en_mk RY.out.1 RY.out.2 hb4) KH.out.2.2.2.2 hY KH.out.2.1 (by omega)).mono ?_
        rintro e W5 ⟨ps', rfl, hch, hb5⟩
        have HP := Kept.mk (show JPost B g RF W5 from ⟨_, _, _, by rw [HQ.out.2.2]; exact hch⟩)
        have B5 := Kept.mk (((hB.out.trans (hb4.mono (by omega))).mono hBw).trans hb5)
        clear hch hb5 hb4
        refine ⟨_, rfl, ?_⟩
        simp only [List.foldl_cons, List.foldl_nil]
        generalize y 29 = z29
        generalize y 30 = z30
        generalize y 31 = z31
        generalize y 32 = z32
        generalize y 33 = z33
        generalize y 34 = z34
        generalize y 35 = z35
        generalize y 36 = z36
        generalize y 37 = z37
        generalize y 38 = z38
        generalize y 39 = z39
        generalize y 4 = z4
        generalize y 5 = z5
        simp only [List.setIfInBounds_toArray, List.set_cons_succ, List.set_cons_zero]
        have HQ1 := Kept.mk HQ.out.1
        have HQ2 := Kept.mk HQ.out.2.1
        generalize decide (X = J) = dz at *
        go_wp2
        go_ret2
        exact ⟨by rw [HQ1.out, HQ2.out]; rfl, HP.out, B5.out⟩
      | false =>
        obtain ⟨sa, cs, hvs⟩ := HC.out.ens.len
        subst hvs
        obtain ⟨r1, r2, r3⟩ := HR.out
        have f1 := hF.slots
        have D := (Below.refl W3.heap.size W3).drew
        have hPl : P ≤ A.index.length := by
          have := pos_le (ordA A) Y
          rw [HPZ.out.1] at this
          unfold ordA at this
          rwa [List.length_map] at this
        have f2 := hF.index
        have hix : A.index.length ≤ 100 := by have := OKA.out.len; have := OKA.out.fits; have := OKA.out.room; omega
        by_cases hfull : (A.slots.length : Int) = A.cap
        · obtain ⟨j1, j2, j3⟩ := join_full HO.out HOE.out HPZ.out.2 hfull
          have k0 := HC.out.st.cells.2 0 _ rfl
          have k1 := HC.out.st.cells.2 1 _ rfl
          rw [← hfull] at k0
          have hd : ((A.slots.length : Int) == (A.slots.length : Int)) = true := by simp
          have HP := Kept.mk (show JPost B g RF W3.drew from ⟨_, _, _, by rw [← r3, j3]; exact HC.out.keep D⟩)
          have B5 := Kept.mk ((hB.out.mono hBw).trans (D.mono (by omega)))
          have HQ := Kept.mk (And.intro (r1.symm.trans j2) (r2.symm.trans j1))
          clear j1 j2 j3 r1 r2 r3 HR D hfull
          go_wp2_with fail
          go_region
          all_goals go_wp2
          all_goals go_ret2
          all_goals exact ⟨by rw [HQ.out.1, HQ.out.2]; rfl, HP.out, B5.out⟩
        · obtain ⟨j1, j2, j3⟩ := join_new HO.out HOE.out HPZ.out.2 hfull
          have k0 := HC.out.st.cells.2 0 _ rfl
          have k1 := HC.out.st.cells.2 1 _ rfl
          have hd : ((A.slots.length : Int) == A.cap) = false := by simpa using hfull
          have j4 : putIdx A Y = insL A.index P (A.slots.length : Int) := by unfold putIdx insL; rw [HPZ.out.1]
          have HQ := Kept.mk (And.intro (r1.symm.trans j2) (And.intro (r2.symm.trans j1) (r3.symm.trans (by rw [j3, j4]))))
          have HC4 := Kept.mk (HC.out.keep D)
          have HE4 := Kept.mk (HE.out.keep D)
          have RY4 := Kept.mk (And.intro (stable_cells _ _ _ _ RY.out.1 D) (stable_cells _ _ _ _ RY.out.2 D))
          have B4 := Kept.mk (hB.out.trans (D.mono (by omega)))
          have hN4 : W3.heap.size ≤ W3.drew.heap.size := D.size
          clear j1 j2 j3 j4 r1 r2 r3 HR D hfull HC HE RY hB
          go_wp2_with fail
          go_region
          all_goals go_wp2_with fail
          generalize W3.drew = W4 at *
          clear k0 k1
          refine jn8_region _ _ _ rfl A B g P A.slots.length cs sa vi rfl rfl HC4.out.st HC4.out.idx (by omega) hPl hix HC4.out.n2 ?_
          intro y v' W5 h1 h2 h3
          obtain ⟨hch, bt⟩ := HC4.out.idxput (insL A.index P (A.slots.length : Int)) v' (by rw [insL_length _ _ _ hPl]; exact h1) h2 h3
          simp only [List.foldl_cons, List.foldl_nil]
          generalize y 52 = z52
          generalize y 53 = z53
          generalize y 54 = z54
          generalize y 55 = z55
          generalize y 56 = z56
          generalize y 57 = z57
          generalize y 58 = z58
          generalize y 59 = z59
          generalize y 60 = z60
          generalize y 61 = z61
          generalize y 62 = z62
          generalize y 63 = z63
          generalize y 64 = z64
          generalize y 65 = z65
          generalize y 66 = z66
          generalize y 67 = z67
          generalize y 68 = z68
          generalize y 69 = z69
          simp only [List.setIfInBounds_toArray, List.set_cons_succ, List.set_cons_zero]
          generalize W5.setCell ⟨g, 2, none⟩ v' = W6 at *
          have hN6 := bt.size
          have hE6 := bt.blk HE4.out (show ¬ (w.heap.size = g ∨ vi.ownBlock = some w.heap.size) by rintro (e | e); (· omega); (· have := (hvi0 _ e).2; omega))
          have yoff : ∀ b, B ≤ b → (Y.val.plus.map intC = [] ∨ blk yp ≠ some b) ∧ (Y.val.minus.map intC = [] ∨ blk ym ≠ some b) := fun b hb => ⟨OY.out.1.imp id (fun h e => by have := h b e; omega), OY.out.2.imp id (fun h e => by have := h b e; omega)⟩
          have lowS : ∀ b, (b = g ∨ vi.ownBlock = some b) → B ≤ b := fun b hb => by rcases hb with rfl | hb; (· exact hlo); (· exact (hvi0 b hb).1)
          have ry6 : isCells (Y.val.plus.map intC) yp W6 := bt.cells RY4.out.1 (OY.out.1.imp id (fun h b hb hS => by have := h b hb; have := lowS b hS; omega))
          have rm6 : isCells (Y.val.minus.map intC) ym W6 := bt.cells RY4.out.2 (OY.out.2.imp id (fun h b hb hS => by have := h b hb; have := lowS b hS; omega))
          have hps : ps.length ≤ 1000 := by rw [hch.len]; exact f1
          have K6 := Kept.mk (And.intro hch (And.intro hE6 (And.intro ry6 rm6)))
          have B6 := Kept.mk ((B4.out.mono hBw).trans (bt.below lowS (by omega)))
          clear h1 h2 h3 hch bt hE6 ry6 rm6 lowS
          go_wp2_with fail
          refine jnapp_region _ _ _ rfl g w.heap.size B ps.length _ Y _ yp ym (flatE ps) rfl rfl K6.out.1.st rfl K6.out.2.1 K6.out.2.2.1 K6.out.2.2.2 hY K6.out.1.own hps (by omega) (fun s hs => ⟨fun e => K6.out.1.n1 (by rw [hs, e]), by have := (hvs0 s hs).2; omega, yoff s (hvs0 s hs).1⟩) ?_
          intro y v vp vm W7 h1 h2 h3 h4 h5 h6 h7 h8 h9
          have hch7 := K6.out.1.push Y v vp vm h1 h2 h3 h4 h5 h6 h7 h8 h9
          have HP := Kept.mk (show JPost B g RF W7 from ⟨_, _, _, by rw [HQ.out.2.2]; exact hch7⟩)
          have B7 := Kept.mk (B6.out.trans (h9.below (fun b hb => by rcases hb with rfl | hb; (· exact hlo); (· exact (hvs0 b hb).1)) (by omega)))
          clear h1 h2 h3 h4 h5 h6 h7 h8 h9 hch7 K6
          simp only [List.foldl_cons, List.foldl_nil]
          generalize y 70 = x70
          generalize y 71 = x71
          generalize y 72 = x72
          generalize y 73 = x73
          generalize y 74 = x74
          generalize y 75 = x75
          generalize y 76 = x76
          generalize y 77 = x77
          generalize y 78 = x78
          generalize y 79 = x79
          generalize y 80 = x80
          generalize y 81 = x81
          generalize y 82 = x82
          simp only [List.setIfInBounds_toArray, List.set_cons_succ, List.set_cons_zero]
          go_wp2
          go_ret2
          exact ⟨by rw [HQ.out.1, HQ.out.2.1]; rfl, HP.out, B7.out⟩
end Go.Proofs.YtbgconagkgfplaaGreat
end
section
namespace Go.Proofs.YtbgconagkgfplaaGreat
open Go.RowKit
set_option linter.unusedVariables false
set_option linter.unusedSimpArgs false
attribute [local irreducible] setN

theorem resultsN3 {P : Program} {fn : Func} {p u1 u2 : Tmp} {t : TypeId} (h : fn.results = #[.cell p t, .tmp u1, .tmp u2]) (tmps : Array Value) (w : World) (g : Nat) (l : List Value) (x1 x2 : Value) (hs : (P.info? t).map (·.size) = some l.length) (ha : ∀ w, (isAgg t).run P w = .ok true w) (hp : tmps.getD p undef = .pointer (some ⟨g, 0, none⟩)) (h1 : tmps.getD u1 undef = x1) (h2 : tmps.getD u2 undef = x2) (hc : CellsN w g l) :
    (results fn tmps).run P w = .ok (.tuple #[.agg l.toArray, x1, x2]) w := by
  have hp' : tmps[p]?.getD undef = .pointer (some ⟨g, 0, none⟩) := by simpa using hp
  have h1' : tmps[u1]?.getD undef = x1 := by simpa using h1
  have h2' : tmps[u2]?.getD undef = x2 := by simpa using h2
  simp [results, h, hp', h1', h2', asAddr, loadN t g w l hs ha hc]
theorem Blk.keepB {B : Nat} {W W' : World} {b : Nat} {cs : List Value} (h : Blk W b cs) (k : Below B W W') (hb : b < B) : Blk W' b cs := ⟨h.cells.keep k hb, h.free.keep k hb⟩
def newAE (n : Int) : Int := if roomB n = true then 0 else 1
def newAF (n : Int) : Ar := if roomB n = true then ⟨n, [], []⟩ else zeroA
set_option maxRecDepth 100000 in
set_option maxHeartbeats 2000000 in
theorem anew_any (n : Int) (w : World) : Calls Tryz.prog 41 #[.int .i64 n] w fun e w' => ∃ v', e = .returned (.tuple #[v', .int .i64 (newAE n)]) ∧ isAr (newAF n) v' w' ∧ Below w.heap.size w w' := by
  have HR := Kept.mk (Blk.new w 25 [.int .i64 0, .slice none 0 0, .slice none 0 0] w.heap.size rfl)
  have hB := Kept.mk (lit_below w (.cells #[.int .i64 0, .slice none 0 0, .slice none 0 0] 25))
  go_enter Tryz.func41, Tryz.ntmps41
  go_wp2_with fail
  generalize (w.alloc (.cells #[.int .i64 0, .slice none 0 0, .slice none 0 0] 25)) = W0 at *
  refine (room_any n _).mono ?_
  rintro e W1 ⟨rfl, hb⟩
  replace HR := Kept.mk (HR.out.keep hb)
  replace hB := Kept.mk (hB.out.trans (hb.mono hB.out.size))
  clear hb
  cases hr : roomB n with
  | true =>
    have e1 : newAE n = 0 := by unfold newAE; rw [hr]; rfl
    have e2 : newAF n = ⟨n, [], []⟩ := by unfold newAF; rw [hr]; rfl
    have HO : Kept (Ones [.int .i64 n, .slice none 0 0, .slice none 0 0]) := ⟨⟨rfl, rfl, rfl, trivial⟩⟩
    go_wp2_with (have hz0 := HO; refine wpList_storeN 25 rfl (.tmp 2) (.tmp 9) rfl w.heap.size [.int .i64 n, .slice none 0 0, .slice none 0 0] size_ar rfl rfl HR.out.cells rfl HR.out.free HO.out ?_; clear hz0 HO)
    rw [e1, e2]
    exact bodyPost_ret (resultsN2 rfl _ _ w.heap.size [.int .i64 n, .slice none 0 0, .slice none 0 0] (.int .i64 0) size_ar agg_ar rfl rfl (HR.out.all_ (l := [.int .i64 n, .slice none 0 0, .slice none 0 0]) rfl).cells) rfl ⟨_, rfl, ⟨.slice none 0 0, .slice none 0 0, rfl, .inl ⟨rfl, rfl⟩, .inl ⟨rfl, rfl⟩⟩, below_setN (Nat.le_refl _) _ 0 _ hB.out⟩
  | false =>
    have e1 : newAE n = 1 := by unfold newAE; rw [hr]; rfl
    have e2 : newAF n = zeroA := by unfold newAF; rw [hr]; rfl
    have HO : Kept (Ones [.int .i64 0, .slice none 0 0, .slice none 0 0]) := ⟨⟨rfl, rfl, rfl, trivial⟩⟩
    go_wp2_with (have hz0 := HO; refine wpList_storeN 25 rfl (.tmp 2) (.tmp 7) rfl w.heap.size [.int .i64 0, .slice none 0 0, .slice none 0 0] size_ar rfl rfl HR.out.cells rfl HR.out.free HO.out ?_; clear hz0 HO)
    rw [e1, e2]
    exact bodyPost_ret (resultsN2 rfl _ _ w.heap.size [.int .i64 0, .slice none 0 0, .slice none 0 0] (.int .i64 1) size_ar agg_ar rfl rfl (HR.out.all_ rfl).cells) rfl ⟨_, rfl, ⟨.slice none 0 0, .slice none 0 0, rfl, .inl ⟨rfl, rfl⟩, .inl ⟨rfl, rfl⟩⟩, below_setN (Nat.le_refl _) _ 0 _ hB.out⟩
set_option maxRecDepth 100000 in
set_option maxHeartbeats 2000000 in
theorem ajoin_any (A : Ar) (Y : En) (v u : Value) (w : World) (hv : isAr A v w) (hu : isEn Y u w) (hF : FitA A) (hY : FitE Y) : Calls Tryz.prog 14 #[v, u] w fun e w' => ∃ v', e = .returned (.tuple #[v', .bool (joinAB A Y), .int .i64 (joinAE A Y)]) ∧ isAr (joinAF A Y) v' w' ∧ Below w.heap.size w w' := by
  obtain ⟨vs, vi, rfl, hs, hi⟩ := hv
  obtain ⟨yp, ym, rfl, hyp, hym⟩ := hu
  have hb0 : Below w.heap.size w (((w.alloc (.cells #[.int .i64 A.cap, vs, vi] 25)).alloc (.cells #[.string ⟨Y.key.toArray⟩, .int .i64 Y.val.kind, .int .i64 Y.val.time, .int .i64 Y.val.node, .bool Y.val.dead, .string ⟨Y.val.text.toArray⟩, yp, ym, .int .u64 (Y.val.flags.toNat : Int)] 30)).alloc (.cells #[.int .i64 0, .slice none 0 0, .slice none 0 0] 25)) := (((Below.refl _ w).alloc (Nat.le_refl _) _).alloc (by simp) _).alloc (by simp; omega) _
  have hsz : (((w.alloc (.cells #[.int .i64 A.cap, vs, vi] 25)).alloc (.cells #[.string ⟨Y.key.toArray⟩, .int .i64 Y.val.kind, .int .i64 Y.val.time, .int .i64 Y.val.node, .bool Y.val.dead, .string ⟨Y.val.text.toArray⟩, yp, ym, .int .u64 (Y.val.flags.toNat : Int)] 30)).alloc (.cells #[.int .i64 0, .slice none 0 0, .slice none 0 0] 25)).heap.size = w.heap.size + 3 := by simp
  have HA := Kept.mk (show isAr A (.agg #[.int .i64 A.cap, vs, vi]) (((w.alloc (.cells #[.int .i64 A.cap, vs, vi] 25)).alloc (.cells #[.string ⟨Y.key.toArray⟩, .int .i64 Y.val.kind, .int .i64 Y.val.time, .int .i64 Y.val.node, .bool Y.val.dead, .string ⟨Y.val.text.toArray⟩, yp, ym, .int .u64 (Y.val.flags.toNat : Int)] 30)).alloc (.cells #[.int .i64 0, .slice none 0 0, .slice none 0 0] 25)) from stable_ar A _ _ _ ⟨vs, vi, rfl, hs, hi⟩ hb0)
  have HY := Kept.mk (show isEn Y (.agg #[.string ⟨Y.key.toArray⟩, .int .i64 Y.val.kind, .int .i64 Y.val.time, .int .i64 Y.val.node, .bool Y.val.dead, .string ⟨Y.val.text.toArray⟩, yp, ym, .int .u64 (Y.val.flags.toNat : Int)]) w from ⟨yp, ym, rfl, hyp, hym⟩)
  have BA := (((Blk.new w 25 [.int .i64 A.cap, vs, vi] w.heap.size rfl).alloc (.cells #[.string ⟨Y.key.toArray⟩, .int .i64 Y.val.kind, .int .i64 Y.val.time, .int .i64 Y.val.node, .bool Y.val.dead, .string ⟨Y.val.text.toArray⟩, yp, ym, .int .u64 (Y.val.flags.toNat : Int)] 30)).alloc (.cells #[.int .i64 0, .slice none 0 0, .slice none 0 0] 25))
  have BY := Kept.mk ((Blk.new (w.alloc (.cells #[.int .i64 A.cap, vs, vi] 25)) 30 [.string ⟨Y.key.toArray⟩, .int .i64 Y.val.kind, .int .i64 Y.val.time, .int .i64 Y.val.node, .bool Y.val.dead, .string ⟨Y.val.text.toArray⟩, yp, ym, .int .u64 (Y.val.flags.toNat : Int)] (w.heap.size + 1) (by simp)).alloc (.cells #[.int .i64 0, .slice none 0 0, .slice none 0 0] 25))
  have BR := Kept.mk (Blk.new ((w.alloc (.cells #[.int .i64 A.cap, vs, vi] 25)).alloc (.cells #[.string ⟨Y.key.toArray⟩, .int .i64 Y.val.kind, .int .i64 Y.val.time, .int .i64 Y.val.node, .bool Y.val.dead, .string ⟨Y.val.text.toArray⟩, yp, ym, .int .u64 (Y.val.flags.toNat : Int)] 30)) 25 [.int .i64 0, .slice none 0 0, .slice none 0 0] (w.heap.size + 1 + 1) (by simp))
  have ka0 := BA.cells.2 0 _ rfl
  have ka1 := BA.cells.2 1 _ rfl
  have ka2 := BA.cells.2 2 _ rfl
  have hB := Kept.mk hb0
  clear hs hi hyp hym BA hb0
  go_enter Tryz.func14, Tryz.ntmps14
  go_wp2_with fail
  generalize (((w.alloc (.cells #[.int .i64 A.cap, vs, vi] 25)).alloc (.cells #[.string ⟨Y.key.toArray⟩, .int .i64 Y.val.kind, .int .i64 Y.val.time, .int .i64 Y.val.node, .bool Y.val.dead, .string ⟨Y.val.text.toArray⟩, yp, ym, .int .u64 (Y.val.flags.toNat : Int)] 30)).alloc (.cells #[.int .i64 0, .slice none 0 0, .slice none 0 0] 25)) = W0 at *
  refine (change_any A _ _ HA.out hF).mono ?_
  rintro e W1 ⟨c, vs', vi', ps, rfl, hch, hb⟩
  have hN := hb.size
  have HC := Kept.mk hch
  replace BY := Kept.mk (BY.out.keep hb)
  replace BR := Kept.mk (BR.out.keep hb)
  replace hB := Kept.mk (hB.out.trans (hb.mono (by omega)))
  have ky0 := BY.out.cells.2 0 _ rfl
  have ky1 := BY.out.cells.2 1 _ rfl
  have ky2 := BY.out.cells.2 2 _ rfl
  have ky3 := BY.out.cells.2 3 _ rfl
  have ky4 := BY.out.cells.2 4 _ rfl
  have ky5 := BY.out.cells.2 5 _ rfl
  have ky6 := BY.out.cells.2 6 _ rfl
  have ky7 := BY.out.cells.2 7 _ rfl
  have ky8 := BY.out.cells.2 8 _ rfl
  have XY := Kept.mk (enO_of HY.out hB.out W0.heap.size (by omega))
  clear ka0 ka1 ka2 hb hch HA
  go_wp2_with fail
  refine (cjoin_any W0.heap.size c A Y _ _ _ _ W1 HC.out XY.out hF hY hN).mono ?_
  rintro e W2 ⟨rfl, ⟨vs2, vi2, ps2, hch2⟩, hb⟩
  have HC2 := Kept.mk hch2
  have BR2 := Kept.mk (BR.out.keepB hb (by omega))
  have hB2 := Kept.mk (hB.out.trans (hb.mono (by omega)))
  have k0 := HC2.out.st.cells.2 0 _ rfl
  have k1 := HC2.out.st.cells.2 1 _ rfl
  have k2 := HC2.out.st.cells.2 2 _ rfl
  clear hch2 hb BR hB HC BY XY ky0 ky1 ky2 ky3 ky4 ky5 ky6 ky7 ky8
  have HO : Kept (Ones [.int .i64 (joinAF A Y).cap, vs2, vi2]) := ⟨⟨rfl, (own_one HC2.out.own).2, (own_one HC2.out.idx).2, trivial⟩⟩
  go_wp2_with (have hz0 := HO; refine wpList_storeN 25 rfl (.tmp 4) (.tmp 21) rfl (w.heap.size + 1 + 1) [.int .i64 (joinAF A Y).cap, vs2, vi2] size_ar rfl rfl BR2.out.cells rfl BR2.out.free HO.out ?_; clear hz0 HO)
  exact bodyPost_ret (resultsN3 rfl _ _ (w.heap.size + 1 + 1) [.int .i64 (joinAF A Y).cap, vs2, vi2] (.bool (joinAB A Y)) (.int .i64 (joinAE A Y)) size_ar agg_ar rfl rfl rfl (BR2.out.all_ (l := [.int .i64 (joinAF A Y).cap, vs2, vi2]) rfl).cells) rfl ⟨_, rfl, HC2.out.ar_set (by omega) 0 _, below_setN (by omega) _ 0 _ hB2.out⟩
end Go.Proofs.YtbgconagkgfplaaGreat
end
section
namespace Go.Proofs.YtbgconagkgfplaaGreat
open Go.RowKit
set_option linter.unusedVariables false
set_option linter.unusedSimpArgs false
attribute [local irreducible] setN

theorem mergeF_snoc : ∀ (l : List En) (A : Ar) (x : En), mergeF A (l ++ [x]) = joinAF (mergeF A l) x
  | [], A, x => rfl
  | y :: r, A, x => by rw [List.cons_append, mergeF, mergeF, mergeF_snoc r]
theorem mergeN_snoc : ∀ (l : List En) (A : Ar) (x : En), mergeN A (l ++ [x]) = mergeN A l + (if joinAB (mergeF A l) x = true then 1 else 0)
  | [], A, x => Nat.add_comm _ _
  | y :: r, A, x => by rw [List.cons_append, mergeN, mergeN, mergeN_snoc r, mergeF]; omega
theorem mergeO_snoc : ∀ (l : List En) (A : Ar) (x : En), mergeO A (l ++ [x]) = mergeO A l + (if joinAE (mergeF A l) x = 0 then 0 else 1)
  | [], A, x => Nat.add_comm _ _
  | y :: r, A, x => by rw [List.cons_append, mergeO, mergeO, mergeO_snoc r, mergeF]; omega
theorem mergeN_le : ∀ (l : List En) (A : Ar), mergeN A l ≤ l.length
  | [], A => Nat.le_refl _
  | y :: r, A => by rw [mergeN, List.length_cons]; have := mergeN_le r (joinAF A y); split <;> omega
theorem mergeO_le : ∀ (l : List En) (A : Ar), mergeO A l ≤ l.length
  | [], A => Nat.le_refl _
  | y :: r, A => by rw [mergeO, List.length_cons]; have := mergeO_le r (joinAF A y); split <;> omega
theorem fitA_join {A : Ar} {x : En} (hF : FitA A) (hx : FitE x) : FitA (joinAF A x) := by
  cases h1 : (okA A && okE x) with
  | false => rw [(join_no h1).2.2]; exact hF
  | true =>
    rw [Bool.and_eq_true] at h1
    have ok := okA_iff.1 h1.1
    have h8 : A.slots.length ≤ 8 := by have := ok.fits; have := ok.room; omega
    cases h2 : hitB (ordA A) x with
    | true =>
      rw [(join_hit h1.1 h1.2 h2).2.2]
      obtain ⟨pr, _, _, pn⟩ := place_spec ok h2
      refine ⟨by unfold meetL; rw [List.length_set]; exact hF.slots, hF.index, fun e he => ?_⟩
      rcases List.mem_or_eq_of_mem_set he with he | rfl
      · exact hF.ents e he
      · refine ok_fit' (joinEF_ok ?_)
        unfold joinEE
        rw [ok.ents _ (slotAt_mem pr), h1.2, pn]; rfl
    | false =>
      by_cases h3 : (A.slots.length : Int) = A.cap
      · rw [(join_full h1.1 h1.2 h2 h3).2.2]; exact hF
      · rw [(join_new h1.1 h1.2 h2 h3).2.2]
        refine ⟨by rw [List.length_append]; simp; omega, ?_, fun e he => ?_⟩
        · have := ok.len
          unfold putIdx; simp; omega
        · rcases List.mem_append.1 he with he | he
          · exact hF.ents e he
          · rw [List.mem_singleton] at he; rw [he]; exact hx
theorem fit_merge : ∀ (l : List En) (A : Ar), FitA A → (∀ e ∈ l, FitE e) → FitA (mergeF A l)
  | [], A, h, _ => h
  | x :: r, A, h, hl => fit_merge r _ (fitA_join h (hl x (by simp))) (fun e he => hl e (by simp [he]))
set_option maxRecDepth 100000 in
set_option maxHeartbeats 2000000 in
theorem amerge_any (A : Ar) (L : List En) (v u : Value) (w : World) (hv : isAr A v w) (hu : isEns L u w) (hF : FitA A) (hL : ∀ e ∈ L, FitE e) (hLn : L.length ≤ 500) : Calls Tryz.prog 16 #[v, u] w fun e w' => ∃ v', e = .returned (.tuple #[v', .int .i64 (mergeN A L : Int), .int .i64 (mergeO A L : Int)]) ∧ isAr (mergeF A L) v' w' ∧ Below w.heap.size w w' := by
  obtain ⟨vs, vi, rfl, hs, hi⟩ := hv
  have hb0 : Below w.heap.size w ((w.alloc (.cells #[.int .i64 A.cap, vs, vi] 25)).alloc (.cells #[.int .i64 0, .slice none 0 0, .slice none 0 0] 25)) := ((Below.refl _ w).alloc (Nat.le_refl _) _).alloc (by simp) _
  have hsz : ((w.alloc (.cells #[.int .i64 A.cap, vs, vi] 25)).alloc (.cells #[.int .i64 0, .slice none 0 0, .slice none 0 0] 25)).heap.size = w.heap.size + 2 := by simp
  have HA := Kept.mk (show isAr A (.agg #[.int .i64 A.cap, vs, vi]) ((w.alloc (.cells #[.int .i64 A.cap, vs, vi] 25)).alloc (.cells #[.int .i64 0, .slice none 0 0, .slice none 0 0] 25)) from stable_ar A _ _ _ ⟨vs, vi, rfl, hs, hi⟩ hb0)
  have HU := Kept.mk hu
  obtain ⟨ua, uc, rfl⟩ := hu.len
  have BA := ((Blk.new w 25 [.int .i64 A.cap, vs, vi] w.heap.size rfl).alloc (.cells #[.int .i64 0, .slice none 0 0, .slice none 0 0] 25))
  have BR := Kept.mk (Blk.new (w.alloc (.cells #[.int .i64 A.cap, vs, vi] 25)) 25 [.int .i64 0, .slice none 0 0, .slice none 0 0] (w.heap.size + 1) (by simp))
  have ka0 := BA.cells.2 0 _ rfl
  have ka1 := BA.cells.2 1 _ rfl
  have ka2 := BA.cells.2 2 _ rfl
  have hB := Kept.mk hb0
  clear hs hi BA hb0 hu
  go_enter Tryz.func16, Tryz.ntmps16
  go_wp2_with fail
  generalize ((w.alloc (.cells #[.int .i64 A.cap, vs, vi] 25)).alloc (.cells #[.int .i64 0, .slice none 0 0, .slice none 0 0] 25)) = W0 at *
  refine (change_any A _ _ HA.out hF).mono ?_
  rintro e W1 ⟨c, vs', vi', ps, rfl, hch, hb⟩
  have hN := hb.size
  generalize hN0 : W0.heap.size = N0 at *
  have HC := Kept.mk (show JPost N0 c (mergeF A (L.take 0)) W1 from ⟨_, _, _, hch⟩)
  replace BR := Kept.mk (BR.out.keep (hN0 ▸ hb))
  replace hB := Kept.mk (hB.out.trans (hb.mono (by omega)))
  clear ka0 ka1 ka2 hb hch HA
  go_wp2
  go_loopw [8, 9, 18] (fun s8 s9 i wr => ∃ k : Nat, k ≤ L.length ∧ i = .int .i64 (k : Int) ∧ s8 = .int .i64 (mergeN A (L.take k) : Int) ∧ s9 = .int .i64 (mergeO A (L.take k) : Int) ∧ Kept (Below w.heap.size w wr) ∧ Kept (N0 ≤ wr.heap.size) ∧ Kept (Blk wr (w.heap.size + 1) [.int .i64 0, .slice none 0 0, .slice none 0 0]) ∧ Kept (JPost N0 c (mergeF A (L.take k)) wr)) (fun _ _ i _ => L.length - (intOf i).toNat)
  case atStart => exact ⟨0, Nat.zero_le _, rfl, rfl, rfl, hB, ⟨hN⟩, BR, HC⟩
  case round =>
    clear hB BR HC
    obtain ⟨k, hk, rfl, rfl, rfl, B, HN, BR, HC⟩ := hrel
    by_cases hlt : k < L.length
    · have hlt' : (k : Int) < (L.length : Int) := by omega
      obtain ⟨X, hX⟩ : ∃ X, L[k]? = some X := ⟨_, List.getElem?_eq_getElem hlt⟩
      obtain ⟨bs, os, cs', hvs, hbs, hat⟩ := HU.out.get hX
      injection hvs with h1 _ h2
      subst h1 h2
      obtain ⟨xp, xm, hcell, hp0, hm0⟩ := hat
      have FX := Kept.mk (hL X (List.mem_of_getElem? hX))
      have FA := Kept.mk (fit_merge (L.take k) A hF (fun e he => hL e (List.mem_of_mem_take he)))
      have hp := stable_cells _ _ _ _ hp0 B.out
      have hm := stable_cells _ _ _ _ hm0 B.out
      have hsw := B.out.size
      obtain ⟨K1, K2, K3, K4, K5⟩ := enew wr X xp xm hp hm wr.heap.size rfl
      have XO := Kept.mk (enO_of (w := w) (show isEn X (.agg #[.string ⟨X.key.toArray⟩, .int .i64 X.val.kind, .int .i64 X.val.time, .int .i64 X.val.node, .bool X.val.dead, .string ⟨X.val.text.toArray⟩, xp, xm, .int .u64 (X.val.flags.toNat : Int)]) w from ⟨xp, xm, rfl, hp0, hm0⟩) (B.out.trans (K3.out.mono hsw)) N0 (by omega))
      have kc0 : wr.cell? ⟨bs, os + k * 9, none⟩ = _ := (B.out.cell (p := ⟨bs, os + k * 9 + 0, none⟩) hbs).trans (hcell 0 _ rfl)
      have kc1 : wr.cell? ⟨bs, os + k * 9 + 1, none⟩ = _ := (B.out.cell (p := ⟨bs, os + k * 9 + 1, none⟩) hbs).trans (hcell 1 _ rfl)
      have kc2 : wr.cell? ⟨bs, os + k * 9 + 2, none⟩ = _ := (B.out.cell (p := ⟨bs, os + k * 9 + 2, none⟩) hbs).trans (hcell 2 _ rfl)
      have kc3 : wr.cell? ⟨bs, os + k * 9 + 3, none⟩ = _ := (B.out.cell (p := ⟨bs, os + k * 9 + 3, none⟩) hbs).trans (hcell 3 _ rfl)
      have kc4 : wr.cell? ⟨bs, os + k * 9 + 4, none⟩ = _ := (B.out.cell (p := ⟨bs, os + k * 9 + 4, none⟩) hbs).trans (hcell 4 _ rfl)
      have kc5 : wr.cell? ⟨bs, os + k * 9 + 5, none⟩ = _ := (B.out.cell (p := ⟨bs, os + k * 9 + 5, none⟩) hbs).trans (hcell 5 _ rfl)
      have kc6 : wr.cell? ⟨bs, os + k * 9 + 6, none⟩ = _ := (B.out.cell (p := ⟨bs, os + k * 9 + 6, none⟩) hbs).trans (hcell 6 _ rfl)
      have kc7 : wr.cell? ⟨bs, os + k * 9 + 7, none⟩ = _ := (B.out.cell (p := ⟨bs, os + k * 9 + 7, none⟩) hbs).trans (hcell 7 _ rfl)
      have kc8 : wr.cell? ⟨bs, os + k * 9 + 8, none⟩ = _ := (B.out.cell (p := ⟨bs, os + k * 9 + 8, none⟩) hbs).trans (hcell 8 _ rfl)
      have htk : L.take (k + 1) = L.take k ++ [X] := by rw [List.take_add_one, hX]; rfl
      have HT := Kept.mk htk
      clear hcell hp hm hp0 hm0 hX htk
      go_wp2_with (have hz0 := K1; refine wpList_storeN 30 rfl (.tmp 11) (.tmp 21) rfl wr.heap.size [.string ⟨X.key.toArray⟩, .int .i64 X.val.kind, .int .i64 X.val.time, .int .i64 X.val.node, .bool X.val.dead, .string ⟨X.val.text.toArray⟩, xp, xm, .int .u64 (X.val.flags.toNat : Int)] size_en rfl rfl K1.out rfl K2.out K5.out ?_; clear hz0 K1 K2 K5 kc0 kc1 kc2 kc3 kc4 kc5 kc6 kc7 kc8; have kx0 := K4.out.1.2 0 _ rfl; have kx1 := K4.out.1.2 1 _ rfl; have kx2 := K4.out.1.2 2 _ rfl; have kx3 := K4.out.1.2 3 _ rfl; have kx4 := K4.out.1.2 4 _ rfl; have kx5 := K4.out.1.2 5 _ rfl; have kx6 := K4.out.1.2 6 _ rfl; have kx7 := K4.out.1.2 7 _ rfl; have kx8 := K4.out.1.2 8 _ rfl)
      have hs2 := K3.out.size
      obtain ⟨vs2, vi2, ps2, hch⟩ := HC.out
      have hch2 := hch.keep K3.out
      have BR2 := BR.out.keep K3.out
      have B2 := B.out.trans (K3.out.mono hsw)
      have hbr := BR.out.lt
      generalize (setN (wr.alloc (.cells #[.string ⟨#[]⟩, .int .i64 0, .int .i64 0, .int .i64 0, .bool false, .string ⟨#[]⟩, .slice none 0 0, .slice none 0 0, .int .u64 0] 30)) wr.heap.size 0 [.string ⟨X.key.toArray⟩, .int .i64 X.val.kind, .int .i64 X.val.time, .int .i64 X.val.node, .bool X.val.dead, .string ⟨X.val.text.toArray⟩, xp, xm, .int .u64 (X.val.flags.toNat : Int)]) = W2 at *
      have hnw : N0 ≤ W2.heap.size := Nat.le_trans HN.out hs2
      refine (cjoin_any N0 c (mergeF A (L.take k)) X _ _ _ _ W2 hch2 XO.out FA.out FX.out hnw).mono ?_
      rintro e W3 ⟨rfl, hp3, hb3⟩
      have B3 := Kept.mk (B2.trans (hb3.mono (by omega)))
      have BR3 := Kept.mk (BR2.keepB hb3 (by omega))
      have HN3 : Kept (N0 ≤ W3.heap.size) := ⟨Nat.le_trans hnw hb3.size⟩
      have HC3 := Kept.mk (show JPost N0 c (mergeF A (L.take (k + 1))) W3 by rw [HT.out, mergeF_snoc]; exact hp3)
      have hmn := mergeN_snoc (L.take k) A X
      have hmo := mergeO_snoc (L.take k) A X
      have b1 := mergeN_le (L.take k) A
      have b2 := mergeO_le (L.take k) A
      have b3 : (L.take k).length ≤ L.length := by simp; omega
      clear hp3 hb3 hch hch2 BR2 B2 K3 K4 XO kx0 kx1 kx2 kx3 kx4 kx5 kx6 kx7 kx8
      generalize joinAE (mergeF A (L.take k)) X = RE at *
      generalize joinAB (mergeF A (L.take k)) X = RB at *
      rw [← HT.out] at hmn hmo
      have HM := Kept.mk (And.intro hmn hmo)
      clear hmn hmo
      generalize mergeN A (L.take k) = n1 at *
      generalize mergeO A (L.take k) = n2 at *
      by_cases hre : RE = 0
      · subst hre
        cases RB with
        | true =>
          go_wp2
          go_roundw
          case rel => exact ⟨k + 1, by omega, by go_num, by rw [HM.out.1]; go_num, by rw [HM.out.2]; rfl, B3, HN3, BR3, HC3⟩
          case measure => simp [intOf]; omega
        | false =>
          go_wp2
          go_roundw
          case rel => exact ⟨k + 1, by omega, by go_num, by rw [HM.out.1]; rfl, by rw [HM.out.2]; rfl, B3, HN3, BR3, HC3⟩
          case measure => simp [intOf]; omega
      · have hre2 : (RE != 0) = true := by simpa using hre
        have hre3 : (RE == 0) = false := by simpa using hre
        cases RB with
        | true =>
          go_wp2
          go_roundw
          case rel => exact ⟨k + 1, by omega, by go_num, by rw [HM.out.1]; go_num, by rw [HM.out.2, if_neg hre]; go_num, B3, HN3, BR3, HC3⟩
          case measure => simp [intOf]; omega
        | false =>
          go_wp2
          go_roundw
          case rel => exact ⟨k + 1, by omega, by go_num, by rw [HM.out.1]; rfl, by rw [HM.out.2, if_neg hre]; go_num, B3, HN3, BR3, HC3⟩
          case measure => simp [intOf]; omega
    · have hlt' : ¬ (k : Int) < (L.length : Int) := by omega
      have htk : L.take k = L := List.take_of_length_le (by omega)
      obtain ⟨vs2, vi2, ps2, hch⟩ := HC.out
      rw [htk] at hch ⊢
      have HC2 := Kept.mk hch
      have k0 := HC2.out.st.cells.2 0 _ rfl
      have k1 := HC2.out.st.cells.2 1 _ rfl
      have k2 := HC2.out.st.cells.2 2 _ rfl
      clear hch htk HC
      have HO : Kept (Ones [.int .i64 (mergeF A L).cap, vs2, vi2]) := ⟨⟨rfl, (own_one HC2.out.own).2, (own_one HC2.out.idx).2, trivial⟩⟩
      go_wp2_with (have hz0 := HO; refine wpList_storeN 25 rfl (.tmp 4) (.tmp 39) rfl (w.heap.size + 1) [.int .i64 (mergeF A L).cap, vs2, vi2] size_ar rfl rfl BR.out.cells rfl BR.out.free HO.out ?_; clear hz0 HO)
      exact bodyPost_ret (resultsN3 rfl _ _ (w.heap.size + 1) [.int .i64 (mergeF A L).cap, vs2, vi2] (.int .i64 (mergeN A L : Int)) (.int .i64 (mergeO A L : Int)) size_ar agg_ar rfl rfl rfl (BR.out.all_ (l := [.int .i64 (mergeF A L).cap, vs2, vi2]) rfl).cells) rfl ⟨_, rfl, HC2.out.ar_set (by omega) 0 _, below_setN (by omega) _ 0 _ B.out⟩
end Go.Proofs.YtbgconagkgfplaaGreat
end
section
namespace Go.Proofs.YtbgconagkgfplaaGreat
open Go.RowKit
set_option linter.unusedVariables false
set_option linter.unusedSimpArgs false
def noDefer (ops : Array Oper) : Bool := ops.toList.all fun o => match o.op with | .defer _ => false | _ => true
section
variable {P : Program} {ops : Array Oper} {Q : Exit → Act → World → Prop}
theorem noDefer_spec (h : noDefer ops = true) {i : Nat} {o : Oper} (ho : ops[i]? = some o) : ∀ c, o.op ≠ .defer c := by
  intro c e
  have := List.all_eq_true.1 h o (by rw [Array.mem_toList_iff]; exact Array.mem_of_getElem? ho)
  rw [e] at this
  cases this
theorem uponIn_of {lp nn : Nat} {o : Oper} {a : Act} {K : Act → World → Prop} {r : Result Next} (h : o.upon P a K Q r) : o.uponIn (Fence.wide.inRound lp) nn P a K Q r := by
  unfold Oper.upon at h
  split at h
  · exact h
  · exact h
  · exact h
  · exact ⟨(fun e => by cases e), CallsIn.inRound lp (callsIn_wide.2 h)⟩
  · exact ⟨(fun e => by cases e), fun c cs _ => let ⟨v, w', r, s⟩ := h c cs; ⟨v, w', r, stepsIn_wide.2 s⟩⟩
  · exact h
  · exact h.elim
theorem wpOpIn_of {lp nn : Nat} (hnd : noDefer ops = true) (hQo : ¬ LetsOut Q) {i : Nat} {K : Act → World → Prop} {a : Act} {w : World} (h : wpOp P ops Q i K a w) : wpOpIn (Fence.wide.inRound lp) nn P ops Q i K a w := by
  unfold wpOp at h
  unfold wpOpIn
  cases ho : ops[i]? with
  | none => rw [ho] at h; exact h
  | some o =>
    rw [ho] at h
    simp only at h ⊢
    split at h
    · rename_i hw
      rw [if_pos hw]
      rcases h with h | h
      · refine ⟨fun _ _ => trivial, ?_⟩
        rw [Oper.semAt_eq _ _ _ (noDefer_spec hnd ho)]
        exact uponIn_of h
      · exact absurd h.2 hQo
    · rename_i hw
      rw [if_neg hw]
      exact ⟨fun _ _ => trivial, h⟩
theorem wpAnyIn_of {lp nn : Nat} (hnd : noDefer ops = true) (hQo : ¬ LetsOut Q) : ∀ (fuel : Nat) (listed : Array Bool) (a : Act) (w : World), wpAny P .any ops Q fuel listed a w → wpAnyIn (Fence.wide.inRound lp) nn P .any ops Q fuel listed a w
  | 0, _, _, _, h => h
  | fuel + 1, listed, a, w, h => ⟨h.1, fun i hi => wpOpIn_mono (fun a w h => wpAnyIn_of hnd hQo fuel _ a w h) (wpOpIn_of hnd hQo (h.2 i hi))⟩
end
section
variable {R : World → World → Prop} {P : Program} {ops : Array Oper} {Q : Exit → Act → World → Prop}
theorem wpIn_region_one {lp nn : Nat} (hnd : noDefer ops = true) (hQo : ¬ LetsOut Q) (hR : Pre R) (s0 : Nat) (ups : List Nat) (S0 : World → Prop) (hA : ancOk ops s0 ups = true) (hS : ∀ w w', S0 w → Below w.heap.size w w' → S0 w') (hSd : ∀ w, S0 w → S0 w.drew) (k0 : Nat) {id : Nat} {a : Act} {w : World} (hm : P.follows .mixedOrders = true) (hok : flowOk ops a.tmps.size = true) (ht : tailOkC ops k0 = true)
    (h0 : S0 w) (h : OneTail R s0 ups S0 P ops w a Q k0 (ops.size - k0) k0 0 (fun _ _ _ => False)) : (Code.region id ops true).wpIn (Fence.wide.inRound lp) nn P Q a w := by
  refine wpIn_region_any hm (wpAnyIn_of hnd hQo _ _ _ _ ?_)
  obtain ⟨kn, hs, he⟩ := oneTail_family hok k0 0 _ (by omega) (fun m hm => absurd hm (by omega)) h
  have hk0 : k0 ≤ ops.size := by unfold tailOkC at ht; simp only [Bool.and_eq_true, decide_eq_true_eq] at ht; exact ht.1
  refine wpAny_oneTail hR hA hS hok ht hs he k0 ops.size _ a _ (by simp) ?_ (by omega) ?_ ?_ ⟨rfl, rfl, fun _ _ => rfl⟩ (hR.drew w) (fun _ => hSd _ h0) ?_
  · exact Nat.le_trans (List.length_filter_le _ _) (by simp)
  · intro j hj
    simp [Array.getD_eq_getD_getElem?, Array.getElem?_replicate]
    split <;> rfl
  · intro j hj
    simp [Array.getD_eq_getD_getElem?, Array.getElem?_replicate] at hj
    split at hj <;> simp at hj
  · intro j hj
    simp [Array.getD_eq_getD_getElem?, Array.getElem?_replicate] at hj
    split at hj <;> simp at hj

theorem wpIn_region_flow {lp nn : Nat} {id : Nat} {a : Act} {w : World} (hnd : noDefer ops = true) (hQo : ¬ LetsOut Q) (hm : P.follows .mixedOrders = true) (hok : flowOk ops a.tmps.size = true) (h : FlowFrom P ops w a Q ops.size 0 (fun _ _ _ => False)) : (Code.region id ops true).wpIn (Fence.wide.inRound lp) nn P Q a w := by
  refine wpIn_region_any hm (wpAnyIn_of hnd hQo _ _ _ _ ?_)
  obtain ⟨kn, hs, he⟩ := flow_family hok ops.size 0 _ (by omega) (fun m hm => absurd hm (by omega)) h
  refine wpAny_flow hok hs he ops.size _ a _ (by simp) ?_ ⟨rfl, rfl, fun _ _ => rfl⟩ ((Below.refl _ w).drew) ?_
  · exact Nat.le_trans (List.length_filter_le _ _) (by simp)
  · intro j hj
    simp [Array.getD_eq_getD_getElem?, Array.getElem?_replicate] at hj
    split at hj <;> simp at hj
end
end Go.Proofs.YtbgconagkgfplaaGreat
end
section
namespace Go.Proofs.YtbgconagkgfplaaGreat
open Go.RowKit Go.Shelf
set_option linter.unusedVariables false
set_option linter.unusedSimpArgs false
attribute [local irreducible] setN
attribute [local go_sem] Oper.semAt_some

abbrev El := Nat × En × Value × Value
def encE (x : El) : Array Value := #[.int .i64 (x.1 : Int), .agg #[.string ⟨x.2.1.key.toArray⟩, .int .i64 x.2.1.val.kind, .int .i64 x.2.1.val.time, .int .i64 x.2.1.val.node, .bool x.2.1.val.dead, .string ⟨x.2.1.val.text.toArray⟩, x.2.2.1, x.2.2.2, .int .u64 (x.2.1.val.flags.toNat : Int)]]
/-- A slot of the arena, as it stands in w. -/
def OkEl (A : Ar) (w : World) (x : El) : Prop := A.slots[x.1]? = some x.2.1 ∧ isCells (x.2.1.val.plus.map intC) x.2.2.1 w ∧ isCells (x.2.1.val.minus.map intC) x.2.2.2 w
/-- What the iterator wants kept: all that is older than n0, and block Bs. -/
def KpA (n0 Bs : Nat) (W W' : World) : Prop := W.heap.size ≤ W'.heap.size ∧ ∀ b, (b < n0 ∨ b = Bs) → W'.heap[b]? = W.heap[b]?
theorem kpA_t (n0 Bs : Nat) {A B C : World} (h : KpA n0 Bs A B) (k : KpA n0 Bs B C) : KpA n0 Bs A C := ⟨Nat.le_trans h.1 k.1, fun b hb => (k.2 b hb).trans (h.2 b hb)⟩
theorem kpA_below {n0 Bs : Nat} {W W' : World} (h : Below W.heap.size W W') (h1 : n0 ≤ W.heap.size) (h2 : Bs < W.heap.size) : KpA n0 Bs W W' := ⟨h.size, fun b hb => h.block b (by omega)⟩
structure ItA (A : Ar) (vs vi : Value) (w : World) (n0 Bs : Nat) (W : World) : Prop where
  size : n0 ≤ W.heap.size
  lt : Bs < W.heap.size
  old : ∀ b, b < n0 → W.heap[b]? = w.heap[b]?
  box : W.heap[Bs]? = some (.cells #[.int .i64 A.cap, vs, vi] 25 (0, 0))
theorem ItA.kp {A : Ar} {vs vi : Value} {w : World} {n0 Bs : Nat} {W W' : World} (h : ItA A vs vi w n0 Bs W) (k : KpA n0 Bs W W') : ItA A vs vi w n0 Bs W' :=
  ⟨Nat.le_trans h.size k.1, Nat.lt_of_lt_of_le h.lt k.1, fun b hb => (k.2 b (.inl hb)).trans (h.old b hb), (k.2 Bs (.inr rfl)).trans h.box⟩
theorem ItA.up {A : Ar} {vs vi : Value} {w : World} {Bs : Nat} {W : World} (h : ItA A vs vi w w.heap.size Bs W) : Below w.heap.size w { w with heap := W.heap } := ⟨rfl, rfl, rfl, h.size, h.old⟩
theorem ItA.ar {A : Ar} {vs vi : Value} {w : World} {Bs : Nat} {W : World} (h : ItA A vs vi w w.heap.size Bs W) (ha : isAr A (.agg #[.int .i64 A.cap, vs, vi]) w) : isAr A (.agg #[.int .i64 A.cap, vs, vi]) W := by
  have := stable_ar A _ w { w with heap := W.heap } ha h.up
  exact this
theorem ItA.cells_ {A : Ar} {vs vi : Value} {w : World} {Bs : Nat} {W : World} (h : ItA A vs vi w w.heap.size Bs W) {cs : List Value} {v : Value} (hc : isCells cs v w) : isCells cs v W := by
  have := stable_cells cs v w { w with heap := W.heap } hc h.up
  exact this
theorem ItA.cell {A : Ar} {vs vi : Value} {w : World} {n0 Bs : Nat} {W : World} (h : ItA A vs vi w n0 Bs W) (j : Nat) : W.cell? ⟨Bs, j, none⟩ = #[.int .i64 A.cap, vs, vi][j]? := by simp [World.cell?, h.box]
theorem ItA.at_ {A : Ar} {vs vi : Value} {w : World} {n0 Bs : Nat} {W : World} (h : ItA A vs vi w n0 Bs W) {b k : Nat} (hb : b < n0) : W.cell? ⟨b, k, none⟩ = w.cell? ⟨b, k, none⟩ := World.cell?_of_block (a := ⟨b, k, none⟩) (h.old b hb)
theorem abide {J : List El → World → Prop} {B : Nat} (h : AbidesFrom B J) {p : List El} {W W' : World} (hJ : J p W) (hb : Below W.heap.size W W') : J p W' := h p W W' none hJ ⟨hb.os, hb.tape, hb.output, hb.size, fun k hk _ => hb.block k hk⟩ (fun r e => by cases e)
theorem take_el {A : Ar} {p : List El} {k : Nat} {E : En} (hp : p.map (·.1) = List.range k) (hs : p.map (·.2.1) = A.slots.take k) (hE : A.slots[k]? = some E) (ep em : Value) : (p ++ [(k, E, ep, em)]).map (·.1) = List.range (k + 1) ∧ (p ++ [(k, E, ep, em)]).map (·.2.1) = A.slots.take (k + 1) := by
  rw [List.map_append, List.map_append, hp, hs, List.range_succ, List.take_add_one, hE]
  exact ⟨rfl, rfl⟩
section
variable {P : Program} {ops : Array Oper} {rest : List Oper} {o : Oper} {a : Act} {w : World} {Q : Exit → Act → World → Prop} {F : Fence} {n : Nat}
theorem wpListIn_storeN (hFn : ∀ f, F.fn f) (t : TypeId) (hgd : o.guard = none) (x y : Operand) (ho : o.op = .store t x y)
    (g : Nat) (l : List Value) (hs : (P.info? t).map (·.size) = some l.length) (hx : a.eval x = .pointer (some ⟨g, 0, none⟩)) (hy : a.eval y = .agg l.toArray) {old : List Value} (h : CellsN w g old) (hl : old.length = l.length) (hf : Free5 w g) (h1 : Ones l)
    (hr : wpListIn F n P ops Q rest (a.put o.dst undef) (setN w g 0 l)) : wpListIn F n P ops Q (o :: rest) a w :=
  wpListIn_plain hgd fun K hK => by
    unfold Oper.wpIn
    refine ⟨fun f _ => hFn f, ?_⟩
    rw [Oper.semAt_eq _ _ _ (by intro c e; rw [ho] at e; cases e)]
    unfold execOp
    rw [ho]
    simp only [hx, hy, Sem.run_bind, storeN t g w old l hs h hl hf h1, Result.andThen_ok, Sem.run_pure, Oper.uponIn]
    exact hK _ _ hr
end
def PlPost (A : Ar) (w : World) (J Jx : List El → World → Prop) (W' : World) : Prop := (∃ ys, (∀ x ∈ ys, OkEl A w x) ∧ ys.map (·.1) = (if okA A = true then List.range A.slots.length else []) ∧ ys.map (·.2.1) = (if okA A = true then A.slots else []) ∧ J ys W') ∨ (∃ pre, (∀ x ∈ pre, OkEl A w x) ∧ okA A = true ∧ Jx pre W')
set_option maxRecDepth 100000 in
set_option maxHeartbeats 2000000 in
theorem place1_in (m : Nat) (hm : 1 ≤ m) (l Bs : Nat) (A : Ar) (vs vi : Value) (w : World) (hs : isEns A.slots vs w) (hi : isCells (A.index.map intC) vi w) (hF : FitA A) (J Jx : List El → World → Prop) (B0 : Nat) (hJa : AbidesFrom B0 J)
    (hY : ∀ pre x W, J pre W → OkEl A w x → pre.length < A.slots.length → YieldAt Fence.wide (m - 1) Tryz.prog l (encE x) W fun e W' =>
      (e = .returned (.bool true) ∧ J (pre ++ [x]) W' ∧ KpA w.heap.size Bs W W') ∨ (e = .returned (.bool false) ∧ Jx (pre ++ [x]) W'))
    (W : World) (hI : ItA A vs vi w w.heap.size Bs W) (h0 : J [] W) :
    CallsIn Fence.wide m Tryz.prog 124 #[.func (.yield l) #[] #[], .pointer (some ⟨Bs, 0, none⟩)] W fun e W' => (∃ v, e = .returned v) ∧
      PlPost A w J Jx W' := by
  have k0 := hI.cell 0
  have k1 := hI.cell 1
  have k2 := hI.cell 2
  simp only [List.getElem?_toArray, List.getElem?_cons_zero, List.getElem?_cons_succ] at k0 k1 k2
  have XA := Kept.mk (hI.ar ⟨vs, vi, rfl, hs, hi⟩)
  have HI := Kept.mk hI
  have HJ := Kept.mk h0
  have HS := Kept.mk hs
  obtain ⟨sa, cs, e0⟩ := hs.len
  subst e0
  clear hI h0 hs hi
  have f1 := hF.slots
  cases hok : okA A with
  | false =>
    have CK := Kept.mk (chk_A0 hok)
    refine callsIn_of_wp Tryz.func124 rfl trivial ?_ rfl
    simp only [Tryz.ntmps124, List.size_toArray, List.length_cons, List.length_nil, Nat.reduceAdd, Nat.reduceSub, Array.replicate_succ, Array.replicate_zero, List.push_toArray, List.append_toArray, List.nil_append, List.cons_append]
    gi_wp2_with (refine ⟨trivial, (callsIn_wide.2 (acheck_any A _ _ XA.out hF)).mono ?_⟩; rintro e W1 ⟨rfl, hb⟩; rw [CK.out])
    refine bodyPost_ret (results_none rfl _ _ _) rfl ?_
    exact ⟨⟨_, rfl⟩, .inl ⟨[], (fun x hx => by cases hx), by rw [hok]; rfl, by rw [hok]; rfl, abide hJa HJ.out hb⟩⟩
  | true =>
    have CK := Kept.mk (chk_A1 hok)
    generalize hN : A.slots.length = N at *
    have HN := Kept.mk hN
    clear hN
    refine callsIn_of_wp Tryz.func124 rfl trivial ?_ rfl
    simp only [Tryz.ntmps124, List.size_toArray, List.length_cons, List.length_nil, Nat.reduceAdd, Nat.reduceSub, Array.replicate_succ, Array.replicate_zero, List.push_toArray, List.append_toArray, List.nil_append, List.cons_append]
    gi_wp2_with (refine ⟨trivial, (callsIn_wide.2 (acheck_any A _ _ XA.out hF)).mono ?_⟩; rintro e W1 ⟨rfl, hb⟩; rw [CK.out]; have HI1 := Kept.mk (HI.out.kp (kpA_below hb HI.out.size HI.out.lt)); have HJ1 := Kept.mk (abide hJa HJ.out hb); have k3 := HI1.out.cell 1; simp only [List.getElem?_toArray, List.getElem?_cons_zero, List.getElem?_cons_succ] at k3)
    gi_loopw [11] (fun i wr => ∃ k : Nat, k ≤ N ∧ i = .int .i64 (k : Int) ∧ Kept (ItA A (.slice sa N cs) vi w w.heap.size Bs wr) ∧ Kept (∃ p : List El, (∀ x ∈ p, OkEl A w x) ∧ p.map (·.1) = List.range k ∧ p.map (·.2.1) = A.slots.take k ∧ J p wr)) (fun i _ => N - (intOf i).toNat)
    case atStart => exact ⟨0, Nat.zero_le _, rfl, HI1, ⟨[], (fun x hx => by cases hx), rfl, rfl, HJ1.out⟩⟩
    case round =>
      clear HI1 HJ1 k3 HI HJ XA k0 k1 k2
      obtain ⟨k, hk, rfl, HI, HP⟩ := hrel
      by_cases hlt : k < N
      · have hlt' : (k : Int) < (N : Int) := by omega
        obtain ⟨E, hE⟩ : ∃ E, A.slots[k]? = some E := ⟨_, List.getElem?_eq_getElem (by rw [HN.out]; exact hlt)⟩
        obtain ⟨bs, os, cs', hvs, hbs, ep, em, hcell, hp, hm⟩ := HS.out.get hE
        injection hvs with h1 hx1 h2
        clear hx1
        subst h1 h2
        obtain ⟨p, hpo, hp1, hp2, hpJ⟩ := HP.out
        obtain ⟨K1, K2, K3, K4, K5⟩ := enew wr E ep em (HI.out.cells_ hp) (HI.out.cells_ hm) wr.heap.size rfl
        obtain ⟨q1, q2⟩ := take_el hp1 hp2 hE ep em
        have hlen : p.length = k := by have := congrArg List.length hp1; simpa using this
        have hJ2 := abide hJa hpJ K3.out
        obtain ⟨fn, tmps, assign, body, hy, hR⟩ := hY p (k, E, ep, em) _ hJ2 ⟨hE, hp, hm⟩ (by omega)
        simp only [encE] at hy
        have HI2 := Kept.mk (HI.out.kp (kpA_below K3.out HI.out.size HI.out.lt))
        have HQ := Kept.mk (And.intro (show ∀ x ∈ p ++ [(k, E, ep, em)], OkEl A w x from fun x hx => (List.mem_append.1 hx).elim (hpo x) (fun hx => by rw [List.mem_singleton] at hx; subst hx; exact ⟨hE, hp, hm⟩)) (And.intro q1 q2))
        have kc0 : wr.cell? ⟨bs, os + k * 9, none⟩ = _ := (HI.out.at_ (k := os + k * 9 + 0) hbs).trans (hcell 0 _ rfl)
        have kc1 : wr.cell? ⟨bs, os + k * 9 + 1, none⟩ = _ := (HI.out.at_ (k := os + k * 9 + 1) hbs).trans (hcell 1 _ rfl)
        have kc2 : wr.cell? ⟨bs, os + k * 9 + 2, none⟩ = _ := (HI.out.at_ (k := os + k * 9 + 2) hbs).trans (hcell 2 _ rfl)
        have kc3 : wr.cell? ⟨bs, os + k * 9 + 3, none⟩ = _ := (HI.out.at_ (k := os + k * 9 + 3) hbs).trans (hcell 3 _ rfl)
        have kc4 : wr.cell? ⟨bs, os + k * 9 + 4, none⟩ = _ := (HI.out.at_ (k := os + k * 9 + 4) hbs).trans (hcell 4 _ rfl)
        have kc5 : wr.cell? ⟨bs, os + k * 9 + 5, none⟩ = _ := (HI.out.at_ (k := os + k * 9 + 5) hbs).trans (hcell 5 _ rfl)
        have kc6 : wr.cell? ⟨bs, os + k * 9 + 6, none⟩ = _ := (HI.out.at_ (k := os + k * 9 + 6) hbs).trans (hcell 6 _ rfl)
        have kc7 : wr.cell? ⟨bs, os + k * 9 + 7, none⟩ = _ := (HI.out.at_ (k := os + k * 9 + 7) hbs).trans (hcell 7 _ rfl)
        have kc8 : wr.cell? ⟨bs, os + k * 9 + 8, none⟩ = _ := (HI.out.at_ (k := os + k * 9 + 8) hbs).trans (hcell 8 _ rfl)
        clear hcell hp hm hp1 hp2 hpJ hpo q1 q2 hE hJ2
        gi_wp2_with (have hz0 := K1; refine wpListIn_storeN (fun _ => trivial) 30 rfl (.tmp 4) (.tmp 15) rfl wr.heap.size [.string ⟨E.key.toArray⟩, .int .i64 E.val.kind, .int .i64 E.val.time, .int .i64 E.val.node, .bool E.val.dead, .string ⟨E.val.text.toArray⟩, ep, em, .int .u64 (E.val.flags.toNat : Int)] size_en rfl rfl K1.out rfl K2.out K5.out ?_; clear hz0 K1 K2 K5 kc0 kc1 kc2 kc3 kc4 kc5 kc6 kc7 kc8; have kx0 := K4.out.1.2 0 _ rfl; have kx1 := K4.out.1.2 1 _ rfl; have kx2 := K4.out.1.2 2 _ rfl; have kx3 := K4.out.1.2 3 _ rfl; have kx4 := K4.out.1.2 4 _ rfl; have kx5 := K4.out.1.2 5 _ rfl; have kx6 := K4.out.1.2 6 _ rfl; have kx7 := K4.out.1.2 7 _ rfl; have kx8 := K4.out.1.2 8 _ rfl; generalize setN (wr.alloc (.cells #[.string ⟨#[]⟩, .int .i64 0, .int .i64 0, .int .i64 0, .bool false, .string ⟨#[]⟩, .slice none 0 0, .slice none 0 0, .int .u64 0] 30)) wr.heap.size 0 [.string ⟨E.key.toArray⟩, .int .i64 E.val.kind, .int .i64 E.val.time, .int .i64 E.val.node, .bool E.val.dead, .string ⟨E.val.text.toArray⟩, ep, em, .int .u64 (E.val.flags.toNat : Int)] = W2 at *)
        refine hR.mono ?_
        rintro e W3 (⟨rfl, hJ3, hk3⟩ | ⟨rfl, hJx3⟩)
        · have HI3 := Kept.mk (HI2.out.kp hk3)
          have HP3 : Kept (∃ p : List El, (∀ x ∈ p, OkEl A w x) ∧ p.map (·.1) = List.range (k + 1) ∧ p.map (·.2.1) = A.slots.take (k + 1) ∧ J p W3) := ⟨_, HQ.out.1, HQ.out.2.1, HQ.out.2.2, hJ3⟩
          clear hJ3 hk3
          gi_wp2
          go_roundw
          case rel => exact ⟨k + 1, by omega, by go_num, HI3, HP3⟩
          case measure => simp [intOf]; omega
        · have HX := Kept.mk hJx3
          clear hJx3
          gi_wp2
          refine bodyPost_ret (results_none rfl _ _ _) rfl ?_
          exact ⟨⟨_, rfl⟩, .inr ⟨_, HQ.out.1, hok, HX.out⟩⟩
      · have hlt' : ¬ (k : Int) < (N : Int) := by omega
        obtain rfl : k = N := by omega
        obtain ⟨p, hpo, hp1, hp2, hpJ⟩ := HP.out
        have HP2 := Kept.mk (show PlPost A w J Jx wr from .inl ⟨p, hpo, by rw [hok, if_pos rfl, HN.out]; exact hp1, by rw [hok, if_pos rfl, hp2]; exact List.take_of_length_le (by rw [HN.out]; exact Nat.le_refl _), hpJ⟩)
        clear hpo hp1 hp2 hpJ
        gi_wp2
        go_end0
        exact ⟨⟨_, rfl⟩, HP2.out⟩
end Go.Proofs.YtbgconagkgfplaaGreat
end
section
namespace Go.Proofs.YtbgconagkgfplaaGreat
open Go.RowKit Go.Shelf
set_option linter.unusedVariables false
set_option linter.unusedSimpArgs false
attribute [local irreducible] setN
attribute [local go_sem] Oper.semAt_some

def NmPost (A : Ar) (w : World) (J Jx : List El → World → Prop) (W' : World) : Prop := (∃ ys, (∀ x ∈ ys, OkEl A w x) ∧ ys.map (·.2.1) = (if okA A = true then ordA A else []) ∧ J ys W') ∨ (∃ pre, (∀ x ∈ pre, OkEl A w x) ∧ okA A = true ∧ Jx pre W')
set_option maxRecDepth 100000 in
set_option maxHeartbeats 2000000 in
theorem name1_in (m : Nat) (hm : 1 ≤ m) (l Bs : Nat) (A : Ar) (vs vi : Value) (w : World) (hs : isEns A.slots vs w) (hi : isCells (A.index.map intC) vi w) (hF : FitA A) (J Jx : List El → World → Prop) (B0 : Nat) (hJa : AbidesFrom B0 J)
    (hY : ∀ pre x W, J pre W → OkEl A w x → pre.length < A.slots.length → YieldAt Fence.wide (m - 1) Tryz.prog l (encE x) W fun e W' =>
      (e = .returned (.bool true) ∧ J (pre ++ [x]) W' ∧ KpA w.heap.size Bs W W') ∨ (e = .returned (.bool false) ∧ Jx (pre ++ [x]) W'))
    (W : World) (hI : ItA A vs vi w w.heap.size Bs W) (h0 : J [] W) :
    CallsIn Fence.wide m Tryz.prog 123 #[.func (.yield l) #[] #[], .pointer (some ⟨Bs, 0, none⟩)] W fun e W' => (∃ v, e = .returned v) ∧
      NmPost A w J Jx W' := by
  have k0 := hI.cell 0
  have k1 := hI.cell 1
  have k2 := hI.cell 2
  simp only [List.getElem?_toArray, List.getElem?_cons_zero, List.getElem?_cons_succ] at k0 k1 k2
  have XA := Kept.mk (hI.ar ⟨vs, vi, rfl, hs, hi⟩)
  have HI := Kept.mk hI
  have HJ := Kept.mk h0
  have HS := Kept.mk hs
  have HX := Kept.mk hi
  obtain ⟨sa, cs, e0⟩ := hs.len
  obtain ⟨ia, ci, e1⟩ := hi.len
  rw [List.length_map] at e1
  subst e0 e1
  clear hI h0 hs hi
  have f2 := hF.index
  have f1 := hF.slots
  cases hok : okA A with
  | false =>
    have CK := Kept.mk (chk_A0 hok)
    refine callsIn_of_wp Tryz.func123 rfl trivial ?_ rfl
    simp only [Tryz.ntmps123, List.size_toArray, List.length_cons, List.length_nil, Nat.reduceAdd, Nat.reduceSub, Array.replicate_succ, Array.replicate_zero, List.push_toArray, List.append_toArray, List.nil_append, List.cons_append]
    gi_wp2_with (refine ⟨trivial, (callsIn_wide.2 (acheck_any A _ _ XA.out hF)).mono ?_⟩; rintro e W1 ⟨rfl, hb⟩; rw [CK.out])
    refine bodyPost_ret (results_none rfl _ _ _) rfl ?_
    exact ⟨⟨_, rfl⟩, .inl ⟨[], (fun x hx => by cases hx), by rw [hok]; rfl, abide hJa HJ.out hb⟩⟩
  | true =>
    have CK := Kept.mk (chk_A1 hok)
    have OKA := Kept.mk (okA_iff.1 hok)
    generalize hN : A.index.length = N at *
    have HN := Kept.mk hN
    generalize hM : A.slots.length = M at *
    have HM := Kept.mk hM
    have hNM : N = M := by rw [← hN, ← hM]; exact OKA.out.len
    have HNM := Kept.mk hNM
    clear hN hM hNM
    refine callsIn_of_wp Tryz.func123 rfl trivial ?_ rfl
    simp only [Tryz.ntmps123, List.size_toArray, List.length_cons, List.length_nil, Nat.reduceAdd, Nat.reduceSub, Array.replicate_succ, Array.replicate_zero, List.push_toArray, List.append_toArray, List.nil_append, List.cons_append]
    gi_wp2_with (refine ⟨trivial, (callsIn_wide.2 (acheck_any A _ _ XA.out hF)).mono ?_⟩; rintro e W1 ⟨rfl, hb⟩; rw [CK.out]; have HI1 := Kept.mk (HI.out.kp (kpA_below hb HI.out.size HI.out.lt)); have HJ1 := Kept.mk (abide hJa HJ.out hb); have k3 := HI1.out.cell 2; simp only [List.getElem?_toArray, List.getElem?_cons_zero, List.getElem?_cons_succ] at k3)
    gi_loopw [11] (fun i wr => ∃ k : Nat, k ≤ N ∧ i = .int .i64 (k : Int) ∧ Kept (ItA A (.slice sa M cs) (.slice ia N ci) w w.heap.size Bs wr) ∧ Kept (∃ p : List El, (∀ x ∈ p, OkEl A w x) ∧ p.map (·.2.1) = (ordA A).take k ∧ p.length = k ∧ J p wr)) (fun i _ => N - (intOf i).toNat)
    case atStart => exact ⟨0, Nat.zero_le _, rfl, HI1, ⟨[], (fun x hx => by cases hx), rfl, rfl, HJ1.out⟩⟩
    case round =>
      clear HI1 HJ1 k3 HI HJ XA k0 k1 k2
      obtain ⟨k, hk, rfl, HI, HP⟩ := hrel
      by_cases hlt : k < N
      · have hlt' : (k : Int) < (N : Int) := by omega
        obtain ⟨pl, hpl⟩ : ∃ pl, A.index[k]? = some pl := ⟨_, List.getElem?_eq_getElem (by rw [HN.out]; exact hlt)⟩
        have hr := OKA.out.rng pl (List.mem_of_getElem? hpl)
        obtain ⟨q, rfl⟩ : ∃ q : Nat, pl = (q : Int) := ⟨pl.toNat, by omega⟩
        have hqM : q < M := by have := HM.out; omega
        have hqM' : (q : Int) < (M : Int) := by omega
        obtain ⟨E, hE⟩ : ∃ E, A.slots[q]? = some E := ⟨_, List.getElem?_eq_getElem (by omega)⟩
        have hoE := ord_get hpl hE
        obtain ⟨bs, os, cs', hvs, hbs, ep, em, hcell, hp, hm⟩ := HS.out.get hE
        injection hvs with h1 hx1 h2
        clear hx1
        subst h1 h2
        obtain ⟨bi, oi, ci', hvi, hbi, hci⟩ := cells_get HX.out (by intro e; rw [e] at hpl; simp at hpl)
        injection hvi with h1 hx1 h2
        clear hx1
        subst h1 h2
        have ki : wr.cell? ⟨bi, oi + k, none⟩ = some (.int .i64 (q : Int)) := (HI.out.at_ (k := oi + k) hbi).trans (hci k _ hpl)
        have kb := HI.out.cell 1
        simp only [List.getElem?_toArray, List.getElem?_cons_zero, List.getElem?_cons_succ] at kb
        obtain ⟨p, hpo, hp2, hpl2, hpJ⟩ := HP.out
        have q2 : (p ++ [(q, E, ep, em)]).map (·.2.1) = (ordA A).take (k + 1) := by rw [List.map_append, hp2, List.take_add_one, hoE]; rfl
        obtain ⟨fn, tmps, assign, body, hy, hR⟩ := hY p (q, E, ep, em) _ hpJ ⟨hE, hp, hm⟩ (by have := HM.out; have := HNM.out; omega)
        simp only [encE] at hy
        have HI2 := HI
        have HQ := Kept.mk (And.intro (show ∀ x ∈ p ++ [(q, E, ep, em)], OkEl A w x from fun x hx => (List.mem_append.1 hx).elim (hpo x) (fun hx => by rw [List.mem_singleton] at hx; subst hx; exact ⟨hE, hp, hm⟩)) (And.intro q2 (show (p ++ [(q, E, ep, em)]).length = k + 1 by simp [hpl2])))
        have kc0 : wr.cell? ⟨bs, os + q * 9, none⟩ = _ := (HI.out.at_ (k := os + q * 9 + 0) hbs).trans (hcell 0 _ rfl)
        have kc1 : wr.cell? ⟨bs, os + q * 9 + 1, none⟩ = _ := (HI.out.at_ (k := os + q * 9 + 1) hbs).trans (hcell 1 _ rfl)
        have kc2 : wr.cell? ⟨bs, os + q * 9 + 2, none⟩ = _ := (HI.out.at_ (k := os + q * 9 + 2) hbs).trans (hcell 2 _ rfl)
        have kc3 : wr.cell? ⟨bs, os + q * 9 + 3, none⟩ = _ := (HI.out.at_ (k := os + q * 9 + 3) hbs).trans (hcell 3 _ rfl)
        have kc4 : wr.cell? ⟨bs, os + q * 9 + 4, none⟩ = _ := (HI.out.at_ (k := os + q * 9 + 4) hbs).trans (hcell 4 _ rfl)
        have kc5 : wr.cell? ⟨bs, os + q * 9 + 5, none⟩ = _ := (HI.out.at_ (k := os + q * 9 + 5) hbs).trans (hcell 5 _ rfl)
        have kc6 : wr.cell? ⟨bs, os + q * 9 + 6, none⟩ = _ := (HI.out.at_ (k := os + q * 9 + 6) hbs).trans (hcell 6 _ rfl)
        have kc7 : wr.cell? ⟨bs, os + q * 9 + 7, none⟩ = _ := (HI.out.at_ (k := os + q * 9 + 7) hbs).trans (hcell 7 _ rfl)
        have kc8 : wr.cell? ⟨bs, os + q * 9 + 8, none⟩ = _ := (HI.out.at_ (k := os + q * 9 + 8) hbs).trans (hcell 8 _ rfl)
        clear hcell hp hm hp2 hpl2 hpJ hpo q2 hE hoE hci hpl hr
        gi_wp2
        refine hR.mono ?_
        rintro e W3 (⟨rfl, hJ3, hk3⟩ | ⟨rfl, hJx3⟩)
        · have HI3 := Kept.mk (HI2.out.kp hk3)
          have HP3 : Kept (∃ p : List El, (∀ x ∈ p, OkEl A w x) ∧ p.map (·.2.1) = (ordA A).take (k + 1) ∧ p.length = k + 1 ∧ J p W3) := ⟨_, HQ.out.1, HQ.out.2.1, HQ.out.2.2, hJ3⟩
          clear hJ3 hk3
          gi_wp2
          go_roundw
          case rel => exact ⟨k + 1, by omega, by go_num, HI3, HP3⟩
          case measure => simp [intOf]; omega
        · have HX := Kept.mk hJx3
          clear hJx3
          gi_wp2
          refine bodyPost_ret (results_none rfl _ _ _) rfl ?_
          exact ⟨⟨_, rfl⟩, .inr ⟨_, HQ.out.1, hok, HX.out⟩⟩
      · have hlt' : ¬ (k : Int) < (N : Int) := by omega
        obtain rfl : k = N := by omega
        obtain ⟨p, hpo, hp2, hpl2, hpJ⟩ := HP.out
        have HP2 := Kept.mk (show NmPost A w J Jx wr from .inl ⟨p, hpo, by rw [hok, if_pos rfl, hp2]; exact List.take_of_length_le (by unfold ordA; rw [List.length_map, HN.out]; exact Nat.le_refl _), hpJ⟩)
        clear hpo hp2 hpl2 hpJ
        gi_wp2
        go_end0
        exact ⟨⟨_, rfl⟩, HP2.out⟩
set_option maxRecDepth 100000 in
set_option maxHeartbeats 2000000 in
theorem placec_call (m : Nat) (A : Ar) (vs vi : Value) (w : World) : CallsIn Fence.wide m Tryz.prog 94 #[.agg #[.int .i64 A.cap, vs, vi]] w fun e w' => e = .returned (.func (.func 124) #[] #[.pointer (some ⟨w.heap.size, 0, none⟩)]) ∧ w' = w.alloc (.cells #[.int .i64 A.cap, vs, vi] 25) := by
  refine callsIn_of_wp Tryz.func94 rfl trivial ?_ rfl
  simp only [Tryz.ntmps94, List.size_toArray, List.length_cons, List.length_nil, Nat.reduceAdd, Nat.reduceSub, Array.replicate_succ, Array.replicate_zero, List.push_toArray, List.append_toArray, List.nil_append, List.cons_append]
  gi_wp2
  go_ret
  exact ⟨by simp, rfl⟩
theorem placec_stops (m : Nat) (hm : 1 ≤ m) (Bs : Nat) (A : Ar) (vs vi : Value) (w w0 : World) (hs : isEns A.slots vs w) (hi : isCells (A.index.map intC) vi w) (hF : FitA A) (hI : ItA A vs vi w w.heap.size Bs w0) :
    SeqStopsK Fence.wide m Tryz.prog 124 #[.pointer (some ⟨Bs, 0, none⟩)] (fun x : { x : El // OkEl A w x } => encE x.1) (KpA w.heap.size Bs) (fun ys => ys.map (·.1.1) = (if okA A = true then List.range A.slots.length else []) ∧ ys.map (·.1.2.1) = (if okA A = true then A.slots else [])) (fun _ => okA A = true) A.slots.length w0 := fun l J Jx W hW hJa _ hY h0 =>
  (place1_in m hm l Bs A vs vi w hs hi hF (fun ns W => ∃ p : List { x : El // OkEl A w x }, p.map (·.1) = ns ∧ J p W) (fun ns W => ∃ p : List { x : El // OkEl A w x }, p.map (·.1) = ns ∧ Jx p W) W.heap.size
    (fun s W W' row ⟨p, hp, hJ⟩ hg hr => ⟨p, hp, hJa p W W' row hJ hg hr⟩)
    (fun pre x W ⟨p, hp, hJ⟩ hx h2 => (hY p ⟨x, hx⟩ W hJ (by rw [← hp, List.length_map] at h2; exact h2)).mono fun e W' h => by
      rcases h with ⟨rfl, h, hk⟩ | ⟨rfl, h⟩
      · exact .inl ⟨rfl, ⟨_, by simp [hp], h⟩, hk⟩
      · exact .inr ⟨rfl, ⟨_, by simp [hp], h⟩⟩) W (hI.kp ⟨hW.size, fun b hb => hW.block b (by have := hI.size; have := hI.lt; omega)⟩) ⟨[], rfl, h0⟩).mono fun e W' ⟨he, h⟩ => by
    refine ⟨he, ?_⟩
    rcases h with ⟨ys, _, h1, h2, p, hp, hJ⟩ | ⟨pre, _, hok, p, hp, hJ⟩
    · exact .inl ⟨p, ⟨by rw [← h1, ← hp, List.map_map]; rfl, by rw [← h2, ← hp, List.map_map]; rfl⟩, hJ⟩
    · exact .inr ⟨p, hok, hJ⟩
set_option maxRecDepth 100000 in
set_option maxHeartbeats 2000000 in
theorem namec_call (m : Nat) (A : Ar) (vs vi : Value) (w : World) : CallsIn Fence.wide m Tryz.prog 89 #[.agg #[.int .i64 A.cap, vs, vi]] w fun e w' => e = .returned (.func (.func 123) #[] #[.pointer (some ⟨w.heap.size, 0, none⟩)]) ∧ w' = w.alloc (.cells #[.int .i64 A.cap, vs, vi] 25) := by
  refine callsIn_of_wp Tryz.func89 rfl trivial ?_ rfl
  simp only [Tryz.ntmps89, List.size_toArray, List.length_cons, List.length_nil, Nat.reduceAdd, Nat.reduceSub, Array.replicate_succ, Array.replicate_zero, List.push_toArray, List.append_toArray, List.nil_append, List.cons_append]
  gi_wp2
  go_ret
  exact ⟨by simp, rfl⟩
theorem namec_stops (m : Nat) (hm : 1 ≤ m) (Bs : Nat) (A : Ar) (vs vi : Value) (w w0 : World) (hs : isEns A.slots vs w) (hi : isCells (A.index.map intC) vi w) (hF : FitA A) (hI : ItA A vs vi w w.heap.size Bs w0) :
    SeqStopsK Fence.wide m Tryz.prog 123 #[.pointer (some ⟨Bs, 0, none⟩)] (fun x : { x : El // OkEl A w x } => encE x.1) (KpA w.heap.size Bs) (fun ys => ys.map (·.1.2.1) = (if okA A = true then ordA A else [])) (fun _ => okA A = true) A.slots.length w0 := fun l J Jx W hW hJa _ hY h0 =>
  (name1_in m hm l Bs A vs vi w hs hi hF (fun ns W => ∃ p : List { x : El // OkEl A w x }, p.map (·.1) = ns ∧ J p W) (fun ns W => ∃ p : List { x : El // OkEl A w x }, p.map (·.1) = ns ∧ Jx p W) W.heap.size
    (fun s W W' row ⟨p, hp, hJ⟩ hg hr => ⟨p, hp, hJa p W W' row hJ hg hr⟩)
    (fun pre x W ⟨p, hp, hJ⟩ hx h2 => (hY p ⟨x, hx⟩ W hJ (by rw [← hp, List.length_map] at h2; exact h2)).mono fun e W' h => by
      rcases h with ⟨rfl, h, hk⟩ | ⟨rfl, h⟩
      · exact .inl ⟨rfl, ⟨_, by simp [hp], h⟩, hk⟩
      · exact .inr ⟨rfl, ⟨_, by simp [hp], h⟩⟩) W (hI.kp ⟨hW.size, fun b hb => hW.block b (by have := hI.size; have := hI.lt; omega)⟩) ⟨[], rfl, h0⟩).mono fun e W' ⟨he, h⟩ => by
    refine ⟨he, ?_⟩
    rcases h with ⟨ys, _, h2, p, hp, hJ⟩ | ⟨pre, _, hok, p, hp, hJ⟩
    · exact .inl ⟨p, (by rw [← h2, ← hp, List.map_map]; rfl), hJ⟩
    · exact .inr ⟨p, hok, hJ⟩
end Go.Proofs.YtbgconagkgfplaaGreat
end
section
namespace Go.Proofs.YtbgconagkgfplaaGreat
open Go.RowKit Go.Shelf
set_option linter.unusedVariables false
set_option linter.unusedSimpArgs false
attribute [local irreducible] setN
attribute [local go_sem] Oper.semAt_some

/-- The row so far, in the variable of block b1. -/
structure OutS (N0 b1 : Nat) (v : Value) (ps : List (En × Value × Value)) (W : World) : Prop where
  st : Blk W b1 [v]
  own : W.ownsRow N0 30 9 v ps.length (flatE ps)
  rows : RowsOk ps W
  off : ∀ q ∈ ps, ∀ b, v.ownBlock = some b → OffQ b q
  nw : ∀ q ∈ ps, NewB N0 q.2.1 ∧ NewB N0 q.2.2
theorem OutS.bt {N0 b1 : Nat} {v : Value} {ps : List (En × Value × Value)} {S : Nat → Prop} {W W' : World} (h : OutS N0 b1 v ps W) (bt : Bt S W W') (h1 : ¬ S b1) (h2 : ∀ b, N0 ≤ b → (∃ k x, W.cell? ⟨b, k, none⟩ = some x) → ¬ S b) (h3 : ∀ b, v.ownBlock = some b → ¬ S b) : OutS N0 b1 v ps W' := by
  refine ⟨bt.blk h.st h1, bt.own h.own h3, fun q hq => ?_, h.off, h.nw⟩
  have key : ∀ {cs : List Value} {u : Value}, isCells cs u W → NewB N0 u → cs = [] ∨ ∀ b, blk u = some b → ¬ S b := by
    intro cs u hc hn
    by_cases e : cs = []
    · exact .inl e
    · refine .inr (fun b hb => ?_)
      rcases hc with ⟨_, e'⟩ | ⟨_, _, _, e'⟩ | ⟨b', off, cap, eu, hlt, hcc⟩
      · exact absurd e' e
      · exact absurd e' e
      · rw [eu] at hb
        injection hb with hb
        have hbb : b' = b := hb
        subst hbb
        obtain ⟨x, r, rfl⟩ := List.exists_cons_of_ne_nil e
        exact h2 b' (hn b' (by rw [eu]; rfl)) ⟨off + 0, x, hcc 0 x rfl⟩
  exact ⟨bt.cells (h.rows q hq).1 (key (h.rows q hq).1 (h.nw q hq).1), bt.cells (h.rows q hq).2 (key (h.rows q hq).2 (h.nw q hq).2)⟩
theorem OutS.keep {N0 b1 : Nat} {v : Value} {ps : List (En × Value × Value)} {W W' : World} (h : OutS N0 b1 v ps W) (hb : Below W.heap.size W W') : OutS N0 b1 v ps W' :=
  ⟨h.st.keep hb, own_grow h.own hb, fun q hq => ⟨stable_cells _ _ _ _ (h.rows q hq).1 hb, stable_cells _ _ _ _ (h.rows q hq).2 hb⟩, h.off, h.nw⟩
theorem OutS.push {N0 b1 : Nat} {vs : Value} {ps : List (En × Value × Value)} {w w' : World} (h : OutS N0 b1 vs ps w) (hb1 : b1 < N0) (hN : N0 ≤ w.heap.size) (E : En) (v vp vm : Value)
    (h1 : w'.ownsRow N0 30 9 v (ps.length + 1) (flatE ps ++ enL E vp vm)) (h2 : isCells (E.val.plus.map intC) vp w') (h3 : isCells (E.val.minus.map intC) vm w') (h4 : NewB w.heap.size vp) (h5 : NewB w.heap.size vm) (h6 : v.ownBlock = vs.ownBlock ∨ NewB w.heap.size v) (h7 : ∀ b, v.ownBlock = some b → (E.val.plus.map intC = [] ∨ blk vp ≠ some b) ∧ (E.val.minus.map intC = [] ∨ blk vm ≠ some b)) (h8 : Blk w' b1 [v]) (h9 : Bt (fun b => b = b1 ∨ vs.ownBlock = some b) w w') : OutS N0 b1 v (ps ++ [(E, vp, vm)]) w' := by
  refine ⟨h8, by rw [List.length_append, flatE_snoc]; exact h1, fun q hq => ?_, fun q hq b hb => ?_, fun q hq => (List.mem_append.1 hq).elim (h.nw q) (fun hq => by rw [List.mem_singleton] at hq; subst hq; exact ⟨h4.low hN, h5.low hN⟩)⟩
  · rcases List.mem_append.1 hq with hq | hq
    · have o := h.off q hq
      have nw := h.nw q hq
      refine ⟨h9.cells (h.rows q hq).1 ?_, h9.cells (h.rows q hq).2 ?_⟩
      · by_cases e : q.1.val.plus.map intC = []
        · exact .inl e
        · exact .inr (fun b hb hS => by rcases hS with rfl | hS; (· have := nw.1 _ hb; omega); (· exact ((o b hS).1.resolve_left e) hb))
      · by_cases e : q.1.val.minus.map intC = []
        · exact .inl e
        · exact .inr (fun b hb hS => by rcases hS with rfl | hS; (· have := nw.2 _ hb; omega); (· exact ((o b hS).2.resolve_left e) hb))
    · rw [List.mem_singleton] at hq
      subst hq
      exact ⟨h2, h3⟩
  · rcases List.mem_append.1 hq with hq | hq
    · rcases h6 with e | e
      · exact h.off q hq b (by rw [← e]; exact hb)
      · have hbn := e b (own_blk_eq hb)
        refine ⟨(cells_lt (h.rows q hq).1).imp id (fun h3 e3 => ?_), (cells_lt (h.rows q hq).2).imp id (fun h3 e3 => ?_)⟩
        · have := h3 b e3; omega
        · have := h3 b e3; omega
    · rw [List.mem_singleton] at hq
      subst hq
      exact h7 b hb
theorem OutS.ens {N0 b1 : Nat} {v : Value} {ps : List (En × Value × Value)} {W : World} (h : OutS N0 b1 v ps W) : isEns (ps.map (·.1)) v W := own_ens h.own h.rows
theorem cell_cells {W : World} {b k : Nat} {x : Value} (h : W.cell? ⟨b, k, none⟩ = some x) {o : Obj} (ho : W.heap[b]? = some o) : o.isCells = true := by
  cases o <;> first | rfl | (simp [World.cell?, ho] at h)
/-- A step of the loop's own. -/
theorem out_own {B N0 b1 : Nat} (hb : b1 < B) : ∀ {v ps W W' row}, OutS N0 b1 v ps W → W.grownBy W' row → (∀ r, row = some r → B ≤ r ∧ ∃ o : Obj, W.heap[r]? = some o ∧ o.isCells = false) → OutS N0 b1 v ps W' := by
  intro v ps W W' row h hg hr
  have bt : Bt (fun b => row = some b) W W' := gb_bt hg (fun b e => e)
  refine h.bt bt (fun e => by have := (hr _ e).1; omega) (fun b _ ⟨k, x, hx⟩ e => ?_) (fun b hb e => ?_)
  · obtain ⟨_, o, ho, hc⟩ := hr b e
    rw [cell_cells hx ho] at hc; cases hc
  · obtain ⟨_, o, ho, hc⟩ := hr b e
    obtain ⟨_, ⟨rfl, _⟩ | ⟨g, cap, cur, rfl, _, hg', _⟩⟩ := h.own
    · cases hb
    · have : g = b := by injection hb
      subst this
      rw [hg'] at ho
      injection ho with ho
      subst ho
      cases hc
theorem blk_own {B h : Nat} {cs : List Value} (hne : cs ≠ []) {W W' : World} {row : Option Nat} (hb : Blk W h cs) (hg : W.grownBy W' row) (hr : ∀ r, row = some r → B ≤ r ∧ ∃ o : Obj, W.heap[r]? = some o ∧ o.isCells = false) : Blk W' h cs := by
  have bt : Bt (fun b => row = some b) W W' := gb_bt hg (fun b e => e)
  refine bt.blk hb (fun e => ?_)
  obtain ⟨_, o, ho, hc⟩ := hr h e
  obtain ⟨x, r, rfl⟩ := List.exists_cons_of_ne_nil hne
  rw [cell_cells (hb.cells.2 0 x rfl) ho] at hc; cases hc
theorem kpA_put (n0 Bs m : Nat) (h0 : n0 ≤ m) (hb : Bs < m) (W : World) (l : Nat) (o o' : Obj) (h : m ≤ l) (h1 : W.heap[l]? = some o) (h2 : o.isCells = false) (h3 : o.isWalk = false) : KpA n0 Bs W (W.putObj l o') := by
  have hg := grownBy_putObj' W l o'
  exact ⟨hg.size, fun b hb' => hg.block b (by have := (Array.getElem?_eq_some_iff.1 h1).1; omega) (by intro e; injection e with e; omega)⟩
noncomputable def alappOps : Array Oper := regionOfR Tryz.f42 4
set_option maxRecDepth 100000 in
set_option maxHeartbeats 2000000 in
theorem alapp_region {lp nn : Nat} (Q : Exit → Act → World → Prop) (a0 : Act) (w0 : World) (hQo : ¬ LetsOut Q) (hsz : a0.tmps.size = 16) (g h B n : Nat) (l : List Value) (E : En) (vs ep em : Value) (xs : List Value) (e1 : a0.tmps.getD 3 undef = .pointer (some ⟨g, 0, none⟩)) (e2 : a0.tmps.getD 5 undef = .pointer (some ⟨h, 0, none⟩))
    (HG : Blk w0 g l) (hl : l[0]? = some vs) (hE : Blk w0 h [.string ⟨E.key.toArray⟩, .int .i64 E.val.kind, .int .i64 E.val.time, .int .i64 E.val.node, .bool E.val.dead, .string ⟨E.val.text.toArray⟩, ep, em, .int .u64 (E.val.flags.toNat : Int)]) (hp : isCells (E.val.plus.map intC) ep w0) (hm : isCells (E.val.minus.map intC) em w0) (hF : FitE E) (hown : w0.ownsRow B 30 9 vs n xs) (hn : n ≤ 1000) (hB : B ≤ w0.heap.size)
    (hap : ∀ s, vs.ownBlock = some s → s ≠ g ∧ s ≠ h ∧ (E.val.plus.map intC = [] ∨ blk ep ≠ some s) ∧ (E.val.minus.map intC = [] ∨ blk em ≠ some s))
    (hQ : ∀ (y : Nat → Value) (v vp vm : Value) (w : World), w.ownsRow B 30 9 v (n + 1) (xs ++ enL E vp vm) → isCells (E.val.plus.map intC) vp w → isCells (E.val.minus.map intC) vm w → NewB w0.heap.size vp → NewB w0.heap.size vm → (v.ownBlock = vs.ownBlock ∨ NewB w0.heap.size v) → (∀ b, v.ownBlock = some b → (E.val.plus.map intC = [] ∨ blk vp ≠ some b) ∧ (E.val.minus.map intC = [] ∨ blk vm ≠ some b)) → Blk w g (l.set 0 v) → Bt (fun b => b = g ∨ vs.ownBlock = some b) w0 w →
      Q .normal { tmps := [10, 11, 12, 13, 14].foldl (fun t s => t.setIfInBounds s (y s)) a0.tmps, defers := a0.defers } w) :
    (Code.region 4 alappOps true).wpIn (Fence.wide.inRound lp) nn Tryz.prog Q a0 w0 := by
  obtain ⟨r, hr0⟩ : ∃ r, vs.ownBlock = r := ⟨_, rfl⟩
  have hcell : w0.cell? ⟨g, 0, none⟩ = some vs := HG.cells.2 _ _ hl
  have hg := HG.lt
  have hgr : r ≠ some g := by intro e; exact (hap g (hr0.trans e)).1 rfl
  have hhr : r ≠ some h := by intro e; exact (hap h (hr0.trans e)).2.1 rfl
  have opr : E.val.plus.map intC = [] ∨ ∀ s, r = some s → blk ep ≠ some s := by
    cases r with
    | none => exact .inr (fun s e => by cases e)
    | some s => exact (hap s hr0).2.2.1.imp id (fun h s' e => by cases e; exact h)
  have omr : E.val.minus.map intC = [] ∨ ∀ s, r = some s → blk em ≠ some s := by
    cases r with
    | none => exact .inr (fun s e => by cases e)
    | some s => exact (hap s hr0).2.2.2.imp id (fun h s' e => by cases e; exact h)
  have hre : vs.ownBlock = r := hr0
  have hrN : ∀ s, r = some s → s < w0.heap.size := fun s e => (hown.lt s (hr0.trans e)).2
  have hR := gb_pre r
  refine wpIn_region_one (by kernel_rfl) hQo hR 4 [] (fun w => w.ownsRow B 30 9 vs n xs) (by kernel_rfl) (fun _ _ h hb => own_grow h hb) (fun _ h => own_grow h ((Below.refl _ _).drew)) 5 mixed (by rw [hsz]; kernel_rfl) (by kernel_rfl) hown ?_
  rw [show alappOps.size - 5 = 1 by kernel_rfl]
  refine ⟨isVal vs, OStep.of hR (by decide) (stabR_val' _ _) (by kernel_rfl) (by intro w hr; exact step_read 22 (.tmp 3) ⟨g, 0, none⟩ vs (by kernel_rfl) (wanted_none (by kernel_rfl)) (knows_old 3 (.pointer (some ⟨g, 0, none⟩)) (by kernel_rfl) e1) ((hr.cell_ hcell hg hgr)) ((Nat.lt_of_lt_of_le hg hr.size)) (agg_noS)), ?_⟩
  refine ⟨isVal (.agg #[.string ⟨E.key.toArray⟩, .int .i64 E.val.kind, .int .i64 E.val.time, .int .i64 E.val.node, .bool E.val.dead, .string ⟨E.val.text.toArray⟩, ep, em, .int .u64 (E.val.flags.toNat : Int)]), OStep.of hR (by decide) (stabR_val' _ _) (by kernel_rfl) (by intro w hr; exact step_loadA 30 (.tmp 5) (h) (0) [.string ⟨E.key.toArray⟩, .int .i64 E.val.kind, .int .i64 E.val.time, .int .i64 E.val.node, .bool E.val.dead, .string ⟨E.val.text.toArray⟩, ep, em, .int .u64 (E.val.flags.toNat : Int)] (by kernel_rfl) (wanted_none (by kernel_rfl)) (knows_old 5 (.pointer (some ⟨h, 0, none⟩)) (by kernel_rfl) e2) size_en agg_en (⟨Nat.lt_of_lt_of_le hE.lt hr.size, fun j x hx => by rw [Nat.zero_add]; exact hr.cell_ (hE.cells.2 j x hx) hE.lt hhr⟩)), ?_⟩
  refine ⟨(isEnN w0.heap.size E), OStep.of hR (by decide) (enN_R hrN _) (by kernel_rfl) (by intro w hr; exact step_call 90 #[.tmp 11] #[30] #[.agg #[.string ⟨E.key.toArray⟩, .int .i64 E.val.kind, .int .i64 E.val.time, .int .i64 E.val.node, .bool E.val.dead, .string ⟨E.val.text.toArray⟩, ep, em, .int .u64 (E.val.flags.toNat : Int)]] (by kernel_rfl) (wanted_none (by kernel_rfl)) (stable_enN _ _) (args1 (.tmp 11) (.agg #[.string ⟨E.key.toArray⟩, .int .i64 E.val.kind, .int .i64 E.val.time, .int .i64 E.val.node, .bool E.val.dead, .string ⟨E.val.text.toArray⟩, ep, em, .int .u64 (E.val.flags.toNat : Int)]) (knows_new (V := isVal (.agg #[.string ⟨E.key.toArray⟩, .int .i64 E.val.kind, .int .i64 E.val.time, .int .i64 E.val.node, .bool E.val.dead, .string ⟨E.val.text.toArray⟩, ep, em, .int .u64 (E.val.flags.toNat : Int)])) 11 1 (by kernel_rfl) (by kernel_rfl) (by kernel_rfl))) (enters_of Tryz.func90 (by kernel_rfl) rfl) (by intro w' hb; exact twin_at w0.heap.size E _ w' (en_mk (hr.cells hp opr) (hr.cells hm omr) hb) hF (Nat.le_trans hr.size hb.size))), ?_⟩
  refine ⟨(isEn1 w0.heap.size E), OStep.of hR (by decide) (en1_R hrN _) (by kernel_rfl) (by intro w hr; exact step_ent1 w0.heap.size (.tmp 12) E (by kernel_rfl) (wanted_none (by kernel_rfl)) (knows_new (V := (isEnN w0.heap.size E)) 12 2 (by kernel_rfl) (by kernel_rfl) (by kernel_rfl)) (hr.size)), ?_⟩
  refine ⟨isApp B w0.heap.size r E n xs, ostep_app B w0.heap.size r E vs n xs (.tmp 10) (.tmp 13) (by kernel_rfl) (knows_new (V := isVal vs) 10 0 (by kernel_rfl) (by kernel_rfl) (by kernel_rfl)) (knows_new (V := (isEn1 w0.heap.size E)) 13 3 (by kernel_rfl) (by kernel_rfl) (by kernel_rfl)) hn hB hre hrN (Nat.le_refl _) (by kernel_rfl), ?_⟩
  intro a w hk0 hb hd
  have da := fdone_of (rdone_f (hd 4 (by decide))) (t := 14) (V := isApp B w0.heap.size r E n xs) (by kernel_rfl) (by kernel_rfl)
  have dp : a.tmps.getD 3 undef = .pointer (some ⟨g, 0, none⟩) := (hk0.2.2 3 (by kernel_rfl)).trans e1
  generalize hv : a.tmps.getD 14 undef = v at da
  obtain ⟨vp, vm, h1, h2, h3, h4, h5, h6, h7⟩ := da
  have hgw : g < w.heap.size := Nat.lt_of_lt_of_le hg hb.size
  have hvg : v.ownBlock ≠ some g := by
    rcases h6 with h6 | h6
    · rw [h6]; exact hgr
    · intro e; have := h6 g (own_blk_eq e); omega
  have ng : ∀ {cs : List Value} {u : Value}, NewB w0.heap.size u → cs = [] ∨ blk u ≠ some g := fun h => .inr (h.ne hg)
  have HG' : Blk w g l := ⟨⟨hgw, fun j x hx => hb.cell_ (HG.cells.2 j x hx) hg hgr⟩, fun j => (hb.frozen_ hg hgr).trans (HG.free j)⟩
  refine tail_store 22 (.tmp 3) (.tmp 14) ⟨g, 0, none⟩ v vs (by kernel_rfl) (by kernel_rfl) dp hv (by kernel_rfl) (own_one h1).1 (own_one h1).2 (HG'.cells.2 _ _ hl) (HG'.free 0) ?_
  obtain ⟨y, ey⟩ := kept_ex hk0.f [some 10, some 11, some 12, some 13, some 14, none] [10, 11, 12, 13, 14] (by kernel_rfl) (by decide)
  rw [ey]
  have hll : 0 < l.length := (List.getElem?_eq_some_iff.1 hl).1
  exact hQ y v vp vm _ (own_set h1 hvg) (cells_set h2 (ng h4)) (cells_set h3 (ng h5)) h4 h5 (h6.imp (fun e => e.trans hr0.symm) id) h7 (HG'.set 0 v hll) ((gb_bt hb (fun b e => .inr (hr0.trans e))).trans (bt_set g 0 v w (.inl rfl)))
noncomputable def ckappOps : Array Oper := regionOfR Tryz.f46 8
set_option maxRecDepth 100000 in
set_option maxHeartbeats 2000000 in
theorem ckapp_region {lp nn : Nat} (Q : Exit → Act → World → Prop) (a0 : Act) (w0 : World) (hQo : ¬ LetsOut Q) (hsz : a0.tmps.size = 31) (g h B n : Nat) (l : List Value) (E : En) (vs ep em : Value) (xs : List Value) (e1 : a0.tmps.getD 7 undef = .pointer (some ⟨g, 0, none⟩)) (e2 : a0.tmps.getD 9 undef = .pointer (some ⟨h, 0, none⟩))
    (HG : Blk w0 g l) (hl : l[0]? = some vs) (hE : Blk w0 h [.string ⟨E.key.toArray⟩, .int .i64 E.val.kind, .int .i64 E.val.time, .int .i64 E.val.node, .bool E.val.dead, .string ⟨E.val.text.toArray⟩, ep, em, .int .u64 (E.val.flags.toNat : Int)]) (hp : isCells (E.val.plus.map intC) ep w0) (hm : isCells (E.val.minus.map intC) em w0) (hF : FitE E) (hown : w0.ownsRow B 30 9 vs n xs) (hn : n ≤ 1000) (hB : B ≤ w0.heap.size)
    (hap : ∀ s, vs.ownBlock = some s → s ≠ g ∧ s ≠ h ∧ (E.val.plus.map intC = [] ∨ blk ep ≠ some s) ∧ (E.val.minus.map intC = [] ∨ blk em ≠ some s))
    (hQ : ∀ (y : Nat → Value) (v vp vm : Value) (w : World), w.ownsRow B 30 9 v (n + 1) (xs ++ enL E vp vm) → isCells (E.val.plus.map intC) vp w → isCells (E.val.minus.map intC) vm w → NewB w0.heap.size vp → NewB w0.heap.size vm → (v.ownBlock = vs.ownBlock ∨ NewB w0.heap.size v) → (∀ b, v.ownBlock = some b → (E.val.plus.map intC = [] ∨ blk vp ≠ some b) ∧ (E.val.minus.map intC = [] ∨ blk vm ≠ some b)) → Blk w g (l.set 0 v) → Bt (fun b => b = g ∨ vs.ownBlock = some b) w0 w →
      Q .normal { tmps := [25, 26, 27, 28, 29].foldl (fun t s => t.setIfInBounds s (y s)) a0.tmps, defers := a0.defers } w) :
    (Code.region 8 ckappOps true).wpIn (Fence.wide.inRound lp) nn Tryz.prog Q a0 w0 := by
  obtain ⟨r, hr0⟩ : ∃ r, vs.ownBlock = r := ⟨_, rfl⟩
  have hcell : w0.cell? ⟨g, 0, none⟩ = some vs := HG.cells.2 _ _ hl
  have hg := HG.lt
  have hgr : r ≠ some g := by intro e; exact (hap g (hr0.trans e)).1 rfl
  have hhr : r ≠ some h := by intro e; exact (hap h (hr0.trans e)).2.1 rfl
  have opr : E.val.plus.map intC = [] ∨ ∀ s, r = some s → blk ep ≠ some s := by
    cases r with
    | none => exact .inr (fun s e => by cases e)
    | some s => exact (hap s hr0).2.2.1.imp id (fun h s' e => by cases e; exact h)
  have omr : E.val.minus.map intC = [] ∨ ∀ s, r = some s → blk em ≠ some s := by
    cases r with
    | none => exact .inr (fun s e => by cases e)
    | some s => exact (hap s hr0).2.2.2.imp id (fun h s' e => by cases e; exact h)
  have hre : vs.ownBlock = r := hr0
  have hrN : ∀ s, r = some s → s < w0.heap.size := fun s e => (hown.lt s (hr0.trans e)).2
  have hR := gb_pre r
  refine wpIn_region_one (by kernel_rfl) hQo hR 4 [] (fun w => w.ownsRow B 30 9 vs n xs) (by kernel_rfl) (fun _ _ h hb => own_grow h hb) (fun _ h => own_grow h ((Below.refl _ _).drew)) 5 mixed (by rw [hsz]; kernel_rfl) (by kernel_rfl) hown ?_
  rw [show ckappOps.size - 5 = 1 by kernel_rfl]
  refine ⟨isVal vs, OStep.of hR (by decide) (stabR_val' _ _) (by kernel_rfl) (by intro w hr; exact step_read 22 (.tmp 7) ⟨g, 0, none⟩ vs (by kernel_rfl) (wanted_none (by kernel_rfl)) (knows_old 7 (.pointer (some ⟨g, 0, none⟩)) (by kernel_rfl) e1) ((hr.cell_ hcell hg hgr)) ((Nat.lt_of_lt_of_le hg hr.size)) (agg_noS)), ?_⟩
  refine ⟨isVal (.agg #[.string ⟨E.key.toArray⟩, .int .i64 E.val.kind, .int .i64 E.val.time, .int .i64 E.val.node, .bool E.val.dead, .string ⟨E.val.text.toArray⟩, ep, em, .int .u64 (E.val.flags.toNat : Int)]), OStep.of hR (by decide) (stabR_val' _ _) (by kernel_rfl) (by intro w hr; exact step_loadA 30 (.tmp 9) (h) (0) [.string ⟨E.key.toArray⟩, .int .i64 E.val.kind, .int .i64 E.val.time, .int .i64 E.val.node, .bool E.val.dead, .string ⟨E.val.text.toArray⟩, ep, em, .int .u64 (E.val.flags.toNat : Int)] (by kernel_rfl) (wanted_none (by kernel_rfl)) (knows_old 9 (.pointer (some ⟨h, 0, none⟩)) (by kernel_rfl) e2) size_en agg_en (⟨Nat.lt_of_lt_of_le hE.lt hr.size, fun j x hx => by rw [Nat.zero_add]; exact hr.cell_ (hE.cells.2 j x hx) hE.lt hhr⟩)), ?_⟩
  refine ⟨(isEnN w0.heap.size E), OStep.of hR (by decide) (enN_R hrN _) (by kernel_rfl) (by intro w hr; exact step_call 90 #[.tmp 26] #[30] #[.agg #[.string ⟨E.key.toArray⟩, .int .i64 E.val.kind, .int .i64 E.val.time, .int .i64 E.val.node, .bool E.val.dead, .string ⟨E.val.text.toArray⟩, ep, em, .int .u64 (E.val.flags.toNat : Int)]] (by kernel_rfl) (wanted_none (by kernel_rfl)) (stable_enN _ _) (args1 (.tmp 26) (.agg #[.string ⟨E.key.toArray⟩, .int .i64 E.val.kind, .int .i64 E.val.time, .int .i64 E.val.node, .bool E.val.dead, .string ⟨E.val.text.toArray⟩, ep, em, .int .u64 (E.val.flags.toNat : Int)]) (knows_new (V := isVal (.agg #[.string ⟨E.key.toArray⟩, .int .i64 E.val.kind, .int .i64 E.val.time, .int .i64 E.val.node, .bool E.val.dead, .string ⟨E.val.text.toArray⟩, ep, em, .int .u64 (E.val.flags.toNat : Int)])) 26 1 (by kernel_rfl) (by kernel_rfl) (by kernel_rfl))) (enters_of Tryz.func90 (by kernel_rfl) rfl) (by intro w' hb; exact twin_at w0.heap.size E _ w' (en_mk (hr.cells hp opr) (hr.cells hm omr) hb) hF (Nat.le_trans hr.size hb.size))), ?_⟩
  refine ⟨(isEn1 w0.heap.size E), OStep.of hR (by decide) (en1_R hrN _) (by kernel_rfl) (by intro w hr; exact step_ent1 w0.heap.size (.tmp 27) E (by kernel_rfl) (wanted_none (by kernel_rfl)) (knows_new (V := (isEnN w0.heap.size E)) 27 2 (by kernel_rfl) (by kernel_rfl) (by kernel_rfl)) (hr.size)), ?_⟩
  refine ⟨isApp B w0.heap.size r E n xs, ostep_app B w0.heap.size r E vs n xs (.tmp 25) (.tmp 28) (by kernel_rfl) (knows_new (V := isVal vs) 25 0 (by kernel_rfl) (by kernel_rfl) (by kernel_rfl)) (knows_new (V := (isEn1 w0.heap.size E)) 28 3 (by kernel_rfl) (by kernel_rfl) (by kernel_rfl)) hn hB hre hrN (Nat.le_refl _) (by kernel_rfl), ?_⟩
  intro a w hk0 hb hd
  have da := fdone_of (rdone_f (hd 4 (by decide))) (t := 29) (V := isApp B w0.heap.size r E n xs) (by kernel_rfl) (by kernel_rfl)
  have dp : a.tmps.getD 7 undef = .pointer (some ⟨g, 0, none⟩) := (hk0.2.2 7 (by kernel_rfl)).trans e1
  generalize hv : a.tmps.getD 29 undef = v at da
  obtain ⟨vp, vm, h1, h2, h3, h4, h5, h6, h7⟩ := da
  have hgw : g < w.heap.size := Nat.lt_of_lt_of_le hg hb.size
  have hvg : v.ownBlock ≠ some g := by
    rcases h6 with h6 | h6
    · rw [h6]; exact hgr
    · intro e; have := h6 g (own_blk_eq e); omega
  have ng : ∀ {cs : List Value} {u : Value}, NewB w0.heap.size u → cs = [] ∨ blk u ≠ some g := fun h => .inr (h.ne hg)
  have HG' : Blk w g l := ⟨⟨hgw, fun j x hx => hb.cell_ (HG.cells.2 j x hx) hg hgr⟩, fun j => (hb.frozen_ hg hgr).trans (HG.free j)⟩
  refine tail_store 22 (.tmp 7) (.tmp 29) ⟨g, 0, none⟩ v vs (by kernel_rfl) (by kernel_rfl) dp hv (by kernel_rfl) (own_one h1).1 (own_one h1).2 (HG'.cells.2 _ _ hl) (HG'.free 0) ?_
  obtain ⟨y, ey⟩ := kept_ex hk0.f [some 25, some 26, some 27, some 28, some 29, none] [25, 26, 27, 28, 29] (by kernel_rfl) (by decide)
  rw [ey]
  have hll : 0 < l.length := (List.getElem?_eq_some_iff.1 hl).1
  exact hQ y v vp vm _ (own_set h1 hvg) (cells_set h2 (ng h4)) (cells_set h3 (ng h5)) h4 h5 (h6.imp (fun e => e.trans hr0.symm) id) h7 (HG'.set 0 v hll) ((gb_bt hb (fun b e => .inr (hr0.trans e))).trans (bt_set g 0 v w (.inl rfl)))
end Go.Proofs.YtbgconagkgfplaaGreat
end
