/- The greater ones, place by place: the document's own way. -/
import Derived.Test.YtnjlefciekcehaaVaRef2
import Derived.Test.YtnjlefciekcehaaFlowCov
import Derived.Test.YtnjlefciekcehaaFlowMax
namespace Go.Proofs.Ytnjlefciekcehaa
open Go.RowKit
set_option linter.unusedVariables false
set_option linter.unusedSimpArgs false

section
variable {P : Program} {ops : Array Oper} {base : World} {a0 : Act} {Q : Exit → Act → World → Prop} {kn : Nat → VP} {i : Nat} {V : VP}
theorem step_int1 (t e : TypeId) (x : Operand) (a1 : Int) (ie : TypeInfo) (hop : (ops[i]?).map (·.op) = some (.buildSlice t 1 #[(0, x)])) (hw : Wanted ops a0 kn i) (h0 : Knows ops a0 kn i x (isVal (.int .i64 a1)))
    (hu : P.underlying t = some (.slice e)) (hie : P.info? e = some ie) (hz : ie.zero = some (.int .i64 0)) (hsz : ie.size = 1) : FStep P ops base a0 Q kn i (isCells [intC a1]) :=
  step_mk (stable_cells _) hw fun o ho a w hk hb hd => by
    have e0 : a.eval x = intC a1 := h0 a w hk hd
    have hf : Instr.fill (fun i => some (i * ie.size, ie.size)) ((Array.range (1 * ie.size)).map ((Value.int .i64 0).cells[· % (Value.int .i64 0).cells.size]!)) ((#[(0, x)] : Array (Nat × Operand)).map fun (i, x) => (i, a.eval x)).toList = some #[intC a1] := by
      have e1 : ((#[(0, x)] : Array (Nat × Operand)).map fun (i, x) => (i, a.eval x)).toList = (([intC a1] : List Value).zipIdx 0).map fun x => (x.2, x.1) := by simp [e0]
      rw [e1, hsz, Great.fill_flat _ _ (fun v hv => by simp only [List.mem_cons, List.not_mem_nil, or_false] at hv; subst hv; rfl) (by simp)]
    refine wp_buildSlice t e 1 _ (op_of hop ho) _ ie (.int .i64 0) hu hie hz (by rw [hsz]; omega) (by rw [hsz]; omega) hf ?_
    refine ⟨_, rfl, .inr (.inr ⟨w.heap.size, 0, 1, rfl, by simp, fun j v hv => ?_⟩), (Below.refl _ _).alloc (Nat.le_refl _) _⟩
    rw [World.cell?_alloc_new]
    simpa using hv
end
theorem ownsRow_grow {W W' : World} {n₀ : Nat} {e : TypeId} {size : Nat} {v : Value} {k : Nat} {xs : List Value} (h : W.ownsRow n₀ e size v k xs) (hb : Below W.heap.size W W') : W'.ownsRow n₀ e size v k xs := by
  obtain ⟨hl, h | ⟨g, cap, cur, hv, hB, hg, rest⟩⟩ := h
  · exact ⟨hl, .inl h⟩
  · exact ⟨hl, .inr ⟨g, cap, cur, hv, hB, (hb.block g (Array.getElem?_eq_some_iff.1 hg).1).trans hg, rest⟩⟩
theorem ownsRow_at {w : World} {base : Nat} {e : TypeId} {z : Nat} {v : Value} {k : Nat} {xs : List Value} (h : w.ownsRow base e z v k xs) : ∀ j, v.ownBlock = some j → base ≤ j := by
  intro j hj
  obtain ⟨_, ⟨rfl, _⟩ | ⟨g, cap, cur, rfl, hB, _⟩⟩ := h
  · simp [Value.ownBlock] at hj
  · simp [Value.ownBlock] at hj; omega
noncomputable def mostOps : Array Oper := regionOf Try.f29 5
set_option maxRecDepth 100000 in
set_option maxHeartbeats 2000000 in
theorem most_region (Q : Exit → Act → World → Prop) (a0 : Act) (w0 : World) (hsz : a0.tmps.size = 26) (B : Nat) (v0 : Value) (xs : List Int) (b1 o1 c1 b2 o2 c2 n k : Nat) (x y : Int) (e5 : a0.tmps.getD 5 undef = v0) (e0 : a0.tmps.getD 0 undef = (.slice (some ⟨b1, o1, none⟩) n c1)) (e1 : a0.tmps.getD 1 undef = (.slice (some ⟨b2, o2, none⟩) n c2)) (e6 : a0.tmps.getD 6 undef = .int .i64 (k : Int)) (hk : k < n)
    (p1 : w0.cell? ⟨b1, o1 + k, none⟩ = some (.int .i64 x)) (l1 : b1 < w0.heap.size) (p2 : w0.cell? ⟨b2, o2 + k, none⟩ = some (.int .i64 y)) (l2 : b2 < w0.heap.size) (hown : w0.ownsRow B 3 1 v0 xs.length (xs.map intC)) (hx : xs.length ≤ 1000000) (hBs : B ≤ w0.heap.size)
    (hQ : ∀ (f : Nat → Value) (w1 : World), f 5 = f 24 → w1.ownsRow B 3 1 (f 24) (xs ++ [maxI x y]).length ((xs ++ [maxI x y]).map intC) → Below B w0 w1 → Q .normal { tmps := [13, 14, 15, 16, 17, 18, 19, 20, 21, 22, 23, 24, 5].foldl (fun t s => t.setIfInBounds s (f s)) a0.tmps, defers := a0.defers } w1) :
    (Code.region 5 mostOps true).wp Try.prog Q a0 w0 := by
  obtain ⟨iint, hiint, hzint, hsint, hbint⟩ := info_parts Try.infoInt
  refine wp_region_relC grows_pre 11 mixed (by rw [hsz]; kernel_rfl) (by kernel_rfl) ?_
  rw [show mostOps.size - 11 = 2 by kernel_rfl]
  refine ⟨isVal v0, RStep.old 5 v0 (by kernel_rfl) (by kernel_rfl) (by kernel_rfl) e5, ?_⟩
  refine ⟨isVal (.slice (some ⟨b1, o1, none⟩) n c1), RStep.of grows_pre (stable_val _) (by kernel_rfl) (by intro w hbw; exact step_move (.tmp 0) (by kernel_rfl) (wanted_none (by kernel_rfl)) (stable_val _) (knows_old 0 (.slice (some ⟨b1, o1, none⟩) n c1) (by kernel_rfl) e0)), ?_⟩
  refine ⟨isVal (.int .i64 (k : Int)), RStep.of grows_pre (stable_val _) (by kernel_rfl) (by intro w hbw; exact step_move (.tmp 6) (by kernel_rfl) (wanted_none (by kernel_rfl)) (stable_val _) (knows_old 6 (.int .i64 (k : Int)) (by kernel_rfl) e6)), ?_⟩
  refine ⟨isVal (.pointer (some ⟨b1, o1 + k, none⟩)), RStep.of grows_pre (stable_val _) (by kernel_rfl) (by intro w hbw; exact step_place 22 3 (.tmp 14) (.tmp 15) b1 o1 n c1 k (by kernel_rfl) (wanted_none (by kernel_rfl)) (knows_new (V := isVal (.slice (some ⟨b1, o1, none⟩) n c1)) 14 1 (by kernel_rfl) (by kernel_rfl) (by kernel_rfl)) (knows_new (V := isVal (.int .i64 (k : Int))) 15 2 (by kernel_rfl) (by kernel_rfl) (by kernel_rfl)) Try.underlying22 (by kernel_rfl) hk), ?_⟩
  refine ⟨isVal (.int .i64 x), RStep.of grows_pre (stable_val _) (by kernel_rfl) (by intro w hbw; exact step_read 3 (.tmp 16) ⟨b1, o1 + k, none⟩ (.int .i64 x) (by kernel_rfl) (wanted_none (by kernel_rfl)) (knows_new (V := isVal (.pointer (some ⟨b1, o1 + k, none⟩))) 16 3 (by kernel_rfl) (by kernel_rfl) (by kernel_rfl)) ((hbw.cell (p := ⟨b1, o1 + k, none⟩) l1).trans p1) (Nat.lt_of_lt_of_le l1 hbw.size) agg_int), ?_⟩
  refine ⟨isVal (.slice (some ⟨b2, o2, none⟩) n c2), RStep.of grows_pre (stable_val _) (by kernel_rfl) (by intro w hbw; exact step_move (.tmp 1) (by kernel_rfl) (wanted_none (by kernel_rfl)) (stable_val _) (knows_old 1 (.slice (some ⟨b2, o2, none⟩) n c2) (by kernel_rfl) e1)), ?_⟩
  refine ⟨isVal (.int .i64 (k : Int)), RStep.of grows_pre (stable_val _) (by kernel_rfl) (by intro w hbw; exact step_move (.tmp 6) (by kernel_rfl) (wanted_none (by kernel_rfl)) (stable_val _) (knows_old 6 (.int .i64 (k : Int)) (by kernel_rfl) e6)), ?_⟩
  refine ⟨isVal (.pointer (some ⟨b2, o2 + k, none⟩)), RStep.of grows_pre (stable_val _) (by kernel_rfl) (by intro w hbw; exact step_place 22 3 (.tmp 18) (.tmp 19) b2 o2 n c2 k (by kernel_rfl) (wanted_none (by kernel_rfl)) (knows_new (V := isVal (.slice (some ⟨b2, o2, none⟩) n c2)) 18 5 (by kernel_rfl) (by kernel_rfl) (by kernel_rfl)) (knows_new (V := isVal (.int .i64 (k : Int))) 19 6 (by kernel_rfl) (by kernel_rfl) (by kernel_rfl)) Try.underlying22 (by kernel_rfl) hk), ?_⟩
  refine ⟨isVal (.int .i64 y), RStep.of grows_pre (stable_val _) (by kernel_rfl) (by intro w hbw; exact step_read 3 (.tmp 20) ⟨b2, o2 + k, none⟩ (.int .i64 y) (by kernel_rfl) (wanted_none (by kernel_rfl)) (knows_new (V := isVal (.pointer (some ⟨b2, o2 + k, none⟩))) 20 7 (by kernel_rfl) (by kernel_rfl) (by kernel_rfl)) ((hbw.cell (p := ⟨b2, o2 + k, none⟩) l2).trans p2) (Nat.lt_of_lt_of_le l2 hbw.size) agg_int), ?_⟩
  refine ⟨isVal (.int .i64 (maxI x y)), RStep.of grows_pre (stable_val _) (by kernel_rfl) (by intro w hbw; exact step_max .i64 3 3 (.tmp 17) (.tmp 21) x y (maxI x y) (by kernel_rfl) (wanted_none (by kernel_rfl)) (knows_new (V := isVal (.int .i64 x)) 17 4 (by kernel_rfl) (by kernel_rfl) (by kernel_rfl)) (knows_new (V := isVal (.int .i64 y)) 21 8 (by kernel_rfl) (by kernel_rfl) (by kernel_rfl)) rfl), ?_⟩
  refine ⟨isCells [intC (maxI x y)], RStep.of grows_pre (stable_cells _) (by kernel_rfl) (by intro w hbw; exact step_int1 22 3 (.tmp 22) (maxI x y) iint (by kernel_rfl) (wanted_none (by kernel_rfl)) (knows_new (V := isVal (.int .i64 (maxI x y))) 22 9 (by kernel_rfl) (by kernel_rfl) (by kernel_rfl)) Try.underlying22 hiint hzint hsint), ?_⟩
  intro a w hk0 hb0 hd
  have hb : Below w0.heap.size w0 w := hb0
  have d13 := fdone_of (rdone_f (hd 0 (by decide))) (t := 13) (V := isVal v0) (by kernel_rfl) (by kernel_rfl)
  have d23 := fdone_of (rdone_f (hd 10 (by decide))) (t := 23) (V := isCells [intC (maxI x y)]) (by kernel_rfl) (by kernel_rfl)
  obtain ⟨bb, off, cap, hs23, hlt, hc⟩ := d23.some_ (by simp)
  have hown2 := ownsRow_grow hown hb
  have h24 : 24 < a.tmps.size := by rw [hk0.2.1, hsz]; decide
  refine tail_op (fun _ _ => True) (OP := .call { callee := .builtin .append, args := #[.tmp 13, .tmp 23], argTypes := #[22, 22] }) (by kernel_rfl) (fun o ho e => ?_)
  have hdst : o.dst = some 24 := by have : (mostOps[11]?).map (·.dst) = some (some 24) := by kernel_rfl
                                    rw [ho] at this; simpa using this
  refine wp_append_own _ (.tmp 13) (.tmp 23) 22 e B 3 iint (.int .i64 0) 1 8 Try.underlying22 hiint hzint hsint hbint rfl (by decide) v0 xs.length (xs.map intC) d13 hown2 ⟨bb, off, none⟩ 1 cap [intC (maxI x y)] hs23 rfl (fun j u hu => ?_) (fun u hu => by simp at hu; subst hu; rfl) (by unfold maxLen; omega) (by omega) (Nat.le_trans hBs hb.size) (fun v' w1 ho1 hgr _ => ?_)
  · have := hc j u hu
    by_cases e0 : j = 0
    · subst e0; simpa [Addr.add] using this
    · simpa [Addr.add, e0] using this
  rw [hdst]
  have hB1 : Below B w0 w1 := (hb.mono hBs).trans ((Below.refl B w).grown hgr (Nat.le_trans hBs hb.size) (ownsRow_at hown2))
  refine tail_op (fun _ _ => True) (OP := .assign (.tmp 24)) (by kernel_rfl) (fun o2 ho2 e2 => ?_)
  have hdst2 : o2.dst = some 5 := by have : (mostOps[12]?).map (·.dst) = some (some 5) := by kernel_rfl
                                     rw [ho2] at this; simpa using this
  have e24 : (a.put (some 24) v').tmps.getD 24 undef = v' := getD_put_self h24
  unfold Oper.wp execOp
  rw [e2]
  simp only [Oper.upon, Sem.run_pure, hdst2]
  show Tail Try.prog mostOps Q 0 13 (((a.put (some 24) v')).put (some 5) ((a.put (some 24) v').tmps.getD 24 undef)) w1
  rw [e24]
  have h5 : 5 < (a.put (some 24) v').tmps.size := by rw [size_put, hk0.2.1, hsz]; decide
  have f5 : ((a.put (some 24) v').put (some 5) v').tmps.getD 5 undef = v' := getD_put_self h5
  have f24 : ((a.put (some 24) v').put (some 5) v').tmps.getD 24 undef = v' := (getD_put (by decide)).trans e24
  show Q .normal ((a.put (some 24) v').put (some 5) v') w1
  have key := act_of (a := (a.put (some 24) v').put (some 5) v') (a0 := a0) (by rw [defers_put, defers_put]; exact hk0.1) (by rw [size_put, size_put]; exact hk0.2.1) [13, 14, 15, 16, 17, 18, 19, 20, 21, 22, 23, 24, 5] (fun t ht => by
    have n1 : t ≠ 5 := by rintro rfl; revert ht; decide
    have n2 : t ≠ 24 := by rintro rfl; revert ht; decide
    rw [getD_put n1, getD_put n2]
    refine hk0.2.2 t ?_
    have e13 : ((List.range 11).all fun i => (mostOps[i]?).all fun o => o.dst != some t) = ([13, 14, 15, 16, 17, 18, 19, 20, 21, 22, 23].all fun d => some d != some t) := by kernel_rfl
    rw [e13, List.all_eq_true]
    intro d hd'
    simp only [bne_iff_ne, ne_eq, Option.some.injEq]
    rintro rfl
    rw [List.contains_eq_mem] at ht
    simp only [decide_eq_false_iff_not] at ht
    exact ht (by simp only [List.mem_cons, List.not_mem_nil, or_false] at hd' ⊢; omega))
  rw [key]
  refine hQ (fun s => ((a.put (some 24) v').put (some 5) v').tmps.getD s undef) w1 (f5.trans f24.symm) ?_ hB1
  show w1.ownsRow B 3 1 (((a.put (some 24) v').put (some 5) v').tmps.getD 24 undef) _ _
  rw [f24]
  simpa using ho1
end Go.Proofs.Ytnjlefciekcehaa
