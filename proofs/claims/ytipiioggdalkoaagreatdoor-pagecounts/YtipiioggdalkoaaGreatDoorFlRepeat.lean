/- Contract of slices.Repeat of one text. -/
import Derived.Test.YtipiioggdalkoaaGreatDoorFlWake
import Derived.Laws.CopyRow
namespace Go.Proofs.YtipiioggdalkoaaGreatDoor
open Go.RowKit
set_option linter.unusedVariables false
set_option linter.unusedSimpArgs false

/-- One row may turn from cur to cur'. -/
structure Turn (g : Nat) (o o' : Obj) (w w' : World) : Prop where
  os : w'.os = w.os
  tape : w'.tape = w.tape
  output : w'.output = w.output
  size : w.heap.size ≤ w'.heap.size
  block : ∀ b, b < w.heap.size → b ≠ g → w'.heap[b]? = w.heap[b]?
  old : w.heap[g]? = some o → w'.heap[g]? = some o ∨ w'.heap[g]? = some o'
  new : w.heap[g]? = some o' → w'.heap[g]? = some o'
theorem turn_pre (g : Nat) (o o' : Obj) : Pre (Turn g o o') where
  refl w := ⟨rfl, rfl, rfl, Nat.le_refl _, fun _ _ _ => rfl, fun h => .inl h, fun h => h⟩
  trans a b c h1 h2 := ⟨h2.os.trans h1.os, h2.tape.trans h1.tape, h2.output.trans h1.output, Nat.le_trans h1.size h2.size, fun i hi hne => (h2.block i (Nat.lt_of_lt_of_le hi h1.size) hne).trans (h1.block i hi hne),
    fun h => by rcases h1.old h with h | h; exact h2.old h; exact .inr (h2.new h), fun h => h2.new (h1.new h)⟩
  grow w w' h := ⟨h.os, h.tape, h.output, h.size, fun b hb _ => h.block b hb, fun he => .inl ((h.block g (Array.getElem?_eq_some_iff.1 he).1).trans he), fun he => (h.block g (Array.getElem?_eq_some_iff.1 he).1).trans he⟩
  drew w := ⟨rfl, rfl, rfl, Nat.le_refl _, fun _ _ _ => rfl, fun h => .inl h, fun h => h⟩
def copied_ (g : Nat) (o' : Obj) (n : Int) : VP := fun v w => v = .int .i64 n ∧ w.heap[g]? = some o'
theorem stabR_copied (g : Nat) (o o' : Obj) (n : Int) : StableR (Turn g o o') (copied_ g o' n) := fun v w w' h hr => ⟨h.1, hr.new h.2⟩
/-- So many cells of a row are x; behind them what was there. -/
def repA (x : Value) (m : Nat) (cur : Array Value) : Array Value := (List.replicate m x ++ cur.toList.drop m).toArray
theorem repA_size (x : Value) (m : Nat) (cur : Array Value) (h : m ≤ cur.size) : (repA x m cur).size = cur.size := by simp [repA]; omega
theorem repA_twice (x : Value) (m k : Nat) (cur : Array Value) (h : m + k ≤ cur.size) : ((repA x m cur).toList.take m ++ List.replicate k x ++ (repA x m cur).toList.drop (m + k)).toArray = repA x (m + k) cur := by
  unfold repA
  congr 1
  simp only [List.take_append_of_le_length (l₁ := List.replicate m x) (by simp : m ≤ (List.replicate m x).length)]
  rw [List.take_of_length_le (by simp), List.drop_append, List.drop_of_length_le (by simp), List.nil_append, List.length_replicate, List.drop_drop, List.replicate_append_replicate]
  congr 2
  omega
noncomputable def repOps : Array Oper := regionOf Tryz.f60 9
section
variable {P : Program} {ops : Array Oper} {base : World} {a0 : Act} {Q : Exit → Act → World → Prop} {kn : Nat → VP} {i : Nat} {V : VP}
theorem step_part (t : TypeId) (x : Operand) (lo hi : Option Operand) (v : Value) (vl vh : Option Value) (r : Value) (hop : (ops[i]?).map (·.op) = some (.slice t x lo hi none)) (hw : Wanted ops a0 kn i) (hx : Knows ops a0 kn i x (isVal v))
    (hl : ∀ a w, FKept ops a0 a → FDeps ops kn i a w → lo.map a.eval = vl) (hh : ∀ a w, FKept ops a0 a → FDeps ops kn i a w → hi.map a.eval = vh) (hr : ∀ w, (Instr.sliceAt t v vl vh none).run P w = .ok r w) : FStep P ops base a0 Q kn i (isVal r) :=
  step_pure r hop hw fun o a w ho hk hd => by
    have e1 : a.eval x = v := hx a w hk hd
    have e2 := hl a w hk hd
    have e3 := hh a w hk hd
    unfold execOp
    rw [ho]
    simp only [e1, e2, e3, Sem.run_bind, Option.map_none, hr, Result.andThen_ok, Sem.run_pure]
end
theorem elem_strs : Tryz.prog.underlying 26 = some (.slice (Tryz.prog.elem 26)) := by kernel_rfl
theorem size_str (w : World) : (sizeOf (Tryz.prog.elem 26)).run Tryz.prog w = .ok 1 w := by
  have hs : (Tryz.prog.info? (Tryz.prog.elem 26)).map (·.size) = some 1 := by kernel_rfl
  obtain ⟨ie, hie, hz⟩ := Option.map_eq_some_iff.1 hs
  simp [sizeOf, typeInfo, hie, hz]
theorem part_rest (g n m : Nat) (h0 : 0 < m) (h : m < n) (w : World) : (Instr.sliceAt 26 (.slice (some ⟨g, 0, none⟩) n n) (some (.int .i64 (m : Int))) none none).run Tryz.prog w = .ok (.slice (some ⟨g, m, none⟩) (n - m) (n - m)) w := by
  rw [run_sliceAt_slice _ _ _ _ _ _ elem_strs, run_slice_l (ht := elem_strs) (h0 := by omega) (h1 := by omega), size_str]
  have hne : ¬ n = m := by omega
  have hm0 : ¬ m = 0 := by omega
  simp [sliced, Addr.add, hne, hm0]
theorem part_head (g n m : Nat) (h0 : 0 < m) (h : m < n) (w : World) : (Instr.sliceAt 26 (.slice (some ⟨g, 0, none⟩) n n) none (some (.int .i64 (m : Int))) none).run Tryz.prog w = .ok (.slice (some ⟨g, 0, none⟩) m n) w := by
  rw [run_sliceAt_slice _ _ _ _ _ _ elem_strs, run_slice_h (ht := elem_strs) (h0 := by omega) (h2 := by omega), size_str]
  simp [sliced, Addr.add]

section
variable {ops : Array Oper} {base : World} {a0 : Act} {Q : Exit → Act → World → Prop} {k0 : Nat} {kn : Nat → VP} {i : Nat}
theorem rstep_moveOld {R : World → World → Prop} {P : Program} (hR : Pre R) (t : Tmp) (v : Value) (hop : (ops[i]?).map (fun o => (o.op, o.guard)) = some (.move (.tmp t), none)) (hd : ((ops[i]?).bind (·.dst)).isSome = true) (hs : ((List.range k0).all fun j => (ops[j]?).all fun o => o.dst != some t) = true) (hv : a0.tmps.getD t undef = v) :
    RStep R P ops base a0 Q k0 kn i (isVal v) := by
  refine ⟨stabR_val _ _, fun o ho a w hk hb hdp => ?_⟩
  rw [ho] at hop hd
  simp only [Option.map_some, Option.some.injEq, Prod.mk.injEq] at hop
  have e : a.eval (.tmp t) = v := (hk.2.2 t hs).trans hv
  unfold wpOp
  simp only [ho]
  rw [show Region.wanted o (yielded ops a.tmps) = true by simp [Region.wanted, hop.2]]
  refine .inl ?_
  unfold Oper.wp execOp
  rw [hop.1]
  simp only [Sem.run_pure, Oper.upon, e]
  exact ⟨v, rfl, fun h => by simp [h] at hd, rfl, hR.refl _⟩
theorem tail_assign {P : Program} {a : Act} {w : World} {c : Nat} (x : Operand) (d : Tmp) (v : Value) (hop : (ops[i]?).map (fun o => (o.op, o.guard)) = some (.assign x, none)) (hd : (ops[i]?).bind (·.dst) = some d) (hx : a.eval x = v) (h : Tail P ops Q c (i + 1) (a.put (some d) v) w) : Tail P ops Q (c + 1) i a w :=
  tail_op (fun _ _ => True) hop fun o ho e => by
    rw [ho] at hd
    simp only [Option.bind_some] at hd
    unfold Oper.wp execOp
    rw [e]
    simp only [Sem.run_pure, Oper.upon, hx, hd]
    exact h
/-- copy of the head of a row behind it. -/
theorem rstep_copy (x y : Operand) (g n m c : Nat) (v : Value) (cur : Array Value) (hop : (ops[i]?).map (·.op) = some (.call { callee := .builtin .copy, args := #[x, y], argTypes := #[26, 26] })) (hw : Wanted ops a0 kn i)
    (hd : ((ops[i]?).bind (·.dst)).isSome = true) (hx : Knows ops a0 kn i x (isVal (.slice (some ⟨g, m, none⟩) (n - m) (n - m)))) (hy : Knows ops a0 kn i y (isVal (.slice (some ⟨g, 0, none⟩) m n)))
    (hc : c = min m (n - m)) (hn : cur.size = n) (hm : m < n) (hv : v.oneCell' = true) (h0 : ∀ w, Turn g (.cells (repA v m cur) 9 (0, 0)) (.cells (repA v (m + c) cur) 9 (0, 0)) base w → w.heap[g]? = some (.cells (repA v m cur) 9 (0, 0)) ∨ w.heap[g]? = some (.cells (repA v (m + c) cur) 9 (0, 0))) :
    RStep (Turn g (.cells (repA v m cur) 9 (0, 0)) (.cells (repA v (m + c) cur) 9 (0, 0))) Tryz.prog ops base a0 Q k0 kn i (copied_ g (.cells (repA v (m + c) cur) 9 (0, 0)) (c : Int)) := by
  refine ⟨stabR_copied _ _ _ _, fun o ho a w hk0 hb hdp => ?_⟩
  have hk := hk0.f
  have hfd : FDeps ops kn i a w := fun o' ho' e he hbd => rdone_f (hdp o' ho' e he hbd)
  have e1 : a.eval x = _ := hx a w hk hfd
  have e2 : a.eval y = _ := hy a w hk hfd
  have hwn := hw a w hk hfd o ho
  have hdn : o.dst ≠ none := by rw [ho] at hd; intro h; simp [h] at hd
  have hcm : m + c ≤ cur.size := by omega
  -- whichever the row is now, behind the copy it is the second one
  have key : ∀ q : Nat, m ≤ q → q ≤ cur.size → w.heap[g]? = some (.cells (repA v q cur) 9 (0, 0)) → ((repA v q cur).toList.take m ++ List.replicate c v ++ (repA v q cur).toList.drop (m + c)).toArray = repA v (m + c) cur →
      (Builtin.copy_ #[26, 26] o.type #[.slice (some ⟨g, m, none⟩) (n - m) (n - m), .slice (some ⟨g, 0, none⟩) m n]).run Tryz.prog w = .ok (.int .i64 (c : Int)) (w.setRow g (repA v (m + c) cur)) := by
    intro q hq1 hq2 hg he
    have hr := run_copy_row (P := Tryz.prog) w 26 26 o.type 9 g m (n - m) (n - m) ⟨g, 0, none⟩ m n (repA v q cur) 9 (List.replicate c v) Tryz.underlying26 (by kernel_rfl) hg (by rw [List.length_replicate]; exact hc)
      (fun j x hx => by
        have hj : j < c := by have := (List.getElem?_eq_some_iff.1 hx).1; simpa using this
        have hxv : x = v := by rw [List.getElem?_replicate, if_pos hj] at hx; injection hx with hx; exact hx.symm
        rw [hxv, show (⟨g, 0, none⟩ : Addr).add j = ⟨g, j, none⟩ by simp [Addr.add]; exact fun h => h.symm]
        simp only [World.cell?, hg]
        have : j < q := by omega
        simp [repA, List.getElem?_append_left, this])
      (by rw [List.length_replicate, repA_size v q cur hq2]; exact hcm) (fun x hx => by rw [List.eq_of_mem_replicate hx]; exact hv)
    rw [List.length_replicate, he] at hr
    exact hr
  have fin : ∀ o1 : Array Value, w.heap[g]? = some (.cells o1 9 (0, 0)) → Turn g (.cells (repA v m cur) 9 (0, 0)) (.cells (repA v (m + c) cur) 9 (0, 0)) w (w.setRow g (repA v (m + c) cur)) ∧ (w.setRow g (repA v (m + c) cur)).heap[g]? = some (.cells (repA v (m + c) cur) 9 (0, 0)) := by
    intro o1 hg
    have hnew : (w.setRow g (repA v (m + c) cur)).heap[g]? = some (.cells (repA v (m + c) cur) 9 (0, 0)) := setRow_heap w g o1 _ _ _ hg
    exact ⟨⟨rfl, rfl, rfl, by simp [World.setRow], fun b hb hne => setRow_other w g b _ hne, fun _ => .inr hnew, fun _ => hnew⟩, hnew⟩
  have run : ∃ o1 : Array Value, w.heap[g]? = some (.cells o1 9 (0, 0)) ∧ (Builtin.copy_ #[26, 26] o.type #[.slice (some ⟨g, m, none⟩) (n - m) (n - m), .slice (some ⟨g, 0, none⟩) m n]).run Tryz.prog w = .ok (.int .i64 (c : Int)) (w.setRow g (repA v (m + c) cur)) := by
    rcases h0 w hb with h | h
    · exact ⟨_, h, key m (Nat.le_refl _) (by omega) h (repA_twice v m c cur hcm)⟩
    · refine ⟨_, h, key (m + c) (by omega) hcm h ?_⟩
      have := repA_twice v m c cur hcm
      unfold repA at this ⊢
      simp only [List.take_append_of_le_length (l₁ := List.replicate (m + c) v) (by simp : m ≤ (List.replicate (m + c) v).length), List.take_replicate, Nat.min_eq_left (by omega : m ≤ m + c)] at this ⊢
      congr 1
      rw [List.drop_append, List.drop_of_length_le (by simp), List.nil_append, List.length_replicate, Nat.sub_self, List.drop_zero, List.replicate_append_replicate]
  obtain ⟨o1, hg, hrun⟩ := run
  obtain ⟨ht, hnew⟩ := fin o1 hg
  unfold wpOp
  simp only [ho, hwn, if_true]
  refine .inl ?_
  unfold Oper.wp execOp
  rw [op_of hop ho]
  simp only [resolve, Sem.run_bind, Sem.run_pure, Result.andThen_ok, invoke, builtin, List.map_toArray, List.map_cons, List.map_nil, e1, e2, hrun, Oper.upon]
  exact ⟨_, rfl, fun h => absurd h hdn, ⟨rfl, hnew⟩, ht⟩
end
theorem add_nat (m c : Nat) (h : m + c ≤ 1000000) (w : World) : (binOp .add 3 (.int .i64 (m : Int)) (.int .i64 (c : Int))).run Tryz.prog w = .ok (.int .i64 ((m + c : Nat) : Int)) w := by
  simp [go_sem]
  rw [IntKind.wrap_i64]
  omega
set_option maxRecDepth 100000 in
set_option maxHeartbeats 2000000 in
theorem rep_region (Q : Exit → Act → World → Prop) (a0 : Act) (w0 : World) (hsz : a0.tmps.size = 48) (g n m c : Nat) (v : Value) (cur : Array Value)
    (e7 : a0.tmps.getD 7 undef = .slice (some ⟨g, 0, none⟩) n n) (e8 : a0.tmps.getD 8 undef = .int .i64 (m : Int)) (h0 : 0 < m) (hm : m < n) (hn : cur.size = n) (hn1 : n ≤ 1000) (hc : c = min m (n - m)) (hv : v.oneCell' = true)
    (hg : w0.heap[g]? = some (.cells (repA v m cur) 9 (0, 0)))
    (hQ : ∀ (a : Act) (w : World), a.defers = a0.defers → a.tmps.size = a0.tmps.size → (∀ t, (repOps.toList.all fun o => o.dst != some t) = true → a.tmps.getD t undef = a0.tmps.getD t undef) → a.tmps.getD 8 undef = .int .i64 ((m + c : Nat) : Int) →
      w.heap[g]? = some (.cells (repA v (m + c) cur) 9 (0, 0)) → Turn g (.cells (repA v m cur) 9 (0, 0)) (.cells (repA v (m + c) cur) 9 (0, 0)) w0 w → Q .normal a w) :
    (Code.region 9 repOps true).wp Tryz.prog Q a0 w0 := by
  have hR := turn_pre g (.cells (repA v m cur) 9 (0, 0)) (.cells (repA v (m + c) cur) 9 (0, 0))
  refine wp_region_rel hR 9 mixed (by rw [hsz]; kernel_rfl) (by kernel_rfl) ?_
  rw [show repOps.size - 9 = 1 by kernel_rfl]
  refine ⟨isVal (.int .i64 (m : Int)), rstep_moveOld hR 8 (.int .i64 (m : Int)) (by kernel_rfl) (by kernel_rfl) (by kernel_rfl) e8, ?_⟩
  refine ⟨isVal (.slice (some ⟨g, 0, none⟩) n n), rstep_moveOld hR 7 (.slice (some ⟨g, 0, none⟩) n n) (by kernel_rfl) (by kernel_rfl) (by kernel_rfl) e7, ?_⟩
  refine ⟨isVal (.int .i64 (m : Int)), rstep_moveOld hR 8 (.int .i64 (m : Int)) (by kernel_rfl) (by kernel_rfl) (by kernel_rfl) e8, ?_⟩
  refine ⟨isVal (.slice (some ⟨g, m, none⟩) (n - m) (n - m)), RStep.of hR (stabR_val _ _) (by kernel_rfl) (fun w hw => step_part 26 (.tmp 39) (some (.tmp 40)) none (.slice (some ⟨g, 0, none⟩) n n) (some (.int .i64 (m : Int))) none (.slice (some ⟨g, m, none⟩) (n - m) (n - m)) (by kernel_rfl) (wanted_none (by kernel_rfl)) (knows_new (V := isVal (.slice (some ⟨g, 0, none⟩) n n)) 39 1 (by kernel_rfl) (by kernel_rfl) (by kernel_rfl)) (fun a w hk hd => congrArg some ((knows_new (V := isVal (.int .i64 (m : Int))) 40 2 (by kernel_rfl) (by kernel_rfl) (by kernel_rfl)) a w hk hd)) (fun _ _ _ _ => rfl) (part_rest g n m h0 hm)), ?_⟩
  refine ⟨isVal (.slice (some ⟨g, 0, none⟩) n n), rstep_moveOld hR 7 (.slice (some ⟨g, 0, none⟩) n n) (by kernel_rfl) (by kernel_rfl) (by kernel_rfl) e7, ?_⟩
  refine ⟨isVal (.int .i64 (m : Int)), rstep_moveOld hR 8 (.int .i64 (m : Int)) (by kernel_rfl) (by kernel_rfl) (by kernel_rfl) e8, ?_⟩
  refine ⟨isVal (.slice (some ⟨g, 0, none⟩) m n), RStep.of hR (stabR_val _ _) (by kernel_rfl) (fun w hw => step_part 26 (.tmp 42) none (some (.tmp 43)) (.slice (some ⟨g, 0, none⟩) n n) none (some (.int .i64 (m : Int))) (.slice (some ⟨g, 0, none⟩) m n) (by kernel_rfl) (wanted_none (by kernel_rfl)) (knows_new (V := isVal (.slice (some ⟨g, 0, none⟩) n n)) 42 4 (by kernel_rfl) (by kernel_rfl) (by kernel_rfl)) (fun _ _ _ _ => rfl) (fun a w hk hd => congrArg some ((knows_new (V := isVal (.int .i64 (m : Int))) 43 5 (by kernel_rfl) (by kernel_rfl) (by kernel_rfl)) a w hk hd)) (part_head g n m h0 hm)), ?_⟩
  refine ⟨copied_ g (.cells (repA v (m + c) cur) 9 (0, 0)) (c : Int), rstep_copy (.tmp 41) (.tmp 44) g n m c v cur (by kernel_rfl) (wanted_none (by kernel_rfl)) (by kernel_rfl) (knows_new (V := isVal (.slice (some ⟨g, m, none⟩) (n - m) (n - m))) 41 3 (by kernel_rfl) (by kernel_rfl) (by kernel_rfl)) (knows_new (V := isVal (.slice (some ⟨g, 0, none⟩) m n)) 44 6 (by kernel_rfl) (by kernel_rfl) (by kernel_rfl)) hc hn hm hv (fun w hw => hw.old hg), ?_⟩
  refine ⟨isVal (.int .i64 ((m + c : Nat) : Int)), RStep.of hR (stabR_val _ _) (by kernel_rfl) (fun w hw => step_bin .add 3 3 (.tmp 38) (.tmp 45) (.int .i64 (m : Int)) (.int .i64 (c : Int)) (.int .i64 ((m + c : Nat) : Int)) (by kernel_rfl) (wanted_none (by kernel_rfl)) (knows_new (V := isVal (.int .i64 (m : Int))) 38 0 (by kernel_rfl) (by kernel_rfl) (by kernel_rfl)) (fun a w hk hd => ((knows_new (V := copied_ g (.cells (repA v (m + c) cur) 9 (0, 0)) (c : Int)) 45 7 (by kernel_rfl) (by kernel_rfl) (by kernel_rfl)) a w hk hd).1) (fun _ => rfl) (add_nat m c (by omega))), ?_⟩
  intro a w hk0 hw hd
  have hk := hk0.f
  have d7 := rdone_of (hd 7 (by decide)) (t := 45) (V := copied_ g (.cells (repA v (m + c) cur) 9 (0, 0)) (c : Int)) (by kernel_rfl) (by kernel_rfl)
  have d46 := rdone_of (hd 8 (by decide)) (t := 46) (V := isVal (.int .i64 ((m + c : Nat) : Int))) (by kernel_rfl) (by kernel_rfl)
  have hs8 : 8 < a.tmps.size := by rw [hk.2.1, hsz]; decide
  refine tail_assign (.tmp 46) 8 _ (by kernel_rfl) (by kernel_rfl) d46 ?_
  refine hQ _ w ((defers_put (a := a)).trans hk.1) ((size_put (a := a)).trans hk.2.1) (fun t ht => ?_) (getD_put_self hs8) d7.2 hw
  have hall : (repOps.toList.all fun o => o.dst != some 8) = false := by kernel_rfl
  rw [getD_put (fun e => by rw [e, hall] at ht; cases ht)]
  exact hk.2.2 t ht
end Go.Proofs.YtipiioggdalkoaaGreatDoor
