/- Joined texts: contracts of the program's functions, and the mathematics that they lean on. -/
import Derived.Test.YtpjafjnokgeifaaGreatDoorPartB
import Derived.Laws.CopyRow
import Derived.Shelf.Strings.Builder1
import Derived.Shelf.Strings.Builder2
import Derived.Shelf.Strings.BuilderF
import Derived.Shelf.Strings.Prefix
import Derived.Shelf.Bits.Mul64
import Derived.Shelf.Strings.Repeat
import Derived.Shelf.Slices.Reverse
import Derived.Shelf.Slices.Equal
import Derived.Ground.Names2Prog
import Derived.Shelf.Slices.Clone
import Derived.Shelf.Slices.SearchI
import Derived.Shelf.Slices.Cells
import Derived.Shelf.Slices.Empties2
import Derived.Ground.SlgnProg
import Derived.Shelf.SlicesE.Clone
import Derived.Test.YtpjafjnokgeifaaGreatDoorProg
import Derived.Laws.CopyOwn
import Derived.Deep.OwnRows
import Derived.ChangeKeysEq
import Derived.Laws.Rows
import Derived.RegionTactic
section
namespace Go.Proofs.YtpjafjnokgeifaaGreatDoor
open Go.RowKit
set_option linter.unusedVariables false
set_option linter.unusedSimpArgs false

/-- One row may turn from cur to cur'. -/
structure Turn (g : Nat) (o o' : Obj) (w w' : World) : Prop where
  os : w'.os = w.os
  tape : w'.tape = w.tape
  output : w'.output = w.output
  size : w.heap.size ≤ w'.heap.size
  block : ∀ b, b < w.heap.size → b ≠ g → w'.heap[b]? = w.heap[b]?
  old : w.heap[g]? = some o → w'.heap[g]? = some o ∨ w'.heap[g]? = some o'
  new : w.heap[g]? = some o' → w'.heap[g]? = some o'
theorem turn_pre (g : Nat) (o o' : Obj) : Pre (Turn g o o') where
  refl w := ⟨rfl, rfl, rfl, Nat.le_refl _, fun _ _ _ => rfl, fun h => .inl h, fun h => h⟩
  trans a b c h1 h2 := ⟨h2.os.trans h1.os, h2.tape.trans h1.tape, h2.output.trans h1.output, Nat.le_trans h1.size h2.size, fun i hi hne => (h2.block i (Nat.lt_of_lt_of_le hi h1.size) hne).trans (h1.block i hi hne),
    fun h => by rcases h1.old h with h | h; exact h2.old h; exact .inr (h2.new h), fun h => h2.new (h1.new h)⟩
  grow w w' h := ⟨h.os, h.tape, h.output, h.size, fun b hb _ => h.block b hb, fun he => .inl ((h.block g (Array.getElem?_eq_some_iff.1 he).1).trans he), fun he => (h.block g (Array.getElem?_eq_some_iff.1 he).1).trans he⟩
  drew w := ⟨rfl, rfl, rfl, Nat.le_refl _, fun _ _ _ => rfl, fun h => .inl h, fun h => h⟩
def copied_ (g : Nat) (o' : Obj) (n : Int) : VP := fun v w => v = .int .i64 n ∧ w.heap[g]? = some o'
theorem stabR_copied (g : Nat) (o o' : Obj) (n : Int) : StableR (Turn g o o') (copied_ g o' n) := fun v w w' h hr => ⟨h.1, hr.new h.2⟩
/-- So many cells of a row are x; behind them what was there. -/
def repA (x : Value) (m : Nat) (cur : Array Value) : Array Value := (List.replicate m x ++ cur.toList.drop m).toArray
theorem repA_size (x : Value) (m : Nat) (cur : Array Value) (h : m ≤ cur.size) : (repA x m cur).size = cur.size := by simp [repA]; omega
theorem repA_twice (x : Value) (m k : Nat) (cur : Array Value) (h : m + k ≤ cur.size) : ((repA x m cur).toList.take m ++ List.replicate k x ++ (repA x m cur).toList.drop (m + k)).toArray = repA x (m + k) cur := by
  unfold repA
  congr 1
  simp only [List.take_append_of_le_length (l₁ := List.replicate m x) (by simp : m ≤ (List.replicate m x).length)]
  rw [List.take_of_length_le (by simp), List.drop_append, List.drop_of_length_le (by simp), List.nil_append, List.length_replicate, List.drop_drop, List.replicate_append_replicate]
  congr 2
  omega
noncomputable def repOps : Array Oper := regionOf Tryz.f88 9
section
variable {P : Program} {ops : Array Oper} {base : World} {a0 : Act} {Q : Exit → Act → World → Prop} {kn : Nat → VP} {i : Nat} {V : VP}
theorem step_part (t : TypeId) (x : Operand) (lo hi : Option Operand) (v : Value) (vl vh : Option Value) (r : Value) (hop : (ops[i]?).map (·.op) = some (.slice t x lo hi none)) (hw : Wanted ops a0 kn i) (hx : Knows ops a0 kn i x (isVal v))
    (hl : ∀ a w, FKept ops a0 a → FDeps ops kn i a w → lo.map a.eval = vl) (hh : ∀ a w, FKept ops a0 a → FDeps ops kn i a w → hi.map a.eval = vh) (hr : ∀ w, (Instr.sliceAt t v vl vh none).run P w = .ok r w) : FStep P ops base a0 Q kn i (isVal r) :=
  step_pure r hop hw fun o a w ho hk hd => by
    have e1 : a.eval x = v := hx a w hk hd
    have e2 := hl a w hk hd
    have e3 := hh a w hk hd
    unfold execOp
    rw [ho]
    simp only [e1, e2, e3, Sem.run_bind, Option.map_none, hr, Result.andThen_ok, Sem.run_pure]
end
theorem elem_strs : Tryz.prog.underlying 22 = some (.slice (Tryz.prog.elem 22)) := by kernel_rfl
theorem size_str (w : World) : (sizeOf (Tryz.prog.elem 22)).run Tryz.prog w = .ok 1 w := by
  have hs : (Tryz.prog.info? (Tryz.prog.elem 22)).map (·.size) = some 1 := by kernel_rfl
  obtain ⟨ie, hie, hz⟩ := Option.map_eq_some_iff.1 hs
  simp [sizeOf, typeInfo, hie, hz]
theorem part_rest (g n m : Nat) (h0 : 0 < m) (h : m < n) (w : World) : (Instr.sliceAt 22 (.slice (some ⟨g, 0, none⟩) n n) (some (.int .i64 (m : Int))) none none).run Tryz.prog w = .ok (.slice (some ⟨g, m, none⟩) (n - m) (n - m)) w := by
  rw [run_sliceAt_slice _ _ _ _ _ _ elem_strs, run_slice_l (ht := elem_strs) (h0 := by omega) (h1 := by omega), size_str]
  have hne : ¬ n = m := by omega
  have hm0 : ¬ m = 0 := by omega
  simp [sliced, Addr.add, hne, hm0]
theorem part_head (g n m : Nat) (h0 : 0 < m) (h : m < n) (w : World) : (Instr.sliceAt 22 (.slice (some ⟨g, 0, none⟩) n n) none (some (.int .i64 (m : Int))) none).run Tryz.prog w = .ok (.slice (some ⟨g, 0, none⟩) m n) w := by
  rw [run_sliceAt_slice _ _ _ _ _ _ elem_strs, run_slice_h (ht := elem_strs) (h0 := by omega) (h2 := by omega), size_str]
  simp [sliced, Addr.add]

section
variable {ops : Array Oper} {base : World} {a0 : Act} {Q : Exit → Act → World → Prop} {k0 : Nat} {kn : Nat → VP} {i : Nat}
theorem rstep_moveOld {R : World → World → Prop} {P : Program} (hR : Pre R) (t : Tmp) (v : Value) (hop : (ops[i]?).map (fun o => (o.op, o.guard)) = some (.move (.tmp t), none)) (hd : ((ops[i]?).bind (·.dst)).isSome = true) (hs : ((List.range k0).all fun j => (ops[j]?).all fun o => o.dst != some t) = true) (hv : a0.tmps.getD t undef = v) :
    RStep R P ops base a0 Q k0 kn i (isVal v) := by
  refine ⟨stabR_val _ _, fun o ho a w hk hb hdp => ?_⟩
  rw [ho] at hop hd
  simp only [Option.map_some, Option.some.injEq, Prod.mk.injEq] at hop
  have e : a.eval (.tmp t) = v := (hk.2.2 t hs).trans hv
  unfold wpOp
  simp only [ho]
  rw [show Region.wanted o (yielded ops a.tmps) = true by simp [Region.wanted, hop.2]]
  refine .inl ?_
  unfold Oper.wp execOp
  rw [hop.1]
  simp only [Sem.run_pure, Oper.upon, e]
  exact ⟨v, rfl, fun h => by simp [h] at hd, rfl, hR.refl _⟩
theorem tail_assign {P : Program} {a : Act} {w : World} {c : Nat} (x : Operand) (d : Tmp) (v : Value) (hop : (ops[i]?).map (fun o => (o.op, o.guard)) = some (.assign x, none)) (hd : (ops[i]?).bind (·.dst) = some d) (hx : a.eval x = v) (h : Tail P ops Q c (i + 1) (a.put (some d) v) w) : Tail P ops Q (c + 1) i a w :=
  tail_op (fun _ _ => True) hop fun o ho e => by
    rw [ho] at hd
    simp only [Option.bind_some] at hd
    unfold Oper.wp execOp
    rw [e]
    simp only [Sem.run_pure, Oper.upon, hx, hd]
    exact h
/-- copy of the head of a row behind it. -/
theorem rstep_copy (x y : Operand) (g n m c : Nat) (v : Value) (cur : Array Value) (hop : (ops[i]?).map (·.op) = some (.call { callee := .builtin .copy, args := #[x, y], argTypes := #[22, 22] })) (hw : Wanted ops a0 kn i)
    (hd : ((ops[i]?).bind (·.dst)).isSome = true) (hx : Knows ops a0 kn i x (isVal (.slice (some ⟨g, m, none⟩) (n - m) (n - m)))) (hy : Knows ops a0 kn i y (isVal (.slice (some ⟨g, 0, none⟩) m n)))
    (hc : c = min m (n - m)) (hn : cur.size = n) (hm : m < n) (hv : v.oneCell' = true) (h0 : ∀ w, Turn g (.cells (repA v m cur) 9 (0, 0)) (.cells (repA v (m + c) cur) 9 (0, 0)) base w → w.heap[g]? = some (.cells (repA v m cur) 9 (0, 0)) ∨ w.heap[g]? = some (.cells (repA v (m + c) cur) 9 (0, 0))) :
    RStep (Turn g (.cells (repA v m cur) 9 (0, 0)) (.cells (repA v (m + c) cur) 9 (0, 0))) Tryz.prog ops base a0 Q k0 kn i (copied_ g (.cells (repA v (m + c) cur) 9 (0, 0)) (c : Int)) := by
  refine ⟨stabR_copied _ _ _ _, fun o ho a w hk0 hb hdp => ?_⟩
  have hk := hk0.f
  have hfd : FDeps ops kn i a w := fun o' ho' e he hbd => rdone_f (hdp o' ho' e he hbd)
  have e1 : a.eval x = _ := hx a w hk hfd
  have e2 : a.eval y = _ := hy a w hk hfd
  have hwn := hw a w hk hfd o ho
  have hdn : o.dst ≠ none := by rw [ho] at hd; intro h; simp [h] at hd
  have hcm : m + c ≤ cur.size := by omega
  -- whichever the row is now, behind the copy it is the second one
  have key : ∀ q : Nat, m ≤ q → q ≤ cur.size → w.heap[g]? = some (.cells (repA v q cur) 9 (0, 0)) → ((repA v q cur).toList.take m ++ List.replicate c v ++ (repA v q cur).toList.drop (m + c)).toArray = repA v (m + c) cur →
      (Builtin.copy_ #[22, 22] o.type #[.slice (some ⟨g, m, none⟩) (n - m) (n - m), .slice (some ⟨g, 0, none⟩) m n]).run Tryz.prog w = .ok (.int .i64 (c : Int)) (w.setRow g (repA v (m + c) cur)) := by
    intro q hq1 hq2 hg he
    have hr := run_copy_row (P := Tryz.prog) w 22 22 o.type 9 g m (n - m) (n - m) ⟨g, 0, none⟩ m n (repA v q cur) 9 (List.replicate c v) Tryz.underlying22 (by kernel_rfl) hg (by rw [List.length_replicate]; exact hc)
      (fun j x hx => by
        have hj : j < c := by have := (List.getElem?_eq_some_iff.1 hx).1; simpa using this
        have hxv : x = v := by rw [List.getElem?_replicate, if_pos hj] at hx; injection hx with hx; exact hx.symm
        rw [hxv, show (⟨g, 0, none⟩ : Addr).add j = ⟨g, j, none⟩ by simp [Addr.add]; exact fun h => h.symm]
        simp only [World.cell?, hg]
        have : j < q := by omega
        simp [repA, List.getElem?_append_left, this])
      (by rw [List.length_replicate, repA_size v q cur hq2]; exact hcm) (fun x hx => by rw [List.eq_of_mem_replicate hx]; exact hv)
    rw [List.length_replicate, he] at hr
    exact hr
  have fin : ∀ o1 : Array Value, w.heap[g]? = some (.cells o1 9 (0, 0)) → Turn g (.cells (repA v m cur) 9 (0, 0)) (.cells (repA v (m + c) cur) 9 (0, 0)) w (w.setRow g (repA v (m + c) cur)) ∧ (w.setRow g (repA v (m + c) cur)).heap[g]? = some (.cells (repA v (m + c) cur) 9 (0, 0)) := by
    intro o1 hg
    have hnew : (w.setRow g (repA v (m + c) cur)).heap[g]? = some (.cells (repA v (m + c) cur) 9 (0, 0)) := setRow_heap w g o1 _ _ _ hg
    exact ⟨⟨rfl, rfl, rfl, by simp [World.setRow], fun b hb hne => setRow_other w g b _ hne, fun _ => .inr hnew, fun _ => hnew⟩, hnew⟩
  have run : ∃ o1 : Array Value, w.heap[g]? = some (.cells o1 9 (0, 0)) ∧ (Builtin.copy_ #[22, 22] o.type #[.slice (some ⟨g, m, none⟩) (n - m) (n - m), .slice (some ⟨g, 0, none⟩) m n]).run Tryz.prog w = .ok (.int .i64 (c : Int)) (w.setRow g (repA v (m + c) cur)) := by
    rcases h0 w hb with h | h
    · exact ⟨_, h, key m (Nat.le_refl _) (by omega) h (repA_twice v m c cur hcm)⟩
    · refine ⟨_, h, key (m + c) (by omega) hcm h ?_⟩
      have := repA_twice v m c cur hcm
      unfold repA at this ⊢
      simp only [List.take_append_of_le_length (l₁ := List.replicate (m + c) v) (by simp : m ≤ (List.replicate (m + c) v).length), List.take_replicate, Nat.min_eq_left (by omega : m ≤ m + c)] at this ⊢
      congr 1
      rw [List.drop_append, List.drop_of_length_le (by simp), List.nil_append, List.length_replicate, Nat.sub_self, List.drop_zero, List.replicate_append_replicate]
  obtain ⟨o1, hg, hrun⟩ := run
  obtain ⟨ht, hnew⟩ := fin o1 hg
  unfold wpOp
  simp only [ho, hwn, if_true]
  refine .inl ?_
  unfold Oper.wp execOp
  rw [op_of hop ho]
  simp only [resolve, Sem.run_bind, Sem.run_pure, Result.andThen_ok, invoke, builtin, List.map_toArray, List.map_cons, List.map_nil, e1, e2, hrun, Oper.upon]
  exact ⟨_, rfl, fun h => absurd h hdn, ⟨rfl, hnew⟩, ht⟩
end
theorem add_nat (m c : Nat) (h : m + c ≤ 1000000) (w : World) : (binOp .add 3 (.int .i64 (m : Int)) (.int .i64 (c : Int))).run Tryz.prog w = .ok (.int .i64 ((m + c : Nat) : Int)) w := by
  simp [go_sem]
  rw [IntKind.wrap_i64]
  omega
set_option maxRecDepth 100000 in
set_option maxHeartbeats 2000000 in
theorem rep_region (Q : Exit → Act → World → Prop) (a0 : Act) (w0 : World) (hsz : a0.tmps.size = 48) (g n m c : Nat) (v : Value) (cur : Array Value)
    (e7 : a0.tmps.getD 7 undef = .slice (some ⟨g, 0, none⟩) n n) (e8 : a0.tmps.getD 8 undef = .int .i64 (m : Int)) (h0 : 0 < m) (hm : m < n) (hn : cur.size = n) (hn1 : n ≤ 1000) (hc : c = min m (n - m)) (hv : v.oneCell' = true)
    (hg : w0.heap[g]? = some (.cells (repA v m cur) 9 (0, 0)))
    (hQ : ∀ (a : Act) (w : World), a.defers = a0.defers → a.tmps.size = a0.tmps.size → (∀ t, (repOps.toList.all fun o => o.dst != some t) = true → a.tmps.getD t undef = a0.tmps.getD t undef) → a.tmps.getD 8 undef = .int .i64 ((m + c : Nat) : Int) →
      w.heap[g]? = some (.cells (repA v (m + c) cur) 9 (0, 0)) → Turn g (.cells (repA v m cur) 9 (0, 0)) (.cells (repA v (m + c) cur) 9 (0, 0)) w0 w → Q .normal a w) :
    (Code.region 9 repOps true).wp Tryz.prog Q a0 w0 := by
  have hR := turn_pre g (.cells (repA v m cur) 9 (0, 0)) (.cells (repA v (m + c) cur) 9 (0, 0))
  refine wp_region_rel hR 9 mixed (by rw [hsz]; kernel_rfl) (by kernel_rfl) ?_
  rw [show repOps.size - 9 = 1 by kernel_rfl]
  refine ⟨isVal (.int .i64 (m : Int)), rstep_moveOld hR 8 (.int .i64 (m : Int)) (by kernel_rfl) (by kernel_rfl) (by kernel_rfl) e8, ?_⟩
  refine ⟨isVal (.slice (some ⟨g, 0, none⟩) n n), rstep_moveOld hR 7 (.slice (some ⟨g, 0, none⟩) n n) (by kernel_rfl) (by kernel_rfl) (by kernel_rfl) e7, ?_⟩
  refine ⟨isVal (.int .i64 (m : Int)), rstep_moveOld hR 8 (.int .i64 (m : Int)) (by kernel_rfl) (by kernel_rfl) (by kernel_rfl) e8, ?_⟩
  refine ⟨isVal (.slice (some ⟨g, m, none⟩) (n - m) (n - m)), RStep.of hR (stabR_val _ _) (by kernel_rfl) (fun w hw => step_part 22 (.tmp 39) (some (.tmp 40)) none (.slice (some ⟨g, 0, none⟩) n n) (some (.int .i64 (m : Int))) none (.slice (some ⟨g, m, none⟩) (n - m) (n - m)) (by kernel_rfl) (wanted_none (by kernel_rfl)) (knows_new (V := isVal (.slice (some ⟨g, 0, none⟩) n n)) 39 1 (by kernel_rfl) (by kernel_rfl) (by kernel_rfl)) (fun a w hk hd => congrArg some ((knows_new (V := isVal (.int .i64 (m : Int))) 40 2 (by kernel_rfl) (by kernel_rfl) (by kernel_rfl)) a w hk hd)) (fun _ _ _ _ => rfl) (part_rest g n m h0 hm)), ?_⟩
  refine ⟨isVal (.slice (some ⟨g, 0, none⟩) n n), rstep_moveOld hR 7 (.slice (some ⟨g, 0, none⟩) n n) (by kernel_rfl) (by kernel_rfl) (by kernel_rfl) e7, ?_⟩
  refine ⟨isVal (.int .i64 (m : Int)), rstep_moveOld hR 8 (.int .i64 (m : Int)) (by kernel_rfl) (by kernel_rfl) (by kernel_rfl) e8, ?_⟩
  refine ⟨isVal (.slice (some ⟨g, 0, none⟩) m n), RStep.of hR (stabR_val _ _) (by kernel_rfl) (fun w hw => step_part 22 (.tmp 42) none (some (.tmp 43)) (.slice (some ⟨g, 0, none⟩) n n) none (some (.int .i64 (m : Int))) (.slice (some ⟨g, 0, none⟩) m n) (by kernel_rfl) (wanted_none (by kernel_rfl)) (knows_new (V := isVal (.slice (some ⟨g, 0, none⟩) n n)) 42 4 (by kernel_rfl) (by kernel_rfl) (by kernel_rfl)) (fun _ _ _ _ => rfl) (fun a w hk hd => congrArg some ((knows_new (V := isVal (.int .i64 (m : Int))) 43 5 (by kernel_rfl) (by kernel_rfl) (by kernel_rfl)) a w hk hd)) (part_head g n m h0 hm)), ?_⟩
  refine ⟨copied_ g (.cells (repA v (m + c) cur) 9 (0, 0)) (c : Int), rstep_copy (.tmp 41) (.tmp 44) g n m c v cur (by kernel_rfl) (wanted_none (by kernel_rfl)) (by kernel_rfl) (knows_new (V := isVal (.slice (some ⟨g, m, none⟩) (n - m) (n - m))) 41 3 (by kernel_rfl) (by kernel_rfl) (by kernel_rfl)) (knows_new (V := isVal (.slice (some ⟨g, 0, none⟩) m n)) 44 6 (by kernel_rfl) (by kernel_rfl) (by kernel_rfl)) hc hn hm hv (fun w hw => hw.old hg), ?_⟩
  refine ⟨isVal (.int .i64 ((m + c : Nat) : Int)), RStep.of hR (stabR_val _ _) (by kernel_rfl) (fun w hw => step_bin .add 3 3 (.tmp 38) (.tmp 45) (.int .i64 (m : Int)) (.int .i64 (c : Int)) (.int .i64 ((m + c : Nat) : Int)) (by kernel_rfl) (wanted_none (by kernel_rfl)) (knows_new (V := isVal (.int .i64 (m : Int))) 38 0 (by kernel_rfl) (by kernel_rfl) (by kernel_rfl)) (fun a w hk hd => ((knows_new (V := copied_ g (.cells (repA v (m + c) cur) 9 (0, 0)) (c : Int)) 45 7 (by kernel_rfl) (by kernel_rfl) (by kernel_rfl)) a w hk hd).1) (fun _ => rfl) (add_nat m c (by omega))), ?_⟩
  intro a w hk0 hw hd
  have hk := hk0.f
  have d7 := rdone_of (hd 7 (by decide)) (t := 45) (V := copied_ g (.cells (repA v (m + c) cur) 9 (0, 0)) (c : Int)) (by kernel_rfl) (by kernel_rfl)
  have d46 := rdone_of (hd 8 (by decide)) (t := 46) (V := isVal (.int .i64 ((m + c : Nat) : Int))) (by kernel_rfl) (by kernel_rfl)
  have hs8 : 8 < a.tmps.size := by rw [hk.2.1, hsz]; decide
  refine tail_assign (.tmp 46) 8 _ (by kernel_rfl) (by kernel_rfl) d46 ?_
  refine hQ _ w ((defers_put (a := a)).trans hk.1) ((size_put (a := a)).trans hk.2.1) (fun t ht => ?_) (getD_put_self hs8) d7.2 hw
  have hall : (repOps.toList.all fun o => o.dst != some 8) = false := by kernel_rfl
  rw [getD_put (fun e => by rw [e, hall] at ht; cases ht)]
  exact hk.2.2 t ht
end Go.Proofs.YtpjafjnokgeifaaGreatDoor
end
section
namespace Go.Proofs
open Go.Shelf
def Tryz.lays212_ren : Go.Shelf.Ren := ⟨fun | 212 => 146 | 263 => 176 | 264 => 177 | n => n, fun | 46 => 63 | 51 => 131 | 146 => 189 | 53 => 52 | 148 => 191 | n => n, fun | n => n⟩
theorem Tryz.lays212 : Go.Proofs.Lays.n212 Tryz.prog Tryz.lays212_ren := {
  mixed := by kernel_rfl
  f212 := Tryz.func146.trans (congrArg some (by kernel_rfl))
  f263 := Tryz.func176.trans (congrArg some (by kernel_rfl))
  f264 := Tryz.func177.trans (congrArg some (by kernel_rfl))
  t46 := Tryz.underlying63
  a46 := Tryz.isAgg63
  z46 := Tryz.sizeOf63
  v46 := Tryz.zeroValue63
  t51 := Tryz.underlying131
  a51 := Tryz.isAgg131
  z51 := Tryz.sizeOf131
  v51 := Tryz.zeroValue131
  t53 := Tryz.underlying52
  a53 := Tryz.isAgg52
  z53 := Tryz.sizeOf52
  v53 := Tryz.zeroValue52
  t146 := Tryz.underlying189
  a146 := Tryz.isAgg189
  z146 := Tryz.sizeOf189
  v146 := Tryz.zeroValue189
  t148 := Tryz.underlying191
  a148 := Tryz.isAgg191
  z148 := Tryz.sizeOf191
  v148 := Tryz.zeroValue191 }
open Go.RowKit Go.Lib in
theorem Tryz.bits_Mul (x y : Nat) (hx : x < 18446744073709551616) (hy : y < 18446744073709551616) (w : World) :
    Calls Tryz.prog 146 #[.int .u64 x, .int .u64 y] w fun e w' => e = .returned (.tuple #[.int .u64 ((x * y / 18446744073709551616 : Nat) : Int), .int .u64 ((x * y % 18446744073709551616 : Nat) : Int)]) ∧ w' = w := Any.bits_Mul Tryz.lays212 x y hx hy w
end Go.Proofs
end
section
namespace Go.Proofs.YtpjafjnokgeifaaGreatDoor
open Go.RowKit
set_option linter.unusedVariables false
set_option linter.unusedSimpArgs false

theorem Tryz.infoStr : (Tryz.prog.info? 9).map (fun i => (i.zero, i.size, i.bytes)) = some (some (.string ⟨#[]⟩), 1, 16) := by kernel_rfl
set_option maxRecDepth 100000 in
set_option maxHeartbeats 2000000 in
theorem repeat_any (x : List UInt8) (n g : Nat) (w : World) (h1 : 1 ≤ n) (h6 : n ≤ 6) (hg : g < w.heap.size) (hc : w.cell? ⟨g, 0, none⟩ = some (strC x)) :
    Calls Tryz.prog 88 #[.slice (some ⟨g, 0, none⟩) 1 1, .int .i64 (n : Int)] w fun e w' => ∃ v', e = .returned v' ∧ isBtw w.heap.size w'.heap.size 9 (List.replicate n (strC x)) v' w' ∧ Below w.heap.size w w' := by
  have hmk := fun W => run_make_row' (P := Tryz.prog) 22 9 (.string ⟨#[]⟩) 16 Tryz.underlying22 Tryz.infoStr rfl .i64 .i64 n (by omega) (by omega) W
  obtain ⟨cur, hcur⟩ : ∃ cur, cur = madeCells #[Value.string ⟨#[]⟩] n := ⟨_, rfl⟩
  have hcs : cur.size = n := by rw [hcur]; simp [size_madeCells]
  rw [← hcur] at hmk
  have HCUR := Kept.mk hcur
  have hcp : ∀ ty, (Builtin.copy_ #[22, 22] ty #[.slice (some ⟨w.heap.size, 0, none⟩) n n, .slice (some ⟨g, 0, none⟩) 1 1]).run Tryz.prog (w.alloc (.cells cur 9)) = .ok (.int .i64 1) ((w.alloc (.cells cur 9)).setRow w.heap.size (repA (strC x) 1 cur)) := by
    intro ty
    have hr := run_copy_row (P := Tryz.prog) (w.alloc (.cells cur 9)) 22 22 ty 9 w.heap.size 0 n n ⟨g, 0, none⟩ 1 1 cur 9 [strC x] Tryz.underlying22 (by kernel_rfl)
      (by show (w.heap.push _)[w.heap.size]? = _; simp) (by show 1 = min 1 n; omega)
      (fun j y hy => by
        have hj : j = 0 := by have := (List.getElem?_eq_some_iff.1 hy).1; simp at this; exact this
        subst hj
        injection hy with hy
        rw [← hy, show (⟨g, 0, none⟩ : Addr).add 0 = ⟨g, 0, none⟩ by simp [Addr.add]]
        exact (((Below.refl w.heap.size w).alloc (Nat.le_refl _) _).cell (p := ⟨g, 0, none⟩) hg).trans hc)
      (by show 0 + 1 ≤ cur.size; omega) (fun y hy => by rw [List.mem_singleton.1 hy]; rfl)
    exact hr
  have hW0 : Below w.heap.size w ((w.alloc (.cells cur 9)).setRow w.heap.size (repA (strC x) 1 cur)) := below_setRow ((Below.refl _ _).alloc (Nat.le_refl _) _) (Nat.le_refl _) _
  have hG0 : ((w.alloc (.cells cur 9)).setRow w.heap.size (repA (strC x) 1 cur)).heap[w.heap.size]? = some (.cells (repA (strC x) 1 cur) 9 (0, 0)) := setRow_heap _ _ cur _ _ _ (by show (w.heap.push _)[w.heap.size]? = _; simp)
  have HW0 := Kept.mk hW0
  have HG0 := Kept.mk hG0
  have HC := Kept.mk hc
  have hd1 : decide ((n : Int) < 0) = false := by simp
  clear hcur hW0 hG0 hc
  go_enter Tryz.func88, Tryz.ntmps88
  go_wp2_with fail
  refine (Tryz.bits_Mul 1 n (by omega) (by omega) _).mono ?_
  rintro e w1 ⟨rfl, rfl⟩
  rewrite [show 1 * n / 18446744073709551616 = 0 by rw [Nat.one_mul]; exact Nat.div_eq_of_lt (by omega), show 1 * n % 18446744073709551616 = n by rw [Nat.one_mul]; exact Nat.mod_eq_of_lt (by omega)]
  go_wp2
  clear hmk hcp
  generalize (w1.alloc (.cells cur 9)).setRow w1.heap.size (repA (strC x) 1 cur) = W0 at *
  go_loopw [8] (fun i wr => ∃ m : Nat, 1 ≤ m ∧ m ≤ n ∧ i = .int .i64 (m : Int) ∧ Kept (wr.heap[w1.heap.size]? = some (.cells (repA (strC x) m cur) 9 (0, 0))) ∧ Kept (Below w1.heap.size w1 wr)) (fun i _ => n - (intOf i).toNat)
  case atStart => exact ⟨1, by omega, h1, rfl, HG0, HW0⟩
  case round =>
    obtain ⟨m, hm1, hmn, rfl, hrow, hbel⟩ := hrel
    by_cases hlt : m < n
    · go_wp2_with fail
      refine rep_region _ _ _ rfl w1.heap.size n m (min m (n - m)) (strC x) cur rfl rfl (by omega) hlt hcs (by omega) rfl rfl hrow.out ?_
      intro act W2 hdf hsz hkeep hn8 hrow' hturn
      have hk0 : act.tmps.getD 0 undef = (.slice (some ⟨g, 0, none⟩) 1 1) := hkeep 0 (by kernel_rfl)
      have hk1 : act.tmps.getD 1 undef = (.int .i64 (n : Int)) := hkeep 1 (by kernel_rfl)
      have hk2 : act.tmps.getD 2 undef = undef := hkeep 2 (by kernel_rfl)
      have hk3 : act.tmps.getD 3 undef = undef := hkeep 3 (by kernel_rfl)
      have hk4 : act.tmps.getD 4 undef = (.slice none 0 0) := hkeep 4 (by kernel_rfl)
      have hk5 : act.tmps.getD 5 undef = (.int .u64 0) := hkeep 5 (by kernel_rfl)
      have hk6 : act.tmps.getD 6 undef = (.int .u64 (n : Int)) := hkeep 6 (by kernel_rfl)
      have hk7 : act.tmps.getD 7 undef = (.slice (some ⟨w1.heap.size, 0, none⟩) n n) := hkeep 7 (by kernel_rfl)
      have hk9 : act.tmps.getD 9 undef = (.int .i64 (n : Int)) := hkeep 9 (by kernel_rfl)
      have hk10 : act.tmps.getD 10 undef = (.bool false) := hkeep 10 (by kernel_rfl)
      have hk11 : act.tmps.getD 11 undef = undef := hkeep 11 (by kernel_rfl)
      have hk12 : act.tmps.getD 12 undef = (.tuple #[.int .u64 0, .int .u64 (n : Int)]) := hkeep 12 (by kernel_rfl)
      have hk13 : act.tmps.getD 13 undef = (.slice (some ⟨g, 0, none⟩) 1 1) := hkeep 13 (by kernel_rfl)
      have hk14 : act.tmps.getD 14 undef = (.int .i64 1) := hkeep 14 (by kernel_rfl)
      have hk15 : act.tmps.getD 15 undef = (.int .u64 1) := hkeep 15 (by kernel_rfl)
      have hk16 : act.tmps.getD 16 undef = (.int .i64 (n : Int)) := hkeep 16 (by kernel_rfl)
      have hk17 : act.tmps.getD 17 undef = (.int .u64 (n : Int)) := hkeep 17 (by kernel_rfl)
      have hk18 : act.tmps.getD 18 undef = (.tuple #[.int .u64 0, .int .u64 (n : Int)]) := hkeep 18 (by kernel_rfl)
      have hk19 : act.tmps.getD 19 undef = (.int .u64 0) := hkeep 19 (by kernel_rfl)
      have hk20 : act.tmps.getD 20 undef = (.int .u64 (n : Int)) := hkeep 20 (by kernel_rfl)
      have hk21 : act.tmps.getD 21 undef = (.int .u64 0) := hkeep 21 (by kernel_rfl)
      have hk22 : act.tmps.getD 22 undef = (.bool false) := hkeep 22 (by kernel_rfl)
      have hk23 : act.tmps.getD 23 undef = (.bool false) := hkeep 23 (by kernel_rfl)
      have hk24 : act.tmps.getD 24 undef = (.int .u64 (n : Int)) := hkeep 24 (by kernel_rfl)
      have hk25 : act.tmps.getD 25 undef = (.bool (decide (9223372036854775807 < (n : Int)))) := hkeep 25 (by kernel_rfl)
      have hk26 : act.tmps.getD 26 undef = (.bool (decide (9223372036854775807 < (n : Int)))) := hkeep 26 (by kernel_rfl)
      have hk27 : act.tmps.getD 27 undef = undef := hkeep 27 (by kernel_rfl)
      have hk28 : act.tmps.getD 28 undef = (.int .u64 (n : Int)) := hkeep 28 (by kernel_rfl)
      have hk29 : act.tmps.getD 29 undef = (.int .i64 (n : Int)) := hkeep 29 (by kernel_rfl)
      have hk30 : act.tmps.getD 30 undef = (.slice (some ⟨w1.heap.size, 0, none⟩) n n) := hkeep 30 (by kernel_rfl)
      have hk31 : act.tmps.getD 31 undef = (.slice (some ⟨w1.heap.size, 0, none⟩) n n) := hkeep 31 (by kernel_rfl)
      have hk32 : act.tmps.getD 32 undef = (.slice (some ⟨g, 0, none⟩) 1 1) := hkeep 32 (by kernel_rfl)
      have hk33 : act.tmps.getD 33 undef = (.int .i64 1) := hkeep 33 (by kernel_rfl)
      have hk47 : act.tmps.getD 47 undef = undef := hkeep 47 (by kernel_rfl)
      obtain ⟨tm, df⟩ := act
      obtain rfl : df = [] := hdf
      clear hkeep
      obtain ⟨f, rfl, hn8, hk0, hk1, hk2, hk3, hk4, hk5, hk6, hk7, hk9, hk10, hk11, hk12, hk13, hk14, hk15, hk16, hk17, hk18, hk19, hk20, hk21, hk22, hk23, hk24, hk25, hk26, hk27, hk28, hk29, hk30, hk31, hk32, hk33, hk47⟩ : ∃ f : Nat → Value, tm = ((List.range 48).map f).toArray ∧ f 8 = .int .i64 ((m + min m (n - m) : Nat) : Int) ∧ f 0 = (.slice (some ⟨g, 0, none⟩) 1 1) ∧ f 1 = (.int .i64 (n : Int)) ∧ f 2 = undef ∧ f 3 = undef ∧ f 4 = (.slice none 0 0) ∧ f 5 = (.int .u64 0) ∧ f 6 = (.int .u64 (n : Int)) ∧ f 7 = (.slice (some ⟨w1.heap.size, 0, none⟩) n n) ∧ f 9 = (.int .i64 (n : Int)) ∧ f 10 = (.bool false) ∧ f 11 = undef ∧ f 12 = (.tuple #[.int .u64 0, .int .u64 (n : Int)]) ∧ f 13 = (.slice (some ⟨g, 0, none⟩) 1 1) ∧ f 14 = (.int .i64 1) ∧ f 15 = (.int .u64 1) ∧ f 16 = (.int .i64 (n : Int)) ∧ f 17 = (.int .u64 (n : Int)) ∧ f 18 = (.tuple #[.int .u64 0, .int .u64 (n : Int)]) ∧ f 19 = (.int .u64 0) ∧ f 20 = (.int .u64 (n : Int)) ∧ f 21 = (.int .u64 0) ∧ f 22 = (.bool false) ∧ f 23 = (.bool false) ∧ f 24 = (.int .u64 (n : Int)) ∧ f 25 = (.bool (decide (9223372036854775807 < (n : Int)))) ∧ f 26 = (.bool (decide (9223372036854775807 < (n : Int)))) ∧ f 27 = undef ∧ f 28 = (.int .u64 (n : Int)) ∧ f 29 = (.int .i64 (n : Int)) ∧ f 30 = (.slice (some ⟨w1.heap.size, 0, none⟩) n n) ∧ f 31 = (.slice (some ⟨w1.heap.size, 0, none⟩) n n) ∧ f 32 = (.slice (some ⟨g, 0, none⟩) 1 1) ∧ f 33 = (.int .i64 1) ∧ f 47 = undef := ⟨fun i => tm.getD i undef, arr_eta tm hsz, hn8, hk0, hk1, hk2, hk3, hk4, hk5, hk6, hk7, hk9, hk10, hk11, hk12, hk13, hk14, hk15, hk16, hk17, hk18, hk19, hk20, hk21, hk22, hk23, hk24, hk25, hk26, hk27, hk28, hk29, hk30, hk31, hk32, hk33, hk47⟩
      rewrite [show ((List.range 48).map f).toArray = #[f 0, f 1, f 2, f 3, f 4, f 5, f 6, f 7, f 8, f 9, f 10, f 11, f 12, f 13, f 14, f 15, f 16, f 17, f 18, f 19, f 20, f 21, f 22, f 23, f 24, f 25, f 26, f 27, f 28, f 29, f 30, f 31, f 32, f 33, f 34, f 35, f 36, f 37, f 38, f 39, f 40, f 41, f 42, f 43, f 44, f 45, f 46, f 47] from rfl]
      rewrite [hn8, hk0, hk1, hk2, hk3, hk4, hk5, hk6, hk7, hk9, hk10, hk11, hk12, hk13, hk14, hk15, hk16, hk17, hk18, hk19, hk20, hk21, hk22, hk23, hk24, hk25, hk26, hk27, hk28, hk29, hk30, hk31, hk32, hk33, hk47]
      dsimp only
      clear hsz hn8 hk0 hk1 hk2 hk3 hk4 hk5 hk6 hk7 hk9 hk10 hk11 hk12 hk13 hk14 hk15 hk16 hk17 hk18 hk19 hk20 hk21 hk22 hk23 hk24 hk25 hk26 hk27 hk28 hk29 hk30 hk31 hk32 hk33 hk47
      have HB2 : Kept (Below w1.heap.size w1 W2) := ⟨{
        os := hturn.os.trans hbel.out.os
        tape := hturn.tape.trans hbel.out.tape
        output := hturn.output.trans hbel.out.output
        size := Nat.le_trans hbel.out.size hturn.size
        block := fun b hb => (hturn.block b (Nat.lt_of_lt_of_le hb hbel.out.size) (by omega)).trans (hbel.out.block b hb) }⟩
      have HR2 := Kept.mk hrow'
      clear hrow' hturn hrow hbel
      obtain ⟨q, hq⟩ : ∃ q, q = m + min m (n - m) := ⟨_, rfl⟩
      rewrite [← hq]
      rw [← hq] at HR2
      have hq1 : m < q := by omega
      have hq2 : q ≤ n := by omega
      clear hq
      go_wp2_with fail
      go_roundw
      case rel => exact ⟨q, by omega, hq2, rfl, HR2, HB2⟩
      case measure => simp [intOf]; omega
    · obtain rfl : m = n := by omega
      go_wp2
      go_ret
      exact ⟨_, rfl, .inr ⟨w1.heap.size, m, repA (strC x) m cur, by rw [List.length_replicate]; rfl, Nat.le_refl _, (Array.getElem?_eq_some_iff.1 hrow.out).1, hrow.out, by rw [List.length_replicate]; exact Nat.le_refl _, by rw [repA_size _ _ _ (by omega)]; exact hcs, by rw [List.length_replicate]; simp [repA]⟩, hbel.out⟩
end Go.Proofs.YtpjafjnokgeifaaGreatDoor
end
section
namespace Go.Proofs.YtpjafjnokgeifaaGreatDoor
open Go.RowKit
set_option linter.unusedVariables false
set_option linter.unusedSimpArgs false
attribute [local irreducible] set5

def newB (n m : Int) : Bool := decide (1 ≤ n) && decide (n ≤ 6) && (decide (1 ≤ m) && decide (m ≤ 8192))
def newF (n m : Int) : Fl := if newB n m = true then ⟨List.replicate n.toNat (List.replicate m.toNat 255), List.replicate n.toNat 0, -1, [], false⟩ else ⟨[], [], 0, [], false⟩
def newE (n m : Int) : Int := if newB n m = true then 0 else 1
theorem Tryz.infoInt : (Tryz.prog.info? 3).map (fun i => (i.zero, i.size, i.bytes)) = some (some (.int .i64 0), 1, 8) := by kernel_rfl
set_option maxRecDepth 100000 in
set_option maxHeartbeats 2000000 in
theorem new_no1 (n m : Int) (w : World) (h : (decide (1 ≤ n) && decide (n ≤ 6)) = false) :
    Calls Tryz.prog 39 #[.int .i64 n, .int .i64 m] w fun e w' => ∃ v', e = .returned (.tuple #[v', .int .i64 1]) ∧ isFlN w.heap.size ⟨[], [], 0, [], false⟩ v' w' ∧ Below w.heap.size w w' := by
  have HH := Kept.mk h
  clear h
  have hb0 : Below w.heap.size w (w.alloc (.cells #[.slice none 0 0, .slice none 0 0, .int .i64 0, .string ⟨#[]⟩, .bool false] 25)) := (Below.refl _ _).alloc (Nat.le_refl _) _
  have hc := cells5_new w 25 (.slice none 0 0) (.slice none 0 0) (.int .i64 0) (.string ⟨#[]⟩) (.bool false)
  have HC := Kept.mk hc
  have HF := Kept.mk (free5_new w #[.slice none 0 0, .slice none 0 0, .int .i64 0, .string ⟨#[]⟩, .bool false] 25)
  have HR := Kept.mk (hc.set5_ (.slice none 0 0) (.slice none 0 0) (.int .i64 0) (.string ⟨#[]⟩) (.bool false))
  have HB := Kept.mk (below_set5 hb0 (Nat.le_refl _) (.slice none 0 0) (.slice none 0 0) (.int .i64 0) (.string ⟨#[]⟩) (.bool false))
  clear hb0 hc
  go_enter Tryz.func39, Tryz.ntmps39
  go_wp2_with fail
  refine (isPages_any n _).mono ?_
  rintro e w1 ⟨rfl, rfl⟩
  rewrite [HH.out]
  go_wp2_with (refine wpList_store5 rfl (.tmp 4) (.tmp 15) rfl w.heap.size (.slice none 0 0) (.slice none 0 0) (.int .i64 0) (.string ⟨#[]⟩) (.bool false) rfl rfl HC.out HF.out rfl rfl rfl rfl rfl ?_)
  exact bodyPost_ret (results2 rfl _ _ w.heap.size _ _ _ _ _ (.int .i64 1) rfl rfl HR.out) rfl ⟨_, rfl, ⟨_, _, rfl, .inl ⟨rfl, rfl⟩, .inl ⟨rfl, rfl⟩⟩, HB.out⟩
set_option maxRecDepth 100000 in
set_option maxHeartbeats 2000000 in
theorem new_no2 (n m : Int) (w : World) (h : (decide (1 ≤ n) && decide (n ≤ 6)) = true) (h2 : (decide (1 ≤ m) && decide (m ≤ 8192)) = false) :
    Calls Tryz.prog 39 #[.int .i64 n, .int .i64 m] w fun e w' => ∃ v', e = .returned (.tuple #[v', .int .i64 1]) ∧ isFlN w.heap.size ⟨[], [], 0, [], false⟩ v' w' ∧ Below w.heap.size w w' := by
  have HH := Kept.mk h
  have HH2 := Kept.mk h2
  clear h h2
  have hb0 : Below w.heap.size w (w.alloc (.cells #[.slice none 0 0, .slice none 0 0, .int .i64 0, .string ⟨#[]⟩, .bool false] 25)) := (Below.refl _ _).alloc (Nat.le_refl _) _
  have hc := cells5_new w 25 (.slice none 0 0) (.slice none 0 0) (.int .i64 0) (.string ⟨#[]⟩) (.bool false)
  have HC := Kept.mk hc
  have HF := Kept.mk (free5_new w #[.slice none 0 0, .slice none 0 0, .int .i64 0, .string ⟨#[]⟩, .bool false] 25)
  have HR := Kept.mk (hc.set5_ (.slice none 0 0) (.slice none 0 0) (.int .i64 0) (.string ⟨#[]⟩) (.bool false))
  have HB := Kept.mk (below_set5 hb0 (Nat.le_refl _) (.slice none 0 0) (.slice none 0 0) (.int .i64 0) (.string ⟨#[]⟩) (.bool false))
  clear hb0 hc
  go_enter Tryz.func39, Tryz.ntmps39
  go_wp2_with fail
  refine (isPages_any n _).mono ?_
  rintro e w1 ⟨rfl, rfl⟩
  rewrite [HH.out]
  go_wp2_with fail
  refine (isSize_any m _).mono ?_
  rintro e w1 ⟨rfl, rfl⟩
  rewrite [HH2.out]
  go_wp2_with (refine wpList_store5 rfl (.tmp 4) (.tmp 15) rfl w.heap.size (.slice none 0 0) (.slice none 0 0) (.int .i64 0) (.string ⟨#[]⟩) (.bool false) rfl rfl HC.out HF.out rfl rfl rfl rfl rfl ?_)
  exact bodyPost_ret (results2 rfl _ _ w.heap.size _ _ _ _ _ (.int .i64 1) rfl rfl HR.out) rfl ⟨_, rfl, ⟨_, _, rfl, .inl ⟨rfl, rfl⟩, .inl ⟨rfl, rfl⟩⟩, HB.out⟩

set_option maxRecDepth 100000 in
set_option maxHeartbeats 2000000 in
theorem new_yes (n m : Nat) (w : World) (h1 : 1 ≤ n) (h6 : n ≤ 6) (h2 : 1 ≤ m) (h3 : m ≤ 8192) :
    Calls Tryz.prog 39 #[.int .i64 (n : Int), .int .i64 (m : Int)] w fun e w' => ∃ v', e = .returned (.tuple #[v', .int .i64 0]) ∧ isFlN w.heap.size ⟨List.replicate n (List.replicate m 255), List.replicate n 0, -1, [], false⟩ v' w' ∧ Below w.heap.size w w' := by
  have HH := Kept.mk (show (decide (1 ≤ (n : Int)) && decide ((n : Int) ≤ 6)) = true by simp; omega)
  have HH2 := Kept.mk (show (decide (1 ≤ (m : Int)) && decide ((m : Int) ≤ 8192)) = true by simp; omega)
  have HO := Kept.mk (show onesL (m : Int) = List.replicate m 255 by unfold onesL; rw [if_pos (by omega), Int.toNat_natCast])
  have hmk := fun W => run_make_row' (P := Tryz.prog) 23 3 (.int .i64 0) 8 Tryz.underlying23 Tryz.infoInt rfl .i64 .i64 n (by omega) (by omega) W
  have hb0 : Below w.heap.size w (w.alloc (.cells #[.slice none 0 0, .slice none 0 0, .int .i64 0, .string ⟨#[]⟩, .bool false] 25)) := (Below.refl _ _).alloc (Nat.le_refl _) _
  have HB0 := Kept.mk hb0
  have HC := Kept.mk (cells5_new w 25 (.slice none 0 0) (.slice none 0 0) (.int .i64 0) (.string ⟨#[]⟩) (.bool false))
  have HF := Kept.mk (free5_new w #[.slice none 0 0, .slice none 0 0, .int .i64 0, .string ⟨#[]⟩, .bool false] 25)
  clear hb0
  go_enter Tryz.func39, Tryz.ntmps39
  go_wp2_with fail
  refine (isPages_any n _).mono ?_
  rintro e w1 ⟨rfl, rfl⟩
  rewrite [HH.out]
  go_wp2_with fail
  refine (isSize_any m _).mono ?_
  rintro e w1 ⟨rfl, rfl⟩
  rewrite [HH2.out]
  go_wp2_with fail
  refine (ones_any m _).mono ?_
  rintro e w2 ⟨rfl, hb2⟩
  rewrite [HO.out]
  have HB2 := Kept.mk hb2
  clear hb2
  obtain ⟨pg, hpg⟩ : ∃ pg, pg = List.replicate m (255 : UInt8) := ⟨_, rfl⟩
  rewrite [← hpg]
  have HPG := Kept.mk hpg
  clear hpg
  go_wp2_with fail
  refine (repeat_any pg n w2.heap.size _ h1 h6 (by simp) (by rw [World.cell?_alloc_new]; rfl)).mono ?_
  rintro e w3 ⟨vp', rfl, hp', hb3⟩
  obtain ⟨W4, hW4⟩ : ∃ W4, W4 = w3.alloc (.cells (madeCells #[Value.int .i64 0] n) 3) := ⟨_, rfl⟩
  have hb34 : Below w3.heap.size w3 W4 := by rw [hW4]; exact (Below.refl _ _).alloc (Nat.le_refl _) _
  have hbz : Below (w2.alloc (.cells #[Value.string ⟨pg.toArray⟩] 9)).heap.size (w2.alloc (.cells #[Value.string ⟨pg.toArray⟩] 9)) W4 := hb3.trans (hb34.mono hb3.size)
  have hbr := ((Below.refl w2.heap.size w2).alloc (Nat.le_refl _) (.cells #[Value.string ⟨pg.toArray⟩] 9)).trans (hbz.mono (by simp))
  have hbq := HB2.out.trans (hbr.mono HB2.out.size)
  have hs2 : w.heap.size < w2.heap.size := by have := HB2.out.size; simp at this; omega
  have hs3 : w2.heap.size < w3.heap.size := by have := hb3.size; simp at this; omega
  have hs4 : W4.heap.size = w3.heap.size + 1 := by rw [hW4]; simp
  have hrow : W4.heap[w3.heap.size]? = some (.cells (madeCells #[Value.int .i64 0] n) 3 (0, 0)) := by rw [hW4]; show (w3.heap.push _)[w3.heap.size]? = _; simp
  have hq' : isBtw (w.heap.size + 1) W4.heap.size 3 ((List.replicate n (0 : Int)).map intC) (.slice (some ⟨w3.heap.size, 0, none⟩) n n) W4 := by
    refine .inr ⟨w3.heap.size, n, _, by simp, by omega, by omega, hrow, by simp, by simp [size_madeCells], ?_⟩
    apply List.ext_getElem?
    intro j
    by_cases hj : j < n
    · rw [List.getElem?_take, if_pos (by simpa using hj), Array.getElem?_toList, madeCells_get _ _ _ hj]
      simp [hj, intC]
    · rw [List.getElem?_eq_none (by simp; omega), List.getElem?_eq_none (by simp; omega)]
  have hpp : isBtw (w.heap.size + 1) W4.heap.size 9 ((List.replicate n pg).map strC) vp' W4 := by
    rw [List.map_replicate]
    exact (hp'.grow hb34).weak (by simp; omega) (by omega)
  obtain ⟨gp, capp, _, hvp, _⟩ := hpp.some_ (by simp; omega)
  rw [List.length_map, List.length_replicate] at hvp
  subst hvp
  obtain ⟨K1, K2, K3, K4, K5⟩ := told (G := ⟨List.replicate n pg, List.replicate n 0, -1, [], false⟩) (B := w.heap.size + 1) (g := w.heap.size) (by omega) (by simp) HB0.out (Nat.le_refl _) HC.out HF.out hbq hpp hq'
  have oo1 := hpp.one
  clear hpp hq' hrow hbq hbr hbz hp' hb3 hb34 hs2 hs3 hs4
  subst hW4
  go_wp2_with (refine wpList_store5 rfl (.tmp 4) (.tmp 24) rfl w.heap.size (.slice (some ⟨gp, 0, none⟩) n capp) (.slice (some ⟨w3.heap.size, 0, none⟩) n n) (.int .i64 (-1)) (.string ⟨#[]⟩) (.bool false) rfl rfl K1.out K2.out rfl rfl rfl rfl rfl ?_)
  have K4' := K4.out
  rw [HPG.out] at K4'
  exact bodyPost_ret (results2 rfl _ _ w.heap.size _ _ _ _ _ (.int .i64 0) rfl rfl K3.out) rfl ⟨_, rfl, K4', K5.out⟩
theorem new_any (n m : Int) (w : World) :
    Calls Tryz.prog 39 #[.int .i64 n, .int .i64 m] w fun e w' => ∃ v', e = .returned (.tuple #[v', .int .i64 (newE n m)]) ∧ isFlN w.heap.size (newF n m) v' w' ∧ Below w.heap.size w w' := by
  cases h : (decide (1 ≤ n) && decide (n ≤ 6)) with
  | false =>
    have hb : newB n m = false := by unfold newB; rw [h]; rfl
    rw [show newE n m = 1 by simp [newE, hb], show newF n m = ⟨[], [], 0, [], false⟩ by simp [newF, hb]]
    exact new_no1 n m w h
  | true =>
    cases h2 : (decide (1 ≤ m) && decide (m ≤ 8192)) with
    | false =>
      have hb : newB n m = false := by unfold newB; rw [h, h2]; rfl
      rw [show newE n m = 1 by simp [newE, hb], show newF n m = ⟨[], [], 0, [], false⟩ by simp [newF, hb]]
      exact new_no2 n m w h h2
    | true =>
      have hb : newB n m = true := by unfold newB; rw [h, h2]; rfl
      simp only [Bool.and_eq_true, decide_eq_true_eq] at h h2
      obtain ⟨a, rfl⟩ := Int.eq_ofNat_of_zero_le (show 0 ≤ n by omega)
      obtain ⟨b, rfl⟩ := Int.eq_ofNat_of_zero_le (show 0 ≤ m by omega)
      rw [show newE a b = 0 by simp [newE, hb], show newF a b = ⟨List.replicate a (List.replicate b 255), List.replicate a 0, -1, [], false⟩ by simp [newF, hb]]
      exact new_yes a b w (by omega) (by omega) (by omega) (by omega)
end Go.Proofs.YtpjafjnokgeifaaGreatDoor
end
section
namespace Go.Proofs.YtpjafjnokgeifaaGreatDoor
open Go.RowKit
set_option linter.unusedVariables false
set_option linter.unusedSimpArgs false

/-- Block g holds the device G. -/
def Var (w : World) (g : Nat) (G : Fl) : Prop := ∃ vp vw, Cells5 w g vp vw (.int .i64 G.fuse) (strC G.torn) (.bool G.dead) ∧ isCells (G.pages.map strC) vp w ∧ isCells (G.wear.map intC) vw w
theorem Var.keep {w w' : World} {g : Nat} {G : Fl} (h : Var w g G) (hb : Below w.heap.size w w') : Var w' g G := by
  obtain ⟨vp, vw, hc, hp, hq⟩ := h
  exact ⟨vp, vw, hc.keep hb hc.1, stable_cells _ _ _ _ hp hb, stable_cells _ _ _ _ hq hb⟩
theorem Var.lt {w : World} {g : Nat} {G : Fl} (h : Var w g G) : g < w.heap.size := by obtain ⟨_, _, hc, _⟩ := h; exact hc.1
theorem Var.open_ {w : World} {g : Nat} {G : Fl} (h : Var w g G) : ∃ vp vw, isFl G (.agg #[vp, vw, .int .i64 G.fuse, strC G.torn, .bool G.dead]) w ∧ w.cell? ⟨g, 0, none⟩ = some vp ∧ w.cell? ⟨g, 1, none⟩ = some vw ∧ w.cell? ⟨g, 2, none⟩ = some (.int .i64 G.fuse) ∧ w.cell? ⟨g, 3, none⟩ = some (strC G.torn) ∧ w.cell? ⟨g, 4, none⟩ = some (.bool G.dead) := by
  obtain ⟨vp, vw, hc, hp, hq⟩ := h
  exact ⟨vp, vw, ⟨vp, vw, rfl, hp, hq⟩, hc.2.1, hc.2.2.1, hc.2.2.2.1, hc.2.2.2.2.1, hc.2.2.2.2.2⟩
/-- A parameter's box. -/
theorem var_box (w : World) (G : Fl) (vp vw : Value) (hp : isCells (G.pages.map strC) vp w) (hq : isCells (G.wear.map intC) vw w) :
    Kept (Below w.heap.size w (w.alloc (.cells #[vp, vw, .int .i64 G.fuse, strC G.torn, .bool G.dead] 25))) ∧ Kept (Var (w.alloc (.cells #[vp, vw, .int .i64 G.fuse, strC G.torn, .bool G.dead] 25)) w.heap.size G) := by
  have hb : Below w.heap.size w (w.alloc (.cells #[vp, vw, .int .i64 G.fuse, strC G.torn, .bool G.dead] 25)) := (Below.refl _ _).alloc (Nat.le_refl _) _
  exact ⟨⟨hb⟩, ⟨⟨vp, vw, cells5_new w 25 _ _ _ _ _, stable_cells _ _ _ _ hp hb, stable_cells _ _ _ _ hq hb⟩⟩⟩
/-- A new variable, in which a device is laid down. -/
theorem var_new (w : World) (G : Fl) (vp vw : Value) (hp : isCells (G.pages.map strC) vp w) (hq : isCells (G.wear.map intC) vw w) :
    Kept (Cells5 (w.alloc (.cells #[.slice none 0 0, .slice none 0 0, .int .i64 0, .string ⟨#[]⟩, .bool false] 25)) w.heap.size (.slice none 0 0) (.slice none 0 0) (.int .i64 0) (.string ⟨#[]⟩) (.bool false)) ∧
    Kept (Free5 (w.alloc (.cells #[.slice none 0 0, .slice none 0 0, .int .i64 0, .string ⟨#[]⟩, .bool false] 25)) w.heap.size) ∧
    Kept (Below w.heap.size w (set5 (w.alloc (.cells #[.slice none 0 0, .slice none 0 0, .int .i64 0, .string ⟨#[]⟩, .bool false] 25)) w.heap.size vp vw (.int .i64 G.fuse) (strC G.torn) (.bool G.dead))) ∧
    Kept (Var (set5 (w.alloc (.cells #[.slice none 0 0, .slice none 0 0, .int .i64 0, .string ⟨#[]⟩, .bool false] 25)) w.heap.size vp vw (.int .i64 G.fuse) (strC G.torn) (.bool G.dead)) w.heap.size G) := by
  have hb : Below w.heap.size w (w.alloc (.cells #[.slice none 0 0, .slice none 0 0, .int .i64 0, .string ⟨#[]⟩, .bool false] 25)) := (Below.refl _ _).alloc (Nat.le_refl _) _
  have hc := cells5_new w 25 (.slice none 0 0) (.slice none 0 0) (.int .i64 0) (.string ⟨#[]⟩) (.bool false)
  have hb5 := below_set5 hb (Nat.le_refl _) vp vw (.int .i64 G.fuse) (strC G.torn) (.bool G.dead)
  exact ⟨⟨hc⟩, ⟨free5_new w _ _⟩, ⟨hb5⟩, ⟨⟨vp, vw, hc.set5_ _ _ _ _ _, stable_cells _ _ _ _ hp hb5, stable_cells _ _ _ _ hq hb5⟩⟩⟩
theorem fl_grow {F : Fl} {v : Value} {w w' : World} (h : isFl F v w) (hb : Below w.heap.size w w') : isFl F v w' := stable_fl F v w w' h hb
/-- Its rows, where they are not empty. -/
theorem Var.rows {w : World} {g : Nat} {G : Fl} (h : Var w g G) {n m : Nat} (hn : G.pages.length = n) (hm : G.wear.length = m) (n0 : 0 < n) (m0 : 0 < m) : ∃ b off cap b2 off2 cap2,
    Cells5 w g (.slice (some ⟨b, off, none⟩) n cap) (.slice (some ⟨b2, off2, none⟩) m cap2) (.int .i64 G.fuse) (strC G.torn) (.bool G.dead) ∧ isFl G (.agg #[.slice (some ⟨b, off, none⟩) n cap, .slice (some ⟨b2, off2, none⟩) m cap2, .int .i64 G.fuse, strC G.torn, .bool G.dead]) w ∧
    b < w.heap.size ∧ b2 < w.heap.size ∧ (∀ (j : Nat) (p : List UInt8), G.pages[j]? = some p → w.cell? ⟨b, off + j, none⟩ = some (.string ⟨p.toArray⟩)) ∧ (∀ (j : Nat) (x : Int), G.wear[j]? = some x → w.cell? ⟨b2, off2 + j, none⟩ = some (.int .i64 x)) := by
  obtain ⟨vp, vw, hc, hp, hq⟩ := h
  obtain ⟨b, off, cap, rfl, hb, hcp⟩ := hp.some_ (by rw [List.length_map]; omega)
  obtain ⟨b2, off2, cap2, rfl, hb2, hcq⟩ := hq.some_ (by rw [List.length_map]; omega)
  rw [List.length_map, hn] at hc hp
  rw [List.length_map, hm] at hc hq
  exact ⟨b, off, cap, b2, off2, cap2, hc, ⟨_, _, rfl, hp, hq⟩, hb, hb2, fun j p hj => hcp j _ (by rw [List.getElem?_map, hj]; rfl), fun j x hj => hcq j _ (by rw [List.getElem?_map, hj]; rfl)⟩

def bigPage (p : List UInt8) : Bool := decide (4000 < (p.length : Int)) && decide ((p.length : Int) ≤ 8192)
def fewB (F : Fl) : Bool := !((F.pages.take 9).any bigPage) && decide ((F.pages.length : Int) ≤ 8) && decide ((F.wear.length : Int) ≤ 20)

theorem few_none (F : Fl) (v : Value) (w : World) (hv : isFl F v w) (h0 : F.pages = []) :
    Calls Tryz.prog 11 #[v] w fun e w' => e = .returned (.bool (fewB F)) ∧ Below w.heap.size w w' := by
  obtain ⟨vp, vw, rfl, hp, hq⟩ := hv
  obtain ⟨a, cap, rfl⟩ := hp.len
  obtain ⟨a2, cap2, rfl⟩ := hq.len
  have hl : (F.pages.map strC).length = 0 := by simp [h0]
  have hl2 : (F.wear.map intC).length = F.wear.length := by simp
  rw [hl, hl2]
  obtain ⟨hB, hV⟩ := var_box w F (.slice a 0 cap) (.slice a2 F.wear.length cap2) (by rw [hl] at hp; exact hp) (by rw [hl2] at hq; exact hq)
  have HF := Kept.mk (show fewB F = decide ((F.wear.length : Int) ≤ 20) by simp [fewB, h0])
  clear hp hq hl hl2 hV
  go_enter Tryz.func11, Tryz.ntmps11
  go_wp2
  go_loop [3] (fun i => i = .int .i64 0) (fun _ => 0)
  case atStart => rfl
  case round =>
    subst hrel
    go_wp2
    go_ret
    exact ⟨by rw [HF.out]; rfl, hB.out⟩

theorem any_take {α : Type} (p : α → Bool) (l : List α) (k : Nat) (h : k < l.length) : (l.take (k + 1)).any p = ((l.take k).any p || p l[k]) := by
  rw [List.take_succ_eq_append_getElem h, List.any_append]; simp
theorem any_more {α : Type} (p : α → Bool) (l : List α) (k m : Nat) (hk : k ≤ m) (h : (l.take k).any p = true) : (l.take m).any p = true := by
  rw [List.any_eq_true] at h ⊢
  obtain ⟨x, hx, hp⟩ := h
  refine ⟨x, ?_, hp⟩
  rw [show l.take k = (l.take m).take k by rw [List.take_take, Nat.min_eq_left hk]] at hx
  exact List.mem_of_mem_take hx
set_option maxRecDepth 20000 in
set_option maxHeartbeats 1000000 in
theorem few_some (F : Fl) (v : Value) (w : World) (hv : isFl F v w) (h0 : 0 < F.pages.length) :
    Calls Tryz.prog 11 #[v] w fun e w' => e = .returned (.bool (fewB F)) ∧ Below w.heap.size w w' := by
  obtain ⟨vp, vw, rfl, hp, hq⟩ := hv
  obtain ⟨b, off, cap, rfl, hb, hc⟩ := hp.some_ (by simpa using h0)
  obtain ⟨a2, cap2, rfl⟩ := hq.len
  have hl : (F.pages.map strC).length = F.pages.length := by simp
  have hl2 : (F.wear.map intC).length = F.wear.length := by simp
  rw [hl, hl2]
  obtain ⟨hB, hV⟩ := var_box w F (.slice (some ⟨b, off, none⟩) F.pages.length cap) (.slice a2 F.wear.length cap2) (by rw [hl] at hp; exact hp) (by rw [hl2] at hq; exact hq)
  have HC := Kept.mk (show ∀ (k : Nat) (p : List UInt8), F.pages[k]? = some p → (w.alloc (.cells #[.slice (some ⟨b, off, none⟩) F.pages.length cap, .slice a2 F.wear.length cap2, .int .i64 F.fuse, strC F.torn, .bool F.dead] 25)).cell? ⟨b, off + k, none⟩ = some (.string ⟨p.toArray⟩) from
    fun k p hk => (hB.out.cell (p := ⟨b, off + k, none⟩) hb).trans (hc k _ (by rw [List.getElem?_map, hk]; rfl)))
  have HF := Kept.mk (show fewB F = (!((F.pages.take 9).any bigPage) && decide ((F.pages.length : Int) ≤ 8) && decide ((F.wear.length : Int) ≤ 20)) from rfl)
  obtain ⟨n, hn⟩ : ∃ n, n = F.pages.length := ⟨_, rfl⟩
  have HN := Kept.mk hn
  rw [← hn] at HF h0 hB HC ⊢
  clear hp hq hl hl2 hV hc hn
  go_enter Tryz.func11, Tryz.ntmps11
  go_wp2
  go_loop [3] (fun i => ∃ k : Nat, k ≤ n ∧ k ≤ 9 ∧ i = .int .i64 (k : Int) ∧ Kept ((F.pages.take k).any bigPage = false)) (fun i => n - (intOf i).toNat)
  case atStart => exact ⟨0, Nat.zero_le _, by omega, rfl, ⟨rfl⟩⟩
  case round =>
    obtain ⟨k, hk, hk9, rfl, HK⟩ := hrel
    by_cases hlt : k < n
    · have d1 : decide ((k : Int) < (n : Int)) = true := by simpa using hlt
      by_cases h8 : k ≤ 8
      · have d2 : decide ((k : Int) ≤ 8) = true := by simp; omega
        have hlp : k < F.pages.length := by rw [← HN.out]; exact hlt
        have hcell := HC.out k F.pages[k] (List.getElem?_eq_getElem hlp)
        have HA := Kept.mk (any_take bigPage F.pages k hlp)
        have hsz : (⟨(F.pages[k]).toArray⟩ : ByteArray).size = (F.pages[k]).length := size_mk _
        obtain ⟨p, hpd⟩ : ∃ p, p = F.pages[k] := ⟨_, rfl⟩
        rw [← hpd] at hcell HA hsz
        clear hpd
        have HBP := Kept.mk (show bigPage p = (decide (4000 < (p.length : Int)) && decide ((p.length : Int) ≤ 8192)) from rfl)
        by_cases b1 : 4000 < p.length
        · have d3 : decide (4000 < (p.length : Int)) = true := by simp; omega
          by_cases b2 : p.length ≤ 8192
          · have d4 : decide ((p.length : Int) ≤ 8192) = true := by simp; omega
            have HR := Kept.mk (show fewB F = false by
              have h9 := any_more bigPage F.pages (k + 1) 9 (by omega) (by rw [HA.out, HBP.out, d3, d4]; simp)
              rw [HF.out, h9]; rfl)
            go_wp2
            go_ret
            exact ⟨by rw [HR.out]; rfl, hB.out⟩
          · have d4 : decide ((p.length : Int) ≤ 8192) = false := by simp; omega
            have HR := Kept.mk (show (F.pages.take (k + 1)).any bigPage = false by rw [HA.out, HK.out, HBP.out, d4]; simp)
            go_wp2
            go_round
            case rel => exact ⟨k + 1, by omega, by omega, by go_num, HR⟩
            case measure => simp [intOf]; omega
        · have d3 : decide (4000 < (p.length : Int)) = false := by simp; omega
          have HR := Kept.mk (show (F.pages.take (k + 1)).any bigPage = false by rw [HA.out, HK.out, HBP.out, d3]; simp)
          go_wp2
          go_round
          case rel => exact ⟨k + 1, by omega, by omega, by go_num, HR⟩
          case measure => simp [intOf]; omega
      · have d2 : decide ((k : Int) ≤ 8) = false := by simp; omega
        have d5 : decide ((n : Int) ≤ 8) = false := by simp; omega
        have HR := Kept.mk (show fewB F = false by rw [HF.out, d5]; simp)
        go_wp2
        go_ret
        exact ⟨by rw [HR.out]; rfl, hB.out⟩
    · have d1 : decide ((k : Int) < (n : Int)) = false := by simp; omega
      obtain rfl : k = n := by omega
      have HR := Kept.mk (show fewB F = (decide ((k : Int) ≤ 8) && decide ((F.wear.length : Int) ≤ 20)) by
        rw [HF.out, List.take_of_length_le (by rw [← HN.out]; exact hk9)]
        have := HK.out
        rw [HN.out, List.take_of_length_le (Nat.le_refl _)] at this
        rw [this]; rfl)
      by_cases h8 : k ≤ 8
      · have d5 : decide ((k : Int) ≤ 8) = true := by simp; omega
        rw [d5] at HR
        go_wp2
        go_ret
        exact ⟨by rw [HR.out]; rfl, hB.out⟩
      · have d5 : decide ((k : Int) ≤ 8) = false := by simp; omega
        rw [d5] at HR
        go_wp2
        go_ret
        exact ⟨by rw [HR.out]; rfl, hB.out⟩
theorem few_any (F : Fl) (v : Value) (w : World) (hv : isFl F v w) :
    Calls Tryz.prog 11 #[v] w fun e w' => e = .returned (.bool (fewB F)) ∧ Below w.heap.size w w' := by
  by_cases h : 0 < F.pages.length
  · exact few_some F v w hv h
  · exact few_none F v w hv (List.eq_nil_of_length_eq_zero (by omega))
theorem few_facts {F : Fl} (h : fewB F = true) : F.pages.length ≤ 8 ∧ F.wear.length ≤ 20 := by
  simp only [fewB, Bool.and_eq_true, decide_eq_true_eq] at h
  omega
end Go.Proofs.YtpjafjnokgeifaaGreatDoor
end
section
namespace Go.Proofs.YtpjafjnokgeifaaGreatDoor
open Go.RowKit
set_option linter.unusedVariables false
set_option linter.unusedSimpArgs false

section
variable {P : Program} {ops : Array Oper} {base : World} {a0 : Act} {Q : Exit → Act → World → Prop} {kn : Nat → VP} {i : Nat} {V : VP}

/-- make([]byte, n) -/
theorem step_make (t e : TypeId) (x : Operand) (n : Nat) (hop : (ops[i]?).map (·.op) = some (.makeSlice t x x)) (hw : Wanted ops a0 kn i) (hx : Knows ops a0 kn i x (isVal (.int .i64 (n : Int))))
    (ht : P.underlying t = some (.slice e)) (hi : (P.info? e).map (fun i => (i.zero, i.size, i.bytes)) = some (some (.int .u8 0), 1, 1)) (hn : n ≤ 1000000) : FStep P ops base a0 Q kn i (isRow (List.replicate n 0)) :=
  step_mk (stable_row _) hw fun o ho a w hk hb hd => by
    have e1 : a.eval x = .int .i64 (n : Int) := hx a w hk hd
    have hr := run_make_row' (P := P) t e (.int .u8 0) 1 ht hi rfl .i64 .i64 n (by omega) (by omega) w
    unfold Oper.wp execOp
    rw [op_of hop ho]
    simp only [e1, Sem.run_bind, hr, Result.andThen_ok, Sem.run_pure]
    refine ⟨_, rfl, ⟨w.heap.size, by simp, by simp, BRow.made w e n⟩, (Below.refl _ _).alloc (Nat.le_refl _) _⟩

/-- A place in an array. -/
theorem step_at (t e : TypeId) (x : Operand) (n k g : Nat) (hop : (ops[i]?).map (·.op) = some (.indexAddr t x (.const (.int .i64 (k : Int))))) (hw : Wanted ops a0 kn i) (hx : Knows ops a0 kn i x (isVal (.pointer (some ⟨g, 0, none⟩))))
    (ht : P.underlying t = some (.array n e)) (hs : P.cellsOf e = 1) (hi : (P.info? e).map (·.size) = some 1) (hk : k < n) : FStep P ops base a0 Q kn i (isVal (.pointer (some (Addr.add ⟨g, 0, none⟩ k)))) :=
  step_pure _ hop hw fun o a w ho hk' hd => by
    have e1 : a.eval x = .pointer (some ⟨g, 0, none⟩) := hx a w hk' hd
    have e2 : a.eval (.const (.int .i64 (k : Int))) = .int .i64 (k : Int) := rfl
    unfold execOp
    rw [ho]
    simp only [e1, e2, Sem.run_bind]
    obtain ⟨ie, hie, hz⟩ := Option.map_eq_some_iff.1 hi
    have hsz : (sizeOf e).run P w = .ok 1 w := by simp [sizeOf, typeInfo, hie, hz]
    simp [Instr.indexAt, run_underlying ht, Instr.sureAddr, asIntOf, hsz, hk]

/-- What stands in a place that was there ahead of the region. -/
theorem step_cell (t : TypeId) (x : Operand) (p : Addr) (v : Value) (d : TypeDesc) (hop : (ops[i]?).map (·.op) = some (.load t x)) (hw : Wanted ops a0 kn i) (hx : Knows ops a0 kn i x (isVal (.pointer (some p))))
    (hc : base.cell? p = some v) (hp : p.block < base.heap.size) (hu : P.underlying t = some (.int .u8)) : FStep P ops base a0 Q kn i (isVal v) :=
  step_mk (stable_val _) hw fun o ho a w hk hb hd => by
    have e1 : a.eval x = .pointer (some p) := hx a w hk hd
    have e2 : w.cell? p = some v := (hb.cell hp).trans hc
    unfold Oper.wp execOp
    rw [op_of hop ho]
    simp only [e1, Instr.loadAt, Instr.sureAddr, Sem.run_bind, Sem.run_pure, Result.andThen_ok]
    simp [loadVar, isAgg, run_underlying hu, e2, Oper.upon]
    exact ⟨v, rfl, rfl, Below.refl _ _⟩

theorem step_whole (t e : TypeId) (x : Operand) (g : Nat) (n : Nat) (cs : Array Value) (t' : TypeId) (fr : Nat × Nat) (hop : (ops[i]?).map (·.op) = some (.load t x)) (hw : Wanted ops a0 kn i) (hx : Knows ops a0 kn i x (isVal (.pointer (some ⟨g, 0, none⟩))))
    (hc : base.heap[g]? = some (.cells cs t' fr)) (hu : P.underlying t = some (.array n e)) (hi : (P.info? t).map (·.size) = some cs.size) : FStep P ops base a0 Q kn i (isVal (.agg cs)) :=
  step_mk (stable_val _) hw fun o ho a w hk hb hd => by
    have e1 : a.eval x = .pointer (some ⟨g, 0, none⟩) := hx a w hk hd
    have hg : g < base.heap.size := (Array.getElem?_eq_some_iff.1 hc).1
    have e2 : w.heap[g]? = some (.cells cs t' fr) := (hb.block g hg).trans hc
    exact wp_load_row t x (op_of hop ho) g e1 t' cs fr _ e2 hu rfl hi ⟨_, rfl, rfl, Below.refl _ _⟩

theorem step_none (t : TypeId) (cs : Array Value) (hop : (ops[i]?).map (·.op) = some (.build t #[])) (hw : Wanted ops a0 kn i) (hb : P.built t [] = some cs) : FStep P ops base a0 Q kn i (isVal (.agg cs)) :=
  step_pure _ hop hw fun o a w ho hk hd => by
    unfold execOp
    rw [ho]
    simp only [Sem.run_bind]
    rw [run_build (P := P) w t _ cs (by simpa using hb)]
    rfl

/-- A literal of four bytes that were found out. -/
theorem step_row4 (t e : TypeId) (x0 x1 x2 x3 : Operand) (b0 b1 b2 b3 : UInt8) (hop : (ops[i]?).map (·.op) = some (.buildSlice t 4 #[(0, x0), (1, x1), (2, x2), (3, x3)])) (hw : Wanted ops a0 kn i)
    (h0 : Knows ops a0 kn i x0 (isVal (.int .u8 (b0.toNat : Int)))) (h1 : Knows ops a0 kn i x1 (isVal (.int .u8 (b1.toNat : Int)))) (h2 : Knows ops a0 kn i x2 (isVal (.int .u8 (b2.toNat : Int)))) (h3 : Knows ops a0 kn i x3 (isVal (.int .u8 (b3.toNat : Int))))
    (hu : P.underlying t = some (.slice e)) (hi : (P.info? e).map (fun i => (i.zero, i.size, i.bytes)) = some (some (.int .u8 0), 1, 1)) : FStep P ops base a0 Q kn i (isRow [b0, b1, b2, b3]) :=
  step_mk (stable_row _) hw fun o ho a w hk hb hd => by
    obtain ⟨ie, hie, hzz⟩ := Option.map_eq_some_iff.1 hi
    simp only [Prod.mk.injEq] at hzz
    obtain ⟨hz, hsz, _⟩ := hzz
    have e0 : a.eval x0 = _ := h0 a w hk hd
    have e1 : a.eval x1 = _ := h1 a w hk hd
    have e2 : a.eval x2 = _ := h2 a w hk hd
    have e3 : a.eval x3 = _ := h3 a w hk hd
    have hf : Instr.fill (fun i => some (i * ie.size, ie.size)) ((Array.range (4 * ie.size)).map ((Value.int .u8 0).cells[· % (Value.int .u8 0).cells.size]!)) (#[(0, x0), (1, x1), (2, x2), (3, x3)].map fun (i, x) => (i, a.eval x)).toList = some ([b0, b1, b2, b3].map fun b => Value.int .u8 (b.toNat : Int)).toArray := by
      have e4 : (#[(0, x0), (1, x1), (2, x2), (3, x3)].map fun (i, x) => (i, a.eval x)).toList = (([b0, b1, b2, b3].map fun b => Value.int .u8 (b.toNat : Int)).zipIdx 0).map fun x => (x.2, x.1) := by
        simp [e0, e1, e2, e3]
      rw [e4, hsz]
      exact Great.fill_flat _ _ (fun v hv => by obtain ⟨n, _, rfl⟩ := List.mem_map.1 hv; rfl) (by simp)
    refine wp_buildSlice t e 4 _ (op_of hop ho) _ ie (.int .u8 0) hu hie hz (by rw [hsz]; omega) (by rw [hsz]; omega) hf ?_
    refine ⟨_, rfl, ⟨w.heap.size, rfl, by simp, fun j hj => ⟨?_, World.frozen?_alloc_new w _ _ _⟩⟩, (Below.refl _ _).alloc (Nat.le_refl _) _⟩
    rw [World.cell?_alloc_new]
    simp only [List.getElem?_toArray, List.getElem?_map, List.getElem?_eq_getElem hj, Option.map_some]
end

/-- Four bytes are alike where each is. -/
theorem eql_four {P : Program} (t e : TypeId) (x0 x1 x2 x3 y0 y1 y2 y3 : Int) (b : Bool) (hu : P.underlying t = some (.array 4 e)) (he : P.underlying e = some (.int .u8)) (hi : (P.info? e).map (·.size) = some 1)
    (hb : (x0 == y0 && x1 == y1 && x2 == y2 && x3 == y3) = b) (w : World) :
    (binOp .eql t (.agg #[.int .u8 x0, .int .u8 x1, .int .u8 x2, .int .u8 x3]) (.agg #[.int .u8 y0, .int .u8 y1, .int .u8 y2, .int .u8 y3])).run P w = .ok (.bool b) w := by
  obtain ⟨ie, hie, hz⟩ := Option.map_eq_some_iff.1 hi
  have hc : P.cellsOf e = 1 := by simp [Program.cellsOf, hie, hz]
  rw [run_eql_struct, show (10000 : Nat) = 9999 + 1 from rfl, run_equalIn_array w 9999 _ _ hu hie, hc]
  have hsz : ∀ w, (sizeOf e).run P w = .ok 1 w := fun w => by simp [sizeOf, typeInfo, hie, hz]
  rw [show List.range 4 = [0, 1, 2, 3] from rfl, ← hb]
  have hp : ∀ (xs : Array Value) (off : Nat) (v : Value) (w : World), xs[off]? = some v → (part e xs off).run P w = .ok v w := fun xs off v w hx => by simp [part, isAgg, run_underlying he, hx]
  have heq : ∀ (x y : Int) (w : World), (Op.equalIn 9999 e (.int .u8 x) (.int .u8 y)).run P w = .ok (x == y) w := fun x y w => run_equalIn_int w 9998 e .u8 .u8 x y he
  simp only [Op.eqItems, Sem.run_bind, Nat.zero_mul, Nat.mul_one]
  rw [hp _ 0 (.int .u8 x0) w rfl]
  simp only [Result.andThen_ok]
  rw [hp _ 0 (.int .u8 y0) w rfl]
  simp only [Result.andThen_ok]
  rw [heq x0 y0]
  cases h0 : x0 == y0 with
  | false => simp
  | true =>
    simp only [Result.andThen_ok, Bool.not_true, Bool.false_eq_true, if_false, Sem.run_pure, Sem.run_bind]
    rw [hp _ 1 (.int .u8 x1) w rfl]
    simp only [Result.andThen_ok]
    rw [hp _ 1 (.int .u8 y1) w rfl]
    simp only [Result.andThen_ok]
    rw [heq x1 y1]
    cases h1 : x1 == y1 with
    | false => simp
    | true =>
      simp only [Result.andThen_ok, Bool.not_true, Bool.false_eq_true, if_false, Sem.run_pure, Sem.run_bind]
      rw [hp _ 2 (.int .u8 x2) w rfl]
      simp only [Result.andThen_ok]
      rw [hp _ 2 (.int .u8 y2) w rfl]
      simp only [Result.andThen_ok]
      rw [heq x2 y2]
      cases h2 : x2 == y2 with
      | false => simp
      | true =>
        simp only [Result.andThen_ok, Bool.not_true, Bool.false_eq_true, if_false, Sem.run_pure, Sem.run_bind]
        rw [hp _ 3 (.int .u8 x3) w rfl]
        simp only [Result.andThen_ok]
        rw [hp _ 3 (.int .u8 y3) w rfl]
        simp only [Result.andThen_ok]
        rw [heq x3 y3]
        cases h3 : x3 == y3 with
        | false => simp
        | true => simp
end Go.Proofs.YtpjafjnokgeifaaGreatDoor
end
section

end
section
namespace Go.Proofs.YtpjafjnokgeifaaGreatDoor
open Go.RowKit
set_option linter.unusedVariables false
set_option linter.unusedSimpArgs false

noncomputable def refIntsops : Array Oper := regionOf Tryz.f57 6
set_option maxRecDepth 100000 in
theorem refInts_region (Q : Exit → Act → World → Prop) (a0 : Act) (w0 : World) (hsz : a0.tmps.size = 26) (b1 o1 c1 b2 o2 c2 n j : Nat) (x y : Int) (z : Bool)
    (e0 : a0.tmps.getD 0 undef = .slice (some ⟨b1, o1, none⟩) n c1) (e1 : a0.tmps.getD 1 undef = .slice (some ⟨b2, o2, none⟩) n c2) (e5 : a0.tmps.getD 5 undef = .int .i64 (j : Int)) (hj : j < n)
    (p1 : w0.cell? ⟨b1, o1 + j, none⟩ = some (.int .i64 x)) (l1 : b1 < w0.heap.size) (p2 : w0.cell? ⟨b2, o2 + j, none⟩ = some (.int .i64 y)) (l2 : b2 < w0.heap.size) (hz : (x != y) = z)
    (hQ : ∀ (f : Nat → Value) (w : World), f 25 = .bool z → Below w0.heap.size w0 w → Q .normal { tmps := [17, 18, 19, 20, 21, 22, 23, 24, 25].foldl (fun t s => t.setIfInBounds s (f s)) a0.tmps, defers := a0.defers } w) :
    (Code.region 6 refIntsops true).wp Tryz.prog Q a0 w0 := by
  refine wp_region_flow mixed (by rw [hsz]; kernel_rfl) ?_
  rw [show refIntsops.size = 9 by kernel_rfl]
  refine ⟨isVal (.slice (some ⟨b1, o1, none⟩) n c1), step_move (.tmp 0) (by kernel_rfl) (wanted_none (by kernel_rfl)) (stable_val _) (knows_old 0 (.slice (some ⟨b1, o1, none⟩) n c1) (by kernel_rfl) e0), ?_⟩
  refine ⟨isVal (.int .i64 (j : Int)), step_move (.tmp 5) (by kernel_rfl) (wanted_none (by kernel_rfl)) (stable_val _) (knows_old 5 (.int .i64 (j : Int)) (by kernel_rfl) e5), ?_⟩
  refine ⟨isVal (.pointer (some ⟨b1, o1 + j, none⟩)), step_place 23 3 (.tmp 17) (.tmp 18) b1 o1 n c1 j (by kernel_rfl) (wanted_none (by kernel_rfl)) (knows_new (V := isVal (.slice (some ⟨b1, o1, none⟩) n c1)) 17 0 (by kernel_rfl) (by kernel_rfl) (by kernel_rfl)) (knows_new (V := isVal (.int .i64 (j : Int))) 18 1 (by kernel_rfl) (by kernel_rfl) (by kernel_rfl)) Tryz.underlying23 (by kernel_rfl) hj, ?_⟩
  refine ⟨isVal (.int .i64 x), step_read 3 (.tmp 19) ⟨b1, o1 + j, none⟩ (.int .i64 x) (by kernel_rfl) (wanted_none (by kernel_rfl)) (knows_new (V := isVal (.pointer (some ⟨b1, o1 + j, none⟩))) 19 2 (by kernel_rfl) (by kernel_rfl) (by kernel_rfl)) p1 l1 agg_int, ?_⟩
  refine ⟨isVal (.slice (some ⟨b2, o2, none⟩) n c2), step_move (.tmp 1) (by kernel_rfl) (wanted_none (by kernel_rfl)) (stable_val _) (knows_old 1 (.slice (some ⟨b2, o2, none⟩) n c2) (by kernel_rfl) e1), ?_⟩
  refine ⟨isVal (.int .i64 (j : Int)), step_move (.tmp 5) (by kernel_rfl) (wanted_none (by kernel_rfl)) (stable_val _) (knows_old 5 (.int .i64 (j : Int)) (by kernel_rfl) e5), ?_⟩
  refine ⟨isVal (.pointer (some ⟨b2, o2 + j, none⟩)), step_place 23 3 (.tmp 21) (.tmp 22) b2 o2 n c2 j (by kernel_rfl) (wanted_none (by kernel_rfl)) (knows_new (V := isVal (.slice (some ⟨b2, o2, none⟩) n c2)) 21 4 (by kernel_rfl) (by kernel_rfl) (by kernel_rfl)) (knows_new (V := isVal (.int .i64 (j : Int))) 22 5 (by kernel_rfl) (by kernel_rfl) (by kernel_rfl)) Tryz.underlying23 (by kernel_rfl) hj, ?_⟩
  refine ⟨isVal (.int .i64 y), step_read 3 (.tmp 23) ⟨b2, o2 + j, none⟩ (.int .i64 y) (by kernel_rfl) (wanted_none (by kernel_rfl)) (knows_new (V := isVal (.pointer (some ⟨b2, o2 + j, none⟩))) 23 6 (by kernel_rfl) (by kernel_rfl) (by kernel_rfl)) p2 l2 agg_int, ?_⟩
  refine ⟨isVal (.bool z), step_bin .neq 3 3 (.tmp 20) (.tmp 24) (.int .i64 x) (.int .i64 y) (.bool z) (by kernel_rfl) (wanted_none (by kernel_rfl)) (knows_new (V := isVal (.int .i64 x)) 20 3 (by kernel_rfl) (by kernel_rfl) (by kernel_rfl)) (knows_new (V := isVal (.int .i64 y)) 24 7 (by kernel_rfl) (by kernel_rfl) (by kernel_rfl)) (fun _ => rfl) (neq_int _ _ _ _ _ hz), ?_⟩
  intro a w hkp hb hd
  rw [kept_of hkp ((List.range 9).map fun i => some (i + 17)) [17, 18, 19, 20, 21, 22, 23, 24, 25] (by kernel_rfl) (by decide)]
  exact hQ (fun s => a.tmps.getD s undef) w (fdone_of (hd 8 (by rw [show refIntsops.size = 9 by kernel_rfl]; decide)) (t := 25) (V := isVal (.bool z)) (by kernel_rfl) (by kernel_rfl)) hb
set_option maxRecDepth 20000 in
set_option maxHeartbeats 1000000 in
theorem refInts_any (l m : List (Int)) (v u : Value) (w : World) (hv : isCells (l.map intC) v w) (hu : isCells (m.map intC) u w) (h1 : l.length ≤ 1000000000) (h2 : m.length ≤ 1000000000) :
    Calls Tryz.prog 57 #[v, u] w fun e w' => e = .returned (.bool (decide (l = m))) ∧ Below w.heap.size w w' := by
  by_cases hlen : l.length = m.length
  case neg =>
    obtain ⟨a, cap, rfl⟩ := hv.len
    obtain ⟨b, cap2, rfl⟩ := hu.len
    rw [List.length_map, List.length_map]
    have HN := Kept.mk (show decide (l = m) = false by simp; rintro rfl; exact hlen rfl)
    have d1 : ((l.length : Int) != (m.length : Int)) = true := by simp [bne]; omega
    clear hv hu hlen
    go_enter Tryz.func57, Tryz.ntmps57
    go_wp2
    go_ret
    exact ⟨by rw [HN.out]; rfl, Below.refl _ _⟩
  by_cases h0 : l = []
  · subst h0
    obtain rfl : m = [] := List.eq_nil_of_length_eq_zero (by simpa using hlen.symm)
    obtain ⟨a, cap, rfl⟩ := hv.len
    obtain ⟨b, cap2, rfl⟩ := hu.len
    clear hv hu
    simp only [List.map_nil, List.length_nil]
    go_enter Tryz.func57, Tryz.ntmps57
    go_wp2
    go_loop [5] (fun i => i = .int .i64 0) (fun _ => 0)
    case atStart => rfl
    case round =>
      subst hrel
      go_wp2
      go_ret
      exact ⟨by simp, Below.refl _ _⟩
  · have hl0 : 0 < l.length := List.length_pos_iff.2 h0
    obtain ⟨b1, o1, c1, hv', l1, hc1⟩ := hv.some_ (by simpa using hl0)
    obtain ⟨b2, o2, c2, hu', l2, hc2⟩ := hu.some_ (by rw [List.length_map]; omega)
    rw [List.length_map] at hv' hu'
    subst hv' hu'
    have HM := Kept.mk hlen
    have hmn : m.length = l.length := hlen.symm
    rw [hmn]
    obtain ⟨n, hn⟩ : ∃ n, n = l.length := ⟨_, rfl⟩
    have HN := Kept.mk hn
    rw [← hn] at h1 hl0 ⊢
    have HC1 := Kept.mk hc1
    have HC2 := Kept.mk hc2
    have hB : Below w.heap.size w w := Below.refl _ _
    clear hv hu hlen hmn hn hc1 hc2 h0
    go_enter Tryz.func57, Tryz.ntmps57
    go_wp2
    go_loopw [5] (fun i wr => ∃ j : Nat, j ≤ n ∧ i = .int .i64 (j : Int) ∧ Kept (l.take j = m.take j) ∧ Below w.heap.size w wr) (fun i _ => n - (intOf i).toNat)
    case atStart => exact ⟨0, Nat.zero_le _, rfl, ⟨rfl⟩, hB⟩
    case round =>
      clear hB
      obtain ⟨j, hj, rfl, HT, hB⟩ := hrel
      by_cases hlt : j < n
      · have d1 : decide ((j : Int) < (n : Int)) = true := by simpa using hlt
        have HA := Kept.mk (show j < l.length by rw [← HN.out]; exact hlt)
        have HB := Kept.mk (show j < m.length by rw [← HM.out, ← HN.out]; exact hlt)
        have q1 := Kept.mk ((hB.cell (p := ⟨b1, o1 + j, none⟩) l1).trans (HC1.out j _ (get_map intC l j HA.out)))
        have q2 := Kept.mk ((hB.cell (p := ⟨b2, o2 + j, none⟩) l2).trans (HC2.out j _ (get_map intC m j HB.out)))
        cases hz : (l[j]'HA.out != m[j]'HB.out) with
        | true =>
          have HR := Kept.mk (show decide (l = m) = false by
            simp only [decide_eq_false_iff_not]
            rintro rfl
            simp at hz)
          have HZ := Kept.mk hz
          clear hz
          go_wp2_with fail
          refine refInts_region _ _ _ rfl b1 o1 c1 b2 o2 c2 n j _ _ true rfl rfl rfl hlt q1.out (Nat.lt_of_lt_of_le l1 hB.size) q2.out (Nat.lt_of_lt_of_le l2 hB.size) HZ.out ?_
          clear q1 q2 HZ
          intro f9 W9 hg hb9
          replace hB := hB.trans (hb9.mono hB.size)
          clear hb9
          simp only [List.foldl_cons, List.foldl_nil, hg]
          generalize f9 17 = y17
          generalize f9 18 = y18
          generalize f9 19 = y19
          generalize f9 20 = y20
          generalize f9 21 = y21
          generalize f9 22 = y22
          generalize f9 23 = y23
          generalize f9 24 = y24
          clear hg
          simp only [List.setIfInBounds_toArray, List.set_cons_succ, List.set_cons_zero]
          go_wp2
          go_ret
          exact ⟨by rw [HR.out]; rfl, hB⟩
        | false =>
          have HR := Kept.mk (show l.take (j + 1) = m.take (j + 1) by
            rw [List.take_succ_eq_append_getElem HA.out, List.take_succ_eq_append_getElem HB.out, HT.out]
            simp at hz
            rw [hz])
          have HZ := Kept.mk hz
          clear hz HT
          go_wp2_with fail
          refine refInts_region _ _ _ rfl b1 o1 c1 b2 o2 c2 n j _ _ false rfl rfl rfl hlt q1.out (Nat.lt_of_lt_of_le l1 hB.size) q2.out (Nat.lt_of_lt_of_le l2 hB.size) HZ.out ?_
          clear q1 q2 HZ
          intro f9 W9 hg hb9
          replace hB := hB.trans (hb9.mono hB.size)
          clear hb9
          simp only [List.foldl_cons, List.foldl_nil, hg]
          generalize f9 17 = y17
          generalize f9 18 = y18
          generalize f9 19 = y19
          generalize f9 20 = y20
          generalize f9 21 = y21
          generalize f9 22 = y22
          generalize f9 23 = y23
          generalize f9 24 = y24
          clear hg
          simp only [List.setIfInBounds_toArray, List.set_cons_succ, List.set_cons_zero]
          go_wp2
          go_roundw
          case rel => exact ⟨j + 1, by omega, by go_num, HR, hB⟩
          case measure => simp [intOf]; omega
      · have d1 : decide ((j : Int) < (n : Int)) = false := by simp; omega
        have HR := Kept.mk (show decide (l = m) = true by
          have h := HT.out
          rw [List.take_of_length_le (by rw [← HN.out]; omega), List.take_of_length_le (by rw [← HM.out, ← HN.out]; omega)] at h
          simpa using h)
        go_wp2
        go_ret
        exact ⟨by rw [HR.out]; rfl, hB⟩

noncomputable def refTextsops : Array Oper := regionOf Tryz.f44 6
set_option maxRecDepth 100000 in
theorem refTexts_region (Q : Exit → Act → World → Prop) (a0 : Act) (w0 : World) (hsz : a0.tmps.size = 26) (b1 o1 c1 b2 o2 c2 n j : Nat) (x y : List UInt8) (z : Bool)
    (e0 : a0.tmps.getD 0 undef = .slice (some ⟨b1, o1, none⟩) n c1) (e1 : a0.tmps.getD 1 undef = .slice (some ⟨b2, o2, none⟩) n c2) (e5 : a0.tmps.getD 5 undef = .int .i64 (j : Int)) (hj : j < n)
    (p1 : w0.cell? ⟨b1, o1 + j, none⟩ = some (.string ⟨x.toArray⟩)) (l1 : b1 < w0.heap.size) (p2 : w0.cell? ⟨b2, o2 + j, none⟩ = some (.string ⟨y.toArray⟩)) (l2 : b2 < w0.heap.size) (hz : (x != y) = z)
    (hQ : ∀ (f : Nat → Value) (w : World), f 25 = .bool z → Below w0.heap.size w0 w → Q .normal { tmps := [17, 18, 19, 20, 21, 22, 23, 24, 25].foldl (fun t s => t.setIfInBounds s (f s)) a0.tmps, defers := a0.defers } w) :
    (Code.region 6 refTextsops true).wp Tryz.prog Q a0 w0 := by
  refine wp_region_flow mixed (by rw [hsz]; kernel_rfl) ?_
  rw [show refTextsops.size = 9 by kernel_rfl]
  refine ⟨isVal (.slice (some ⟨b1, o1, none⟩) n c1), step_move (.tmp 0) (by kernel_rfl) (wanted_none (by kernel_rfl)) (stable_val _) (knows_old 0 (.slice (some ⟨b1, o1, none⟩) n c1) (by kernel_rfl) e0), ?_⟩
  refine ⟨isVal (.int .i64 (j : Int)), step_move (.tmp 5) (by kernel_rfl) (wanted_none (by kernel_rfl)) (stable_val _) (knows_old 5 (.int .i64 (j : Int)) (by kernel_rfl) e5), ?_⟩
  refine ⟨isVal (.pointer (some ⟨b1, o1 + j, none⟩)), step_place 22 9 (.tmp 17) (.tmp 18) b1 o1 n c1 j (by kernel_rfl) (wanted_none (by kernel_rfl)) (knows_new (V := isVal (.slice (some ⟨b1, o1, none⟩) n c1)) 17 0 (by kernel_rfl) (by kernel_rfl) (by kernel_rfl)) (knows_new (V := isVal (.int .i64 (j : Int))) 18 1 (by kernel_rfl) (by kernel_rfl) (by kernel_rfl)) Tryz.underlying22 (by kernel_rfl) hj, ?_⟩
  refine ⟨isVal (.string ⟨x.toArray⟩), step_read 9 (.tmp 19) ⟨b1, o1 + j, none⟩ (.string ⟨x.toArray⟩) (by kernel_rfl) (wanted_none (by kernel_rfl)) (knows_new (V := isVal (.pointer (some ⟨b1, o1 + j, none⟩))) 19 2 (by kernel_rfl) (by kernel_rfl) (by kernel_rfl)) p1 l1 agg_str, ?_⟩
  refine ⟨isVal (.slice (some ⟨b2, o2, none⟩) n c2), step_move (.tmp 1) (by kernel_rfl) (wanted_none (by kernel_rfl)) (stable_val _) (knows_old 1 (.slice (some ⟨b2, o2, none⟩) n c2) (by kernel_rfl) e1), ?_⟩
  refine ⟨isVal (.int .i64 (j : Int)), step_move (.tmp 5) (by kernel_rfl) (wanted_none (by kernel_rfl)) (stable_val _) (knows_old 5 (.int .i64 (j : Int)) (by kernel_rfl) e5), ?_⟩
  refine ⟨isVal (.pointer (some ⟨b2, o2 + j, none⟩)), step_place 22 9 (.tmp 21) (.tmp 22) b2 o2 n c2 j (by kernel_rfl) (wanted_none (by kernel_rfl)) (knows_new (V := isVal (.slice (some ⟨b2, o2, none⟩) n c2)) 21 4 (by kernel_rfl) (by kernel_rfl) (by kernel_rfl)) (knows_new (V := isVal (.int .i64 (j : Int))) 22 5 (by kernel_rfl) (by kernel_rfl) (by kernel_rfl)) Tryz.underlying22 (by kernel_rfl) hj, ?_⟩
  refine ⟨isVal (.string ⟨y.toArray⟩), step_read 9 (.tmp 23) ⟨b2, o2 + j, none⟩ (.string ⟨y.toArray⟩) (by kernel_rfl) (wanted_none (by kernel_rfl)) (knows_new (V := isVal (.pointer (some ⟨b2, o2 + j, none⟩))) 23 6 (by kernel_rfl) (by kernel_rfl) (by kernel_rfl)) p2 l2 agg_str, ?_⟩
  refine ⟨isVal (.bool z), step_bin .neq 9 9 (.tmp 20) (.tmp 24) (.string ⟨x.toArray⟩) (.string ⟨y.toArray⟩) (.bool z) (by kernel_rfl) (wanted_none (by kernel_rfl)) (knows_new (V := isVal (.string ⟨x.toArray⟩)) 20 3 (by kernel_rfl) (by kernel_rfl) (by kernel_rfl)) (knows_new (V := isVal (.string ⟨y.toArray⟩)) 24 7 (by kernel_rfl) (by kernel_rfl) (by kernel_rfl)) (fun _ => rfl) (neq_str _ _ _ _ hz), ?_⟩
  intro a w hkp hb hd
  rw [kept_of hkp ((List.range 9).map fun i => some (i + 17)) [17, 18, 19, 20, 21, 22, 23, 24, 25] (by kernel_rfl) (by decide)]
  exact hQ (fun s => a.tmps.getD s undef) w (fdone_of (hd 8 (by rw [show refTextsops.size = 9 by kernel_rfl]; decide)) (t := 25) (V := isVal (.bool z)) (by kernel_rfl) (by kernel_rfl)) hb
set_option maxRecDepth 20000 in
set_option maxHeartbeats 1000000 in
theorem refTexts_any (l m : List (List UInt8)) (v u : Value) (w : World) (hv : isCells (l.map strC) v w) (hu : isCells (m.map strC) u w) (h1 : l.length ≤ 1000000000) (h2 : m.length ≤ 1000000000) :
    Calls Tryz.prog 44 #[v, u] w fun e w' => e = .returned (.bool (decide (l = m))) ∧ Below w.heap.size w w' := by
  by_cases hlen : l.length = m.length
  case neg =>
    obtain ⟨a, cap, rfl⟩ := hv.len
    obtain ⟨b, cap2, rfl⟩ := hu.len
    rw [List.length_map, List.length_map]
    have HN := Kept.mk (show decide (l = m) = false by simp; rintro rfl; exact hlen rfl)
    have d1 : ((l.length : Int) != (m.length : Int)) = true := by simp [bne]; omega
    clear hv hu hlen
    go_enter Tryz.func44, Tryz.ntmps44
    go_wp2
    go_ret
    exact ⟨by rw [HN.out]; rfl, Below.refl _ _⟩
  by_cases h0 : l = []
  · subst h0
    obtain rfl : m = [] := List.eq_nil_of_length_eq_zero (by simpa using hlen.symm)
    obtain ⟨a, cap, rfl⟩ := hv.len
    obtain ⟨b, cap2, rfl⟩ := hu.len
    clear hv hu
    simp only [List.map_nil, List.length_nil]
    go_enter Tryz.func44, Tryz.ntmps44
    go_wp2
    go_loop [5] (fun i => i = .int .i64 0) (fun _ => 0)
    case atStart => rfl
    case round =>
      subst hrel
      go_wp2
      go_ret
      exact ⟨by simp, Below.refl _ _⟩
  · have hl0 : 0 < l.length := List.length_pos_iff.2 h0
    obtain ⟨b1, o1, c1, hv', l1, hc1⟩ := hv.some_ (by simpa using hl0)
    obtain ⟨b2, o2, c2, hu', l2, hc2⟩ := hu.some_ (by rw [List.length_map]; omega)
    rw [List.length_map] at hv' hu'
    subst hv' hu'
    have HM := Kept.mk hlen
    have hmn : m.length = l.length := hlen.symm
    rw [hmn]
    obtain ⟨n, hn⟩ : ∃ n, n = l.length := ⟨_, rfl⟩
    have HN := Kept.mk hn
    rw [← hn] at h1 hl0 ⊢
    have HC1 := Kept.mk hc1
    have HC2 := Kept.mk hc2
    have hB : Below w.heap.size w w := Below.refl _ _
    clear hv hu hlen hmn hn hc1 hc2 h0
    go_enter Tryz.func44, Tryz.ntmps44
    go_wp2
    go_loopw [5] (fun i wr => ∃ j : Nat, j ≤ n ∧ i = .int .i64 (j : Int) ∧ Kept (l.take j = m.take j) ∧ Below w.heap.size w wr) (fun i _ => n - (intOf i).toNat)
    case atStart => exact ⟨0, Nat.zero_le _, rfl, ⟨rfl⟩, hB⟩
    case round =>
      clear hB
      obtain ⟨j, hj, rfl, HT, hB⟩ := hrel
      by_cases hlt : j < n
      · have d1 : decide ((j : Int) < (n : Int)) = true := by simpa using hlt
        have HA := Kept.mk (show j < l.length by rw [← HN.out]; exact hlt)
        have HB := Kept.mk (show j < m.length by rw [← HM.out, ← HN.out]; exact hlt)
        have q1 := Kept.mk ((hB.cell (p := ⟨b1, o1 + j, none⟩) l1).trans (HC1.out j _ (get_map strC l j HA.out)))
        have q2 := Kept.mk ((hB.cell (p := ⟨b2, o2 + j, none⟩) l2).trans (HC2.out j _ (get_map strC m j HB.out)))
        cases hz : (l[j]'HA.out != m[j]'HB.out) with
        | true =>
          have HR := Kept.mk (show decide (l = m) = false by
            simp only [decide_eq_false_iff_not]
            rintro rfl
            simp at hz)
          have HZ := Kept.mk hz
          clear hz
          go_wp2_with fail
          refine refTexts_region _ _ _ rfl b1 o1 c1 b2 o2 c2 n j _ _ true rfl rfl rfl hlt q1.out (Nat.lt_of_lt_of_le l1 hB.size) q2.out (Nat.lt_of_lt_of_le l2 hB.size) HZ.out ?_
          clear q1 q2 HZ
          intro f9 W9 hg hb9
          replace hB := hB.trans (hb9.mono hB.size)
          clear hb9
          simp only [List.foldl_cons, List.foldl_nil, hg]
          generalize f9 17 = y17
          generalize f9 18 = y18
          generalize f9 19 = y19
          generalize f9 20 = y20
          generalize f9 21 = y21
          generalize f9 22 = y22
          generalize f9 23 = y23
          generalize f9 24 = y24
          clear hg
          simp only [List.setIfInBounds_toArray, List.set_cons_succ, List.set_cons_zero]
          go_wp2
          go_ret
          exact ⟨by rw [HR.out]; rfl, hB⟩
        | false =>
          have HR := Kept.mk (show l.take (j + 1) = m.take (j + 1) by
            rw [List.take_succ_eq_append_getElem HA.out, List.take_succ_eq_append_getElem HB.out, HT.out]
            simp at hz
            rw [hz])
          have HZ := Kept.mk hz
          clear hz HT
          go_wp2_with fail
          refine refTexts_region _ _ _ rfl b1 o1 c1 b2 o2 c2 n j _ _ false rfl rfl rfl hlt q1.out (Nat.lt_of_lt_of_le l1 hB.size) q2.out (Nat.lt_of_lt_of_le l2 hB.size) HZ.out ?_
          clear q1 q2 HZ
          intro f9 W9 hg hb9
          replace hB := hB.trans (hb9.mono hB.size)
          clear hb9
          simp only [List.foldl_cons, List.foldl_nil, hg]
          generalize f9 17 = y17
          generalize f9 18 = y18
          generalize f9 19 = y19
          generalize f9 20 = y20
          generalize f9 21 = y21
          generalize f9 22 = y22
          generalize f9 23 = y23
          generalize f9 24 = y24
          clear hg
          simp only [List.setIfInBounds_toArray, List.set_cons_succ, List.set_cons_zero]
          go_wp2
          go_roundw
          case rel => exact ⟨j + 1, by omega, by go_num, HR, hB⟩
          case measure => simp [intOf]; omega
      · have d1 : decide ((j : Int) < (n : Int)) = false := by simp; omega
        have HR := Kept.mk (show decide (l = m) = true by
          have h := HT.out
          rw [List.take_of_length_le (by rw [← HN.out]; omega), List.take_of_length_le (by rw [← HM.out, ← HN.out]; omega)] at h
          simpa using h)
        go_wp2
        go_ret
        exact ⟨by rw [HR.out]; rfl, hB⟩
end Go.Proofs.YtpjafjnokgeifaaGreatDoor
end
section
namespace Go.Proofs.YtpjafjnokgeifaaGreatDoor
open Go.RowKit
set_option linter.unusedVariables false
set_option linter.unusedSimpArgs false
attribute [local irreducible] set5

set_option maxRecDepth 20000 in
set_option maxHeartbeats 2000000 in
theorem rdead_any (F : Fl) (vp vw : Value) (w : World) (o1 : vp.oneCell' = true) (o2 : vw.oneCell' = true)  :
    Calls Tryz.prog 111 #[.agg #[vp, vw, .int .i64 F.fuse, .string ⟨F.torn.toArray⟩, .bool F.dead]] w fun e w' => e = .returned (.agg #[vp, vw, .int .i64 F.fuse, .string ⟨F.torn.toArray⟩, .bool true]) ∧ Below w.heap.size w w' := by
  have hb1 := (Below.refl w.heap.size w).alloc (Nat.le_refl _) (.cells #[vp, vw, .int .i64 F.fuse, .string ⟨F.torn.toArray⟩, .bool true] 25)
  have hb2 := (Below.refl (w.alloc (.cells #[vp, vw, .int .i64 F.fuse, .string ⟨F.torn.toArray⟩, .bool true] 25)).heap.size (w.alloc (.cells #[vp, vw, .int .i64 F.fuse, .string ⟨F.torn.toArray⟩, .bool true] 25))).alloc (Nat.le_refl _) (.cells #[.slice none 0 0, .slice none 0 0, .int .i64 0, .string ⟨#[]⟩, .bool false] 25)
  have hB := hb1.trans (hb2.mono hb1.size)
  have HC := Kept.mk (cells5_at (w.alloc (.cells #[vp, vw, .int .i64 F.fuse, .string ⟨F.torn.toArray⟩, .bool true] 25)) 25 (.slice none 0 0) (.slice none 0 0) (.int .i64 0) (.string ⟨#[]⟩) (.bool false) (w.heap.size + 1) (by simp))
  have HF := Kept.mk (free5_at (w.alloc (.cells #[vp, vw, .int .i64 F.fuse, .string ⟨F.torn.toArray⟩, .bool true] 25)) #[.slice none 0 0, .slice none 0 0, .int .i64 0, .string ⟨#[]⟩, .bool false] 25 (w.heap.size + 1) (by simp))
  have HR := Kept.mk (HC.out.set5_ vp vw (.int .i64 (F.fuse)) (.string ⟨F.torn.toArray⟩) (.bool true))
  have HB := Kept.mk (below_set5 hB (g := w.heap.size + 1) (by omega) vp vw (.int .i64 (F.fuse)) (.string ⟨F.torn.toArray⟩) (.bool true))
  clear hb1 hb2 hB
  go_enter Tryz.func111, Tryz.ntmps111
  go_wp2_with (refine wpList_store5 rfl (.tmp 2) (.tmp 4) rfl (w.heap.size + 1) vp vw (.int .i64 (F.fuse)) (.string ⟨F.torn.toArray⟩) (.bool true) rfl rfl HC.out HF.out o1 o2 rfl rfl rfl ?_)
  exact bodyPost_ret (results1 rfl _ _ (w.heap.size + 1) vp vw (.int .i64 (F.fuse)) (.string ⟨F.torn.toArray⟩) (.bool true) rfl HR.out) rfl ⟨rfl, HB.out⟩
set_option maxRecDepth 20000 in
set_option maxHeartbeats 2000000 in
theorem rburnt_yes (F : Fl) (vp vw : Value) (w : World) (o1 : vp.oneCell' = true) (o2 : vw.oneCell' = true) (h : 0 < F.fuse) (hw : F.fuse ≤ 9223372036854775807) :
    Calls Tryz.prog 114 #[.agg #[vp, vw, .int .i64 F.fuse, .string ⟨F.torn.toArray⟩, .bool F.dead]] w fun e w' => e = .returned (.agg #[vp, vw, .int .i64 (F.fuse - 1), .string ⟨F.torn.toArray⟩, .bool F.dead]) ∧ Below w.heap.size w w' := by
  have d1 : decide (0 < F.fuse) = true := by simpa using h
  have hb1 := (Below.refl w.heap.size w).alloc (Nat.le_refl _) (.cells #[vp, vw, .int .i64 (F.fuse - 1), .string ⟨F.torn.toArray⟩, .bool F.dead] 25)
  have hb2 := (Below.refl (w.alloc (.cells #[vp, vw, .int .i64 (F.fuse - 1), .string ⟨F.torn.toArray⟩, .bool F.dead] 25)).heap.size (w.alloc (.cells #[vp, vw, .int .i64 (F.fuse - 1), .string ⟨F.torn.toArray⟩, .bool F.dead] 25))).alloc (Nat.le_refl _) (.cells #[.slice none 0 0, .slice none 0 0, .int .i64 0, .string ⟨#[]⟩, .bool false] 25)
  have hB := hb1.trans (hb2.mono hb1.size)
  have HC := Kept.mk (cells5_at (w.alloc (.cells #[vp, vw, .int .i64 (F.fuse - 1), .string ⟨F.torn.toArray⟩, .bool F.dead] 25)) 25 (.slice none 0 0) (.slice none 0 0) (.int .i64 0) (.string ⟨#[]⟩) (.bool false) (w.heap.size + 1) (by simp))
  have HF := Kept.mk (free5_at (w.alloc (.cells #[vp, vw, .int .i64 (F.fuse - 1), .string ⟨F.torn.toArray⟩, .bool F.dead] 25)) #[.slice none 0 0, .slice none 0 0, .int .i64 0, .string ⟨#[]⟩, .bool false] 25 (w.heap.size + 1) (by simp))
  have HR := Kept.mk (HC.out.set5_ vp vw (.int .i64 (F.fuse - 1)) (.string ⟨F.torn.toArray⟩) (.bool F.dead))
  have HB := Kept.mk (below_set5 hB (g := w.heap.size + 1) (by omega) vp vw (.int .i64 (F.fuse - 1)) (.string ⟨F.torn.toArray⟩) (.bool F.dead))
  clear hb1 hb2 hB
  go_enter Tryz.func114, Tryz.ntmps114
  go_wp2_with (refine wpList_store5 rfl (.tmp 2) (.tmp 10) rfl (w.heap.size + 1) vp vw (.int .i64 (F.fuse - 1)) (.string ⟨F.torn.toArray⟩) (.bool F.dead) rfl rfl HC.out HF.out o1 o2 rfl rfl rfl ?_)
  exact bodyPost_ret (results1 rfl _ _ (w.heap.size + 1) vp vw (.int .i64 (F.fuse - 1)) (.string ⟨F.torn.toArray⟩) (.bool F.dead) rfl HR.out) rfl ⟨rfl, HB.out⟩
set_option maxRecDepth 20000 in
set_option maxHeartbeats 2000000 in
theorem rburnt_no (F : Fl) (vp vw : Value) (w : World) (o1 : vp.oneCell' = true) (o2 : vw.oneCell' = true) (h : ¬ 0 < F.fuse) :
    Calls Tryz.prog 114 #[.agg #[vp, vw, .int .i64 F.fuse, .string ⟨F.torn.toArray⟩, .bool F.dead]] w fun e w' => e = .returned (.agg #[vp, vw, .int .i64 F.fuse, .string ⟨F.torn.toArray⟩, .bool F.dead]) ∧ Below w.heap.size w w' := by
  have d1 : decide (0 < F.fuse) = false := by simpa using h
  have hb1 := (Below.refl w.heap.size w).alloc (Nat.le_refl _) (.cells #[vp, vw, .int .i64 F.fuse, .string ⟨F.torn.toArray⟩, .bool F.dead] 25)
  have hb2 := (Below.refl (w.alloc (.cells #[vp, vw, .int .i64 F.fuse, .string ⟨F.torn.toArray⟩, .bool F.dead] 25)).heap.size (w.alloc (.cells #[vp, vw, .int .i64 F.fuse, .string ⟨F.torn.toArray⟩, .bool F.dead] 25))).alloc (Nat.le_refl _) (.cells #[.slice none 0 0, .slice none 0 0, .int .i64 0, .string ⟨#[]⟩, .bool false] 25)
  have hB := hb1.trans (hb2.mono hb1.size)
  have HC := Kept.mk (cells5_at (w.alloc (.cells #[vp, vw, .int .i64 F.fuse, .string ⟨F.torn.toArray⟩, .bool F.dead] 25)) 25 (.slice none 0 0) (.slice none 0 0) (.int .i64 0) (.string ⟨#[]⟩) (.bool false) (w.heap.size + 1) (by simp))
  have HF := Kept.mk (free5_at (w.alloc (.cells #[vp, vw, .int .i64 F.fuse, .string ⟨F.torn.toArray⟩, .bool F.dead] 25)) #[.slice none 0 0, .slice none 0 0, .int .i64 0, .string ⟨#[]⟩, .bool false] 25 (w.heap.size + 1) (by simp))
  have HR := Kept.mk (HC.out.set5_ vp vw (.int .i64 (F.fuse)) (.string ⟨F.torn.toArray⟩) (.bool F.dead))
  have HB := Kept.mk (below_set5 hB (g := w.heap.size + 1) (by omega) vp vw (.int .i64 (F.fuse)) (.string ⟨F.torn.toArray⟩) (.bool F.dead))
  clear hb1 hb2 hB
  go_enter Tryz.func114, Tryz.ntmps114
  go_wp2_with (refine wpList_store5 rfl (.tmp 2) (.tmp 10) rfl (w.heap.size + 1) vp vw (.int .i64 (F.fuse)) (.string ⟨F.torn.toArray⟩) (.bool F.dead) rfl rfl HC.out HF.out o1 o2 rfl rfl rfl ?_)
  exact bodyPost_ret (results1 rfl _ _ (w.heap.size + 1) vp vw (.int .i64 (F.fuse)) (.string ⟨F.torn.toArray⟩) (.bool F.dead) rfl HR.out) rfl ⟨rfl, HB.out⟩
end Go.Proofs.YtpjafjnokgeifaaGreatDoor
end
section
namespace Go.Proofs.YtpjafjnokgeifaaGreatDoor
open Go.RowKit
set_option linter.unusedVariables false
set_option linter.unusedSimpArgs false
attribute [local irreducible] setN

theorem worn_min (x : Int) (h : x ≤ 2147483647) : intC (wornN x) = .int .i64 (min (x + 1) 2147483647) := by
  unfold wornN intC
  rw [show (if x + 1 ≤ 2147483647 then x + 1 else 2147483647) = min (x + 1) 2147483647 by split <;> omega]
theorem Tryz.infoInt1 : (Tryz.prog.info? 3).map (fun i => (i.zero, i.size, i.bytes)) = some (some (.int .i64 0), 1, 8) := by kernel_rfl
theorem Tryz.infoStr1 : (Tryz.prog.info? 9).map (fun i => (i.zero, i.size, i.bytes)) = some (some (.string ⟨#[]⟩), 1, 16) := by kernel_rfl
set_option maxRecDepth 100000 in
set_option maxHeartbeats 4000000 in
theorem rwith_any (F : Fl) (k : Nat) (s : List UInt8) (vp vw : Value) (w : World) (hp : isCells (F.pages.map strC) vp w) (hq : isCells (F.wear.map intC) vw w) (hk : k < F.pages.length) (h1 : F.pages.length ≤ 1000)  :
    Calls Tryz.prog 112 #[.agg #[vp, vw, .int .i64 F.fuse, .string ⟨F.torn.toArray⟩, .bool F.dead], .int .i64 (k : Int), .string ⟨s.toArray⟩] w fun e w' => ∃ p', e = .returned (.agg #[p', vw, .int .i64 F.fuse, .string ⟨F.torn.toArray⟩, .bool F.dead]) ∧ isCells ((F.pages.set k s).map strC) p' w' ∧ NewB w.heap.size p' ∧ Below w.heap.size w w' := by
  obtain ⟨i0, hi, hz0, hz1, hz2⟩ := info_parts Tryz.infoStr1
  have ho1 := hq.one
  have hl : (F.pages.map strC).length = F.pages.length := List.length_map _
  rcases cells_src hp with ⟨rfl, h0⟩ | ⟨ad, cap, rfl, hc⟩
  · rw [h0] at hl; simp at hl; omega
  rw [hl]
  show Calls Tryz.prog 112 #[.agg #[(.slice (some ad) F.pages.length cap), vw, .int .i64 F.fuse, .string ⟨F.torn.toArray⟩, .bool F.dead], .int .i64 (k : Int), .string ⟨s.toArray⟩] w _
  have hb0 := (lit_below w (.cells #[(.slice (some ad) F.pages.length cap), vw, .int .i64 F.fuse, .string ⟨F.torn.toArray⟩, .bool F.dead] 25)).trans ((lit_below (w.alloc (.cells #[(.slice (some ad) F.pages.length cap), vw, .int .i64 F.fuse, .string ⟨F.torn.toArray⟩, .bool F.dead] 25)) (.cells #[.slice none 0 0, .slice none 0 0, .int .i64 0, .string ⟨#[]⟩, .bool false] 25)).mono (lit_below w (.cells #[(.slice (some ad) F.pages.length cap), vw, .int .i64 F.fuse, .string ⟨F.torn.toArray⟩, .bool F.dead] 25)).size)
  have HB := Kept.mk hb0
  have HO := Kept.mk hq
  have HX := Kept.mk ((Blk.new w 25 [(.slice (some ad) F.pages.length cap), vw, .int .i64 F.fuse, .string ⟨F.torn.toArray⟩, .bool F.dead] w.heap.size rfl).alloc (.cells #[.slice none 0 0, .slice none 0 0, .int .i64 0, .string ⟨#[]⟩, .bool false] 25))
  have HR := Kept.mk (Blk.new (w.alloc (.cells #[(.slice (some ad) F.pages.length cap), vw, .int .i64 F.fuse, .string ⟨F.torn.toArray⟩, .bool F.dead] 25)) 25 [.slice none 0 0, .slice none 0 0, .int .i64 0, .string ⟨#[]⟩, .bool false] (w.heap.size + 1) (by simp))
  have hcc : ∀ (j : Nat) (u : Value), (F.pages.map strC)[j]? = some u → ((w.alloc (.cells #[(.slice (some ad) F.pages.length cap), vw, .int .i64 F.fuse, .string ⟨F.torn.toArray⟩, .bool F.dead] 25)).alloc (.cells #[.slice none 0 0, .slice none 0 0, .int .i64 0, .string ⟨#[]⟩, .bool false] 25)).cell? (ad.add j) = some u := fun j u hu => by
    have hj := hc j u hu
    have hlt : (ad.add j).block < w.heap.size := by
      have h := hj
      simp only [World.cell?] at h
      split at h
      · rename_i hh; exact (Array.getElem?_eq_some_iff.1 hh).1
      · simp at h
    exact (hb0.cell hlt).trans hj
  have HCC := Kept.mk hcc
  have hs0 : ((w.alloc (.cells #[(.slice (some ad) F.pages.length cap), vw, .int .i64 F.fuse, .string ⟨F.torn.toArray⟩, .bool F.dead] 25)).alloc (.cells #[.slice none 0 0, .slice none 0 0, .int .i64 0, .string ⟨#[]⟩, .bool false] 25)).heap.size = w.heap.size + 2 := by simp
  have kx := HX.out.cells.2 0 _ rfl
  clear hb0 hcc hp hq hc
  go_enter Tryz.func112, Tryz.ntmps112
  go_wp2_with (first | (at_builtin; refine wpList_append_own _ rfl _ _ 22 rfl (w.heap.size + 2) 9 i0 (.string ⟨#[]⟩) 1 16 Tryz.underlying22 hi hz0 hz1 hz2 rfl (by decide) _ _ _ rfl (World.ownsRow_nil _ _ _ _) ad F.pages.length cap (F.pages.map strC) rfl (by rw [hl]; omega) HCC.out (by intro u hu; obtain ⟨x, _, rfl⟩ := List.mem_map.1 hu; rfl) (by unfold maxLen; omega) (by omega) (by omega) ?_; intro v1 w1 hown hgrow _; rw [Nat.zero_add, List.nil_append] at hown; obtain ⟨g, c1, rfl, hBg, hcap, hG⟩ := own_blk hown (by omega); have hb1 : Below ((w.alloc (.cells #[(.slice (some ad) F.pages.length cap), vw, .int .i64 F.fuse, .string ⟨F.torn.toArray⟩, .bool F.dead] 25)).alloc (.cells #[.slice none 0 0, .slice none 0 0, .int .i64 0, .string ⟨#[]⟩, .bool false] 25)).heap.size ((w.alloc (.cells #[(.slice (some ad) F.pages.length cap), vw, .int .i64 F.fuse, .string ⟨F.torn.toArray⟩, .bool F.dead] 25)).alloc (.cells #[.slice none 0 0, .slice none 0 0, .int .i64 0, .string ⟨#[]⟩, .bool false] 25)) w1 := (Below.refl _ _).grown hgrow (Nat.le_refl _) (by intro j hj; cases hj); have HB1 := Kept.mk (HB.out.trans (hb1.mono HB.out.size)); have HX1 := Kept.mk (HX.out.keep hb1); have HR1 := Kept.mk (HR.out.keep hb1); have HG := Kept.mk hG; clear hown hgrow hb1 hG kx; have n1 : ¬ g = w.heap.size := (by omega); have n2 : ¬ w.heap.size = g := (by omega); have kx0 := HX1.out.cells.2 0 _ rfl; have kx1 := HX1.out.cells.2 1 _ rfl; have kx2 := HX1.out.cells.2 2 _ rfl; have kx3 := HX1.out.cells.2 3 _ rfl; have kx4 := HX1.out.cells.2 4 _ rfl; have fx := HX1.out.free 0; have kg := HG.out.cells.2 k _ (get_map strC F.pages k hk); have fg := HG.out.free k; unfold strC at kg; have HR2 := Kept.mk (((HR1.out.apart (b' := g) (by omega) k (.string ⟨s.toArray⟩)).apart (b' := w.heap.size) (by omega) 0 (.slice (some ⟨g, 0, none⟩) F.pages.length c1))); have HG2 := Kept.mk (((HG.out.set k (.string ⟨s.toArray⟩) (by rw [hl]; exact hk)).apart (b' := w.heap.size) (by omega) 0 (.slice (some ⟨g, 0, none⟩) F.pages.length c1))); have HB2 := Kept.mk (((HB1.out.setCell (p := ⟨g, k, none⟩) (by show w.heap.size ≤ g; omega) (.string ⟨s.toArray⟩)).setCell (p := ⟨w.heap.size, 0, none⟩) (Nat.le_refl _) (.slice (some ⟨g, 0, none⟩) F.pages.length c1))); have K5 : Kept (Ones [.slice (some ⟨g, 0, none⟩) F.pages.length c1, vw, .int .i64 F.fuse, .string ⟨F.torn.toArray⟩, .bool F.dead]) := ⟨⟨rfl, ho1, rfl, rfl, rfl, trivial⟩⟩; clear HX1 HR1 HG HB1) | (have hz1 := K5; refine wpList_storeN 25 rfl (.tmp 6) (.tmp 18) rfl (w.heap.size + 1) [.slice (some ⟨g, 0, none⟩) F.pages.length c1, vw, .int .i64 F.fuse, .string ⟨F.torn.toArray⟩, .bool F.dead] size_fl rfl rfl HR2.out.cells rfl HR2.out.free K5.out ?_; clear hz1 K5))
  exact bodyPost_ret (resultsN1 rfl _ _ (w.heap.size + 1) _ size_fl agg_fl rfl (HR2.out.all_ (l := [.slice (some ⟨g, 0, none⟩) F.pages.length c1, vw, .int .i64 F.fuse, .string ⟨F.torn.toArray⟩, .bool F.dead]) rfl).cells) rfl ⟨_, rfl, by rw [show (F.pages.set k s).map strC = (F.pages.map strC).set k (strC s) from List.map_set ..]; exact blk_cells (HG2.out.apartN (b' := w.heap.size + 1) (by omega) 0 _) (by rw [List.length_set, hl]), newB_row (by omega) _ _ _, (below_setN (by omega) _ 0 _ HB2.out)⟩
end Go.Proofs.YtpjafjnokgeifaaGreatDoor
end
section
namespace Go.Proofs.YtpjafjnokgeifaaGreatDoor
open Go.RowKit
set_option linter.unusedVariables false
set_option linter.unusedSimpArgs false
attribute [local irreducible] setN

def goodP (F : Fl) (j : Nat) : Prop := 1 ≤ (F.pages.getD j []).length ∧ (F.pages.getD j []).length ≤ 8192 ∧ (F.pages.getD j []).length = (F.pages.getD 0 []).length ∧ 0 ≤ F.wear.getD j 0 ∧ F.wear.getD j 0 ≤ 2147483647
def preB (F : Fl) : Prop := 1 ≤ F.pages.length ∧ F.pages.length ≤ 6 ∧ F.wear.length = F.pages.length ∧ F.torn.length ≤ 64
theorem getD_zero_head (l : List (List UInt8)) : l.headD [] = l.getD 0 [] := by cases l <;> rfl
theorem may_iff (F : Fl) : mayB F = true ↔ preB F ∧ ∀ j, j < F.pages.length → goodP F j := by
  unfold mayB oneSize okWear preB goodP
  simp only [Bool.and_eq_true, decide_eq_true_eq, List.all_eq_true, getD_zero_head]
  constructor
  · rintro ⟨⟨⟨⟨h1, h6⟩, ⟨⟨ha, hb⟩, hc⟩⟩, ⟨hl, hw⟩⟩, ht⟩
    refine ⟨⟨by omega, by omega, hl, by omega⟩, fun j hj => ?_⟩
    have e1 : F.pages.getD j [] = F.pages[j] := by rw [List.getD_eq_getElem?_getD, List.getElem?_eq_getElem hj]; rfl
    have e2 : F.wear.getD j 0 = F.wear[j] := by rw [List.getD_eq_getElem?_getD, List.getElem?_eq_getElem (by omega)]; rfl
    have hcj := hc _ (List.getElem_mem hj)
    have hwj := hw _ (List.getElem_mem (show j < F.wear.length by omega))
    rw [e1, e2, hcj]
    exact ⟨by omega, by omega, rfl, hwj.1, hwj.2⟩
  · rintro ⟨⟨h1, h6, hl, ht⟩, hg⟩
    have g0 := hg 0 (by omega)
    refine ⟨⟨⟨⟨by omega, by omega⟩, ⟨⟨by omega, by omega⟩, fun p hp => ?_⟩⟩, ⟨hl, fun x hx => ?_⟩⟩, by omega⟩
    · obtain ⟨j, hj, rfl⟩ := List.getElem_of_mem hp
      have := (hg j hj).2.2.1
      rwa [show F.pages.getD j [] = F.pages[j] by rw [List.getD_eq_getElem?_getD, List.getElem?_eq_getElem hj]; rfl] at this
    · obtain ⟨j, hj, rfl⟩ := List.getElem_of_mem hx
      have := (hg j (by omega)).2.2.2
      rwa [show F.wear.getD j 0 = F.wear[j] by rw [List.getD_eq_getElem?_getD, List.getElem?_eq_getElem hj]; rfl] at this
theorem may_no {F : Fl} (h : ¬ (preB F ∧ ∀ j, j < F.pages.length → goodP F j)) : mayB F = false := by
  cases hm : mayB F with
  | false => rfl
  | true => exact absurd ((may_iff F).1 hm) h
set_option maxRecDepth 100000 in
set_option maxHeartbeats 4000000 in
theorem rfcheck_no1 (F : Fl) (v : Value) (w : World) (hv : isFl F v w) (hz1 : F.pages.length ≤ 1000000) (hz2 : F.wear.length ≤ 1000000) (hz3 : F.torn.length ≤ 9223372036854775807) (h : F.pages.length < 1) :
    Calls Tryz.prog 51 #[v] w fun e w' => e = .returned (.bool false) ∧ Below w.heap.size w w' := by
  obtain ⟨vp, vw, rfl, hpp, hqq⟩ := hv
  obtain ⟨ap, cp, rfl⟩ := hpp.len
  obtain ⟨aw, cw, rfl⟩ := hqq.len
  rw [List.length_map, List.length_map]
  show Calls Tryz.prog 51 #[.agg #[.slice ap F.pages.length cp, .slice aw F.wear.length cw, .int .i64 F.fuse, .string ⟨F.torn.toArray⟩, .bool F.dead]] w _
  have hts : (⟨F.torn.toArray⟩ : ByteArray).size = F.torn.length := by simp [ByteArray.size]
  have HB := Kept.mk (lit_below w (.cells #[.slice ap F.pages.length cp, .slice aw F.wear.length cw, .int .i64 F.fuse, .string ⟨F.torn.toArray⟩, .bool F.dead] 25))
  clear hpp hqq
  have d1 : decide ((F.pages.length : Int) < 1) = true := by rw [decide_eq_true_eq]; omega
  go_enter Tryz.func51, Tryz.ntmps51
  go_wp2
  go_ret
  exact ⟨rfl, HB.out⟩
set_option maxRecDepth 100000 in
set_option maxHeartbeats 4000000 in
theorem rfcheck_no2 (F : Fl) (v : Value) (w : World) (hv : isFl F v w) (hz1 : F.pages.length ≤ 1000000) (hz2 : F.wear.length ≤ 1000000) (hz3 : F.torn.length ≤ 9223372036854775807) (h0 : 1 ≤ F.pages.length) (h : 6 < F.pages.length) :
    Calls Tryz.prog 51 #[v] w fun e w' => e = .returned (.bool false) ∧ Below w.heap.size w w' := by
  obtain ⟨vp, vw, rfl, hpp, hqq⟩ := hv
  obtain ⟨ap, cp, rfl⟩ := hpp.len
  obtain ⟨aw, cw, rfl⟩ := hqq.len
  rw [List.length_map, List.length_map]
  show Calls Tryz.prog 51 #[.agg #[.slice ap F.pages.length cp, .slice aw F.wear.length cw, .int .i64 F.fuse, .string ⟨F.torn.toArray⟩, .bool F.dead]] w _
  have hts : (⟨F.torn.toArray⟩ : ByteArray).size = F.torn.length := by simp [ByteArray.size]
  have HB := Kept.mk (lit_below w (.cells #[.slice ap F.pages.length cp, .slice aw F.wear.length cw, .int .i64 F.fuse, .string ⟨F.torn.toArray⟩, .bool F.dead] 25))
  clear hpp hqq
  have d1 : decide ((F.pages.length : Int) < 1) = false := by simp; omega
  have d2 : decide ((6 : Int) < (F.pages.length : Int)) = true := by simp; omega
  go_enter Tryz.func51, Tryz.ntmps51
  go_wp2
  go_ret
  exact ⟨rfl, HB.out⟩
set_option maxRecDepth 100000 in
set_option maxHeartbeats 4000000 in
theorem rfcheck_no3 (F : Fl) (v : Value) (w : World) (hv : isFl F v w) (hz1 : F.pages.length ≤ 1000000) (hz2 : F.wear.length ≤ 1000000) (hz3 : F.torn.length ≤ 9223372036854775807) (h0 : 1 ≤ F.pages.length) (h6 : F.pages.length ≤ 6) (h : ¬ F.wear.length = F.pages.length) :
    Calls Tryz.prog 51 #[v] w fun e w' => e = .returned (.bool false) ∧ Below w.heap.size w w' := by
  obtain ⟨vp, vw, rfl, hpp, hqq⟩ := hv
  obtain ⟨ap, cp, rfl⟩ := hpp.len
  obtain ⟨aw, cw, rfl⟩ := hqq.len
  rw [List.length_map, List.length_map]
  show Calls Tryz.prog 51 #[.agg #[.slice ap F.pages.length cp, .slice aw F.wear.length cw, .int .i64 F.fuse, .string ⟨F.torn.toArray⟩, .bool F.dead]] w _
  have hts : (⟨F.torn.toArray⟩ : ByteArray).size = F.torn.length := by simp [ByteArray.size]
  have HB := Kept.mk (lit_below w (.cells #[.slice ap F.pages.length cp, .slice aw F.wear.length cw, .int .i64 F.fuse, .string ⟨F.torn.toArray⟩, .bool F.dead] 25))
  clear hpp hqq
  have d1 : decide ((F.pages.length : Int) < 1) = false := by simp; omega
  have d2 : decide ((6 : Int) < (F.pages.length : Int)) = false := by simp; omega
  have hn : ((F.wear.length : Int) == (F.pages.length : Int)) = false := by simp; omega
  have hn2 : ((F.wear.length : Int) != (F.pages.length : Int)) = true := by simp; omega
  go_enter Tryz.func51, Tryz.ntmps51
  go_wp2
  go_ret
  exact ⟨rfl, HB.out⟩
set_option maxRecDepth 100000 in
set_option maxHeartbeats 4000000 in
theorem rfcheck_no4 (F : Fl) (v : Value) (w : World) (hv : isFl F v w) (hz1 : F.pages.length ≤ 1000000) (hz2 : F.wear.length ≤ 1000000) (hz3 : F.torn.length ≤ 9223372036854775807) (h0 : 1 ≤ F.pages.length) (h6 : F.pages.length ≤ 6) (h3 : F.wear.length = F.pages.length) (h : 64 < F.torn.length) :
    Calls Tryz.prog 51 #[v] w fun e w' => e = .returned (.bool false) ∧ Below w.heap.size w w' := by
  obtain ⟨vp, vw, rfl, hpp, hqq⟩ := hv
  obtain ⟨ap, cp, rfl⟩ := hpp.len
  obtain ⟨aw, cw, rfl⟩ := hqq.len
  rw [List.length_map, List.length_map]
  show Calls Tryz.prog 51 #[.agg #[.slice ap F.pages.length cp, .slice aw F.wear.length cw, .int .i64 F.fuse, .string ⟨F.torn.toArray⟩, .bool F.dead]] w _
  have hts : (⟨F.torn.toArray⟩ : ByteArray).size = F.torn.length := by simp [ByteArray.size]
  have HB := Kept.mk (lit_below w (.cells #[.slice ap F.pages.length cp, .slice aw F.wear.length cw, .int .i64 F.fuse, .string ⟨F.torn.toArray⟩, .bool F.dead] 25))
  clear hpp hqq
  have d1 : decide ((F.pages.length : Int) < 1) = false := by simp; omega
  have d2 : decide ((6 : Int) < (F.pages.length : Int)) = false := by simp; omega
  have hn : ((F.wear.length : Int) == (F.pages.length : Int)) = true := by simp; omega
  have hn2 : ((F.wear.length : Int) != (F.pages.length : Int)) = false := by simp; omega
  have d3 : decide ((64 : Int) < (F.torn.length : Int)) = true := by simp; omega
  clear h3
  go_enter Tryz.func51, Tryz.ntmps51
  go_wp2
  go_ret
  exact ⟨rfl, HB.out⟩
set_option maxRecDepth 100000 in
set_option maxHeartbeats 4000000 in
theorem rfcheck_loop (F : Fl) (v : Value) (w : World) (hv : isFl F v w) (h1 : 1 ≤ F.pages.length) (h6 : F.pages.length ≤ 6) (hw : F.wear.length = F.pages.length) (ht : F.torn.length ≤ 64) (hp : ∀ p ∈ F.pages, p.length ≤ 9223372036854775807) :
    Calls Tryz.prog 51 #[v] w fun e w' => e = .returned (.bool (mayB F)) ∧ Below w.heap.size w w' := by
  have HPRE := Kept.mk (show preB F from ⟨h1, h6, hw, ht⟩)
  have HPL := Kept.mk hp
  obtain ⟨vp, vw, rfl, hpp, hqq⟩ := hv
  have lp : (F.pages.map strC).length = F.pages.length := List.length_map _
  have lw : (F.wear.map intC).length = F.wear.length := List.length_map _
  obtain ⟨b, off, c, rfl, hb, hc⟩ := hpp.some_ (by omega)
  obtain ⟨b2, off2, c2, rfl, hb2, hc2⟩ := hqq.some_ (by omega)
  rw [lp, lw]
  show Calls Tryz.prog 51 #[.agg #[.slice (some ⟨b, off, none⟩) F.pages.length c, .slice (some ⟨b2, off2, none⟩) F.wear.length c2, .int .i64 F.fuse, .string ⟨F.torn.toArray⟩, .bool F.dead]] w _
  have hts : (⟨F.torn.toArray⟩ : ByteArray).size = F.torn.length := by simp [ByteArray.size]
  have HB := Kept.mk (lit_below w (.cells #[.slice (some ⟨b, off, none⟩) F.pages.length c, .slice (some ⟨b2, off2, none⟩) F.wear.length c2, .int .i64 F.fuse, .string ⟨F.torn.toArray⟩, .bool F.dead] 25))
  have HX := Kept.mk (Blk.new w 25 [.slice (some ⟨b, off, none⟩) F.pages.length c, .slice (some ⟨b2, off2, none⟩) F.wear.length c2, .int .i64 F.fuse, .string ⟨F.torn.toArray⟩, .bool F.dead] w.heap.size rfl)
  have HC := Kept.mk hc
  have HC2 := Kept.mk hc2
  have k0 := HX.out.cells.2 0 _ rfl
  have k1 := HX.out.cells.2 1 _ rfl
  have k3 := HX.out.cells.2 3 _ rfl
  have hn : ((F.wear.length : Int) != (F.pages.length : Int)) = false := by simp; omega
  have HL := Kept.mk hw
  have d1 : decide ((F.pages.length : Int) < 1) = false := by simp; omega
  have d2 : decide ((6 : Int) < (F.pages.length : Int)) = false := by simp; omega
  have d3 : decide ((64 : Int) < (F.torn.length : Int)) = false := by simp; omega
  clear hc hc2 hpp hqq hw hp lp lw
  go_enter Tryz.func51, Tryz.ntmps51
  go_wp2
  clear k0 k1 k3 hn d1 d2 d3
  generalize w.alloc (.cells #[.slice (some ⟨b, off, none⟩) F.pages.length c, .slice (some ⟨b2, off2, none⟩) F.wear.length c2, .int .i64 F.fuse, .string ⟨F.torn.toArray⟩, .bool F.dead] 25) = W0 at *
  go_loopw [3] (fun i wr => ∃ j : Nat, j ≤ F.pages.length ∧ i = .int .i64 (j : Int) ∧ Kept (Below w.heap.size w wr) ∧ Kept (Blk wr w.heap.size [.slice (some ⟨b, off, none⟩) F.pages.length c, .slice (some ⟨b2, off2, none⟩) F.wear.length c2, .int .i64 F.fuse, .string ⟨F.torn.toArray⟩, .bool F.dead]) ∧ Kept (∀ i, i < j → goodP F i)) (fun i _ => F.pages.length - (intOf i).toNat)
  case atStart => exact ⟨0, Nat.zero_le _, rfl, HB, HX, ⟨fun i hi => by omega⟩⟩
  case round =>
    clear HB HX
    obtain ⟨j, hj, rfl, HB, HX, HGD⟩ := hrel
    have k0 := HX.out.cells.2 0 _ rfl
    have k1 := HX.out.cells.2 1 _ rfl
    by_cases hlt : j < F.pages.length
    · have e1 : decide ((j : Int) < (F.pages.length : Int)) = true := by simpa using hlt
      have hlw : j < F.wear.length := by rw [HL.out]; exact hlt
      have cj := (HB.out.cell (p := ⟨b, off + j, none⟩) hb).trans (HC.out j _ (get_map strC F.pages j hlt))
      have c0 := (HB.out.cell (p := ⟨b, off + 0, none⟩) hb).trans (HC.out 0 _ (get_map strC F.pages 0 (by omega)))
      have wj := (HB.out.cell (p := ⟨b2, off2 + j, none⟩) hb2).trans (HC2.out j _ (get_map intC F.wear j hlw))
      unfold strC at cj c0
      unfold intC at wj
      rw [Nat.add_zero] at c0
      obtain ⟨p, hpj⟩ : ∃ p, F.pages[j] = p := ⟨_, rfl⟩
      obtain ⟨q, hq0⟩ : ∃ q, F.pages[0] = q := ⟨_, rfl⟩
      obtain ⟨x, hxj⟩ : ∃ x, F.wear[j] = x := ⟨_, rfl⟩
      have hpl : p.length ≤ 9223372036854775807 := by rw [← hpj]; exact HPL.out _ (List.getElem_mem hlt)
      have hql : q.length ≤ 9223372036854775807 := by rw [← hq0]; exact HPL.out _ (List.getElem_mem (by omega))
      rw [hpj] at cj
      rw [hq0] at c0
      rw [hxj] at wj
      have HGJ := Kept.mk (show goodP F j ↔ (1 ≤ p.length ∧ p.length ≤ 8192 ∧ p.length = q.length ∧ 0 ≤ x ∧ x ≤ 2147483647) by
        unfold goodP
        rw [show F.pages.getD j [] = p by rw [List.getD_eq_getElem?_getD, List.getElem?_eq_getElem hlt]; exact hpj, show F.pages.getD 0 [] = q by rw [List.getD_eq_getElem?_getD, List.getElem?_eq_getElem (by omega)]; exact hq0, show F.wear.getD j 0 = x by rw [List.getD_eq_getElem?_getD, List.getElem?_eq_getElem hlw]; exact hxj])
      clear hpj hq0 hxj
      have zp : (⟨p.toArray⟩ : ByteArray).size = p.length := by simp [ByteArray.size]
      have zq : (⟨q.toArray⟩ : ByteArray).size = q.length := by simp [ByteArray.size]
      have hij : 0 ≤ (j : Int) ∧ (j : Int) < (F.pages.length : Int) := by omega
      have hiw : 0 ≤ (j : Int) ∧ (j : Int) < (F.wear.length : Int) := by omega
      have hi0 : (0 : Int) < (F.pages.length : Int) := by omega
      by_cases tg1 : p.length < 1
      · have HM := Kept.mk (may_no (F := F) (fun h => by have := HGJ.out.1 (h.2 j hlt); omega))
        have g1 : decide ((p.length : Int) < 1) = true := by rw [decide_eq_true_eq]; omega
        clear HGJ
        clear tg1
        go_wp2_with fail
        go_region
        go_wp2
        go_ret
        exact ⟨by rw [HM.out]; rfl, HB.out.drew⟩
      have g1 : decide ((p.length : Int) < 1) = false := by rw [decide_eq_false_iff_not]; omega
      by_cases tg2 : 8192 < p.length
      · have HM := Kept.mk (may_no (F := F) (fun h => by have := HGJ.out.1 (h.2 j hlt); omega))
        have g2 : decide ((8192 : Int) < (p.length : Int)) = true := by rw [decide_eq_true_eq]; omega
        clear HGJ
        clear tg2
        go_wp2_with fail
        go_region
        go_wp2
        go_ret
        exact ⟨by rw [HM.out]; rfl, HB.out.drew⟩
      have g2 : decide ((8192 : Int) < (p.length : Int)) = false := by rw [decide_eq_false_iff_not]; omega
      by_cases tg3 : ¬ p.length = q.length
      · have HM := Kept.mk (may_no (F := F) (fun h => by have := HGJ.out.1 (h.2 j hlt); omega))
        have g3 : ((p.length : Int) != (q.length : Int)) = true := by simp; omega
        have g3b : ((p.length : Int) == (q.length : Int)) = false := by simp; omega
        clear HGJ
        clear tg3
        go_wp2_with fail
        go_region
        go_wp2
        go_ret
        exact ⟨by rw [HM.out]; rfl, HB.out.drew⟩
      have g3 : ((p.length : Int) != (q.length : Int)) = false := by simp; omega
      have g3b : ((p.length : Int) == (q.length : Int)) = true := by simp; omega
      by_cases tg4 : x < 0
      · have HM := Kept.mk (may_no (F := F) (fun h => by have := HGJ.out.1 (h.2 j hlt); omega))
        have g4 : decide (x < 0) = true := by rw [decide_eq_true_eq]; omega
        clear HGJ
        clear tg4
        go_wp2_with fail
        go_region
        go_wp2
        go_ret
        exact ⟨by rw [HM.out]; rfl, HB.out.drew⟩
      have g4 : decide (x < 0) = false := by rw [decide_eq_false_iff_not]; omega
      by_cases tg5 : 2147483647 < x
      · have HM := Kept.mk (may_no (F := F) (fun h => by have := HGJ.out.1 (h.2 j hlt); omega))
        have g5 : decide ((2147483647 : Int) < x) = true := by rw [decide_eq_true_eq]; omega
        clear HGJ
        clear tg5
        go_wp2_with fail
        go_region
        go_wp2
        go_ret
        exact ⟨by rw [HM.out]; rfl, HB.out.drew⟩
      have g5 : decide ((2147483647 : Int) < x) = false := by rw [decide_eq_false_iff_not]; omega
      have HGG := Kept.mk (HGJ.out.2 ⟨by omega, by omega, by omega, by omega, by omega⟩)
      clear HGJ tg3
      go_wp2_with fail
      go_region
      go_wp2
      go_roundw
      case rel => exact ⟨j + 1, by omega, by go_num, ⟨HB.out.drew⟩, ⟨HX.out.keep ((Below.refl _ _).drew)⟩, ⟨fun i hi => by by_cases e : i = j; exact e ▸ HGG.out; exact HGD.out i (by omega)⟩⟩
      case measure => simp [intOf]; omega
    · have e1 : decide ((j : Int) < (F.pages.length : Int)) = false := by simpa using hlt
      have HM := Kept.mk ((may_iff F).2 ⟨HPRE.out, fun i hi => HGD.out i (by omega)⟩)
      go_wp2
      go_ret
      exact ⟨by rw [HM.out]; rfl, HB.out⟩
end Go.Proofs.YtpjafjnokgeifaaGreatDoor
end
section
namespace Go.Proofs.YtpjafjnokgeifaaGreatDoor
open Go.RowKit
set_option linter.unusedVariables false
set_option linter.unusedSimpArgs false
attribute [local irreducible] setN

/-- A device that is looked at. -/
structure FewF (F : Fl) : Prop where
  pages : F.pages.length ≤ 1000
  wear : F.wear.length ≤ 1000
  torn : F.torn.length ≤ 9223372036854775807
  page : ∀ p ∈ F.pages, p.length ≤ 9223372036854775807
theorem rfcheck_any (F : Fl) (v : Value) (w : World) (hv : isFl F v w) (hf : FewF F) : Calls Tryz.prog 51 #[v] w fun e w' => e = .returned (.bool (mayB F)) ∧ Below w.heap.size w w' := by
  have z1 := hf.pages
  have z2 := hf.wear
  have z3 := hf.torn
  by_cases h1 : F.pages.length < 1
  · rw [may_no (fun h => by have := h.1.1; omega)]; exact rfcheck_no1 F v w hv (by omega) (by omega) (by omega) h1
  · by_cases h2 : 6 < F.pages.length
    · rw [may_no (fun h => by have := h.1.2.1; omega)]; exact rfcheck_no2 F v w hv (by omega) (by omega) (by omega) (by omega) h2
    · by_cases h3 : F.wear.length = F.pages.length
      · by_cases h4 : 64 < F.torn.length
        · rw [may_no (fun h => by have := h.1.2.2.2; omega)]; exact rfcheck_no4 F v w hv (by omega) (by omega) (by omega) (by omega) (by omega) h3 h4
        · exact rfcheck_loop F v w hv (by omega) (by omega) h3 (by omega) (fun p hp => by have := hf.page p hp; omega)
      · rw [may_no (fun h => h3 h.1.2.2.1)]; exact rfcheck_no3 F v w hv (by omega) (by omega) (by omega) (by omega) (by omega) h3
set_option maxRecDepth 100000 in
set_option maxHeartbeats 4000000 in
theorem rpage_any (F : Fl) (n : Int) (v : Value) (w : World) (hv : isFl F v w) (hf : FewF F) : Calls Tryz.prog 106 #[v, .int .i64 n] w fun e w' => e = .returned (.bool (hasB F n)) ∧ Below w.heap.size w w' := by
  have hv0 := hv
  obtain ⟨vp, vw, rfl, hpp, hqq⟩ := hv
  obtain ⟨ap, cp, rfl⟩ := hpp.len
  rw [List.length_map] at hv0 ⊢
  replace hv0 : isFl F (.agg #[.slice ap F.pages.length cp, vw, .int .i64 F.fuse, .string ⟨F.torn.toArray⟩, .bool F.dead]) w := hv0
  show Calls Tryz.prog 106 #[.agg #[.slice ap F.pages.length cp, vw, .int .i64 F.fuse, .string ⟨F.torn.toArray⟩, .bool F.dead], .int .i64 n] w _
  have HB := Kept.mk (lit_below w (.cells #[.slice ap F.pages.length cp, vw, .int .i64 F.fuse, .string ⟨F.torn.toArray⟩, .bool F.dead] 25))
  have HX := Kept.mk (Blk.new w 25 [.slice ap F.pages.length cp, vw, .int .i64 F.fuse, .string ⟨F.torn.toArray⟩, .bool F.dead] w.heap.size rfl)
  have HV := Kept.mk (stable_fl F _ _ _ hv0 HB.out)
  have hs : F.pages.length ≤ 1000 := hf.pages
  clear hpp hqq hv0
  go_enter Tryz.func106, Tryz.ntmps106
  go_wp2_with fail
  generalize w.alloc (.cells #[.slice ap F.pages.length cp, vw, .int .i64 F.fuse, .string ⟨F.torn.toArray⟩, .bool F.dead] 25) = W0 at *
  refine (rfcheck_any F _ W0 HV.out hf).mono ?_
  rintro e W1 ⟨rfl, hb⟩
  replace HX := Kept.mk (HX.out.keep hb)
  replace HB := Kept.mk (HB.out.trans (hb.mono HB.out.size))
  clear hb
  have k0 := HX.out.cells.2 0 _ rfl
  cases hm : mayB F with
  | false =>
    have HH := Kept.mk (show hasB F n = false by unfold hasB; rw [hm]; rfl)
    go_wp2
    go_ret
    exact ⟨by rw [HH.out]; rfl, HB.out⟩
  | true =>
    by_cases h0 : 0 ≤ n
    · have d0 : decide (0 ≤ n) = true := by simpa using h0
      have HH := Kept.mk (show hasB F n = decide (n < F.pages.length) by unfold hasB; rw [hm, d0]; rfl)
      go_wp2
      go_ret
      exact ⟨by rw [HH.out]; rfl, HB.out⟩
    · have d0 : decide (0 ≤ n) = false := by simpa using h0
      have HH := Kept.mk (show hasB F n = false by unfold hasB; rw [hm, d0]; rfl)
      go_wp2
      go_ret
      exact ⟨by rw [HH.out]; rfl, HB.out⟩
end Go.Proofs.YtpjafjnokgeifaaGreatDoor
end
section
namespace Go.Proofs.YtpjafjnokgeifaaGreatDoor
open Go.RowKit
set_option linter.unusedVariables false
set_option linter.unusedSimpArgs false
attribute [local irreducible] set5

/-- A page some of whose bits were turned. -/
def rotL (was : List UInt8) (k : Nat) (turn : List UInt8) : List UInt8 := was.take k ++ pairL (· ^^^ ·) (was.drop k) turn
theorem length_rotL (was : List UInt8) (k : Nat) (s : List UInt8) : (rotL was k s).length = was.length := by
  unfold rotL
  rw [List.length_append, length_pairL, ← List.length_append, List.take_append_drop]
end Go.Proofs.YtpjafjnokgeifaaGreatDoor
end
section
namespace Go.Proofs.YtpjafjnokgeifaaGreatDoor
open Go.RowKit
set_option linter.unusedVariables false
set_option linter.unusedSimpArgs false

def rotB (F : Fl) (page at_ : Int) (turn : List UInt8) : Bool := hasB F page && decide (turn.length ≤ 4) && fitsB F page at_ turn
def rotF (F : Fl) (page at_ : Int) (turn : List UInt8) : Fl := if rotB F page at_ turn = true then { F with pages := F.pages.set page.toNat (rotL (F.pages.getD page.toNat []) at_.toNat turn) } else F
def rotE (F : Fl) (page at_ : Int) (turn : List UInt8) : Int := if rotB F page at_ turn = true then 0 else 1
def byteC (b : UInt8) : Value := .int .u8 (b.toNat : Int)
def notFull : Value → Bool
  | .int .u8 x => decide (x ≠ 255)
  | _ => false
theorem notFull_byte (b : UInt8) : notFull (byteC b) = decide (b ≠ 255) := by
  show decide ((b.toNat : Int) ≠ 255) = _
  rw [decide_eq_decide]
  constructor
  · rintro h rfl; exact h rfl
  · intro h e; exact h (UInt8.toNat_inj.1 (by have : (255 : UInt8).toNat = 255 := rfl; omega))
attribute [irreducible] notFull
def freeB (F : Fl) (page : Int) : Bool := hasB F page && (F.pages.getD page.toNat []).all fun b => decide (b = 255)
theorem all_full (l : List UInt8) : (l.all fun b => decide (b = 255)) = !(l.map byteC).any notFull := by
  induction l with
  | nil => rfl
  | cons b l ih =>
    rw [List.all_cons, List.map_cons, List.any_cons, notFull_byte, ih, Bool.not_or]
    congr 1
    by_cases h : b = 255 <;> simp [h]
theorem cells_of_row {w : World} {g cap : Nat} {l : List UInt8} (h : BRow w g l) (hg : g < w.heap.size) : isCells (l.map byteC) (.slice (some ⟨g, 0, none⟩) l.length cap) w := by
  refine .inr (.inr ⟨g, 0, cap, by rw [List.length_map], hg, fun j x hx => ?_⟩)
  have hj : j < l.length := by have := (List.getElem?_eq_some_iff.1 hx).1; simpa using this
  rw [get_map byteC l j hj] at hx
  injection hx with hx
  rw [← hx, Nat.zero_add]
  exact (h j hj).1

end Go.Proofs.YtpjafjnokgeifaaGreatDoor
end
section
namespace Go.Proofs.YtpjafjnokgeifaaGreatDoor
open Go.RowKit
set_option linter.unusedVariables false
set_option linter.unusedSimpArgs false
attribute [local irreducible] setN
end Go.Proofs.YtpjafjnokgeifaaGreatDoor
end
section
namespace Go.Proofs.YtpjafjnokgeifaaGreatDoor
open Go.RowKit
set_option linter.unusedVariables false
set_option linter.unusedSimpArgs false
/-- Each of the first ones is waited for by a later one of them, or by the first of the last ones; each other of these waits for the one ahead of it. -/
def tailOkC (ops : Array Oper) (k0 : Nat) : Bool :=
  decide (k0 ≤ ops.size) && (List.range ops.size).all fun j => if j < k0 then ((List.range (k0 + 1)).any fun i => decide (j < i) && waits ops i j) else if j = k0 then true else waits ops j (j - 1)
section
variable {P : Program} {ops : Array Oper} {base : World} {a0 : Act} {Q : Exit → Act → World → Prop}
theorem wpAny_tailC {n k0 : Nat} (hok : flowOk ops n = true) (ht : tailOkC ops k0 = true) : ∀ (c i fuel : Nat) (listed : Array Bool) (a : Act) (w : World), i + c = ops.size → k0 ≤ i → c ≤ fuel → listed.size = ops.size →
    (∀ j, j < ops.size → listed.getD j false = decide (j < i)) → Tail P ops Q c i a w → wpAny P .any ops Q fuel listed a w := by
  have tk : ∀ j, j < ops.size → k0 < j → waits ops j (j - 1) = true := by
    intro j hj hk
    unfold tailOkC at ht
    simp only [Bool.and_eq_true, List.all_eq_true, List.mem_range] at ht
    have := ht.2 j hj
    rwa [if_neg (by omega), if_neg (by omega)] at this
  intro c
  induction c with
  | zero =>
    intro i fuel listed a w hi hk hc hl hd h
    have hr : Region.ready .any ops listed = [] := by
      apply List.eq_nil_iff_forall_not_mem.2
      intro j hj
      have := ready_un hl hj
      rw [hd j this.1] at this
      simp at this
      omega
    cases fuel with
    | zero => exact ⟨hr, h⟩
    | succ fuel => exact ⟨fun _ => h, fun j hj => by rw [hr] at hj; cases hj⟩
  | succ c ih =>
    intro i fuel listed a w hi hk hc hl hd h
    cases fuel with
    | zero => omega
    | succ fuel =>
      have hmem : i ∈ Region.ready .any ops listed := ready_of hok hl (by omega) (by rw [hd i (by omega)]; simp) (fun j hj => by rw [hd j (by omega)]; simpa using hj)
      refine ⟨fun hr => (by rw [hr] at hmem; cases hmem), fun j hj => ?_⟩
      have hju := ready_un hl hj
      have hji : j = i := by
        rw [hd j hju.1] at hju
        have hge : i ≤ j := by simpa using hju.2
        by_cases e : j = i
        · exact e
        · exfalso
          have := waits_ready hj (tk j hju.1 (by omega))
          rw [hd (j - 1) (by omega)] at this
          simp at this
          omega
      subst hji
      refine wpOp_mono ?_ h
      intro a' w' h'
      refine ih (j + 1) fuel (listed.setIfInBounds j true) a' w' (by omega) (by omega) (by omega) (by simpa using hl) ?_ h'
      intro m hm
      by_cases e : m = j
      · subst e; rw [getD_set_same (by omega)]; simp
      · rw [getD_set_ne e, hd m hm, decide_eq_decide]; omega

theorem wpAny_flowTailC {k0 : Nat} (hok : flowOk ops a0.tmps.size = true) (ht : tailOkC ops k0 = true) {kn : Nat → VP} (hs : ∀ m, m < k0 → FStep P ops base a0 Q kn m (kn m))
    (he : FlowTail P ops base a0 Q k0 (ops.size - k0) 0 k0 kn) :
    ∀ (u fuel : Nat) (listed : Array Bool) (a : Act) (w : World), listed.size = ops.size → ((List.range k0).filter fun i => !listed.getD i false).length ≤ u → u + (ops.size - k0) ≤ fuel → (∀ j, k0 ≤ j → listed.getD j false = false) → (∀ j, listed.getD j false = true → ∀ m, waits ops j m = true → listed.getD m false = true) →
      FKept ops a0 a → Below base.heap.size base w → (∀ j, listed.getD j false = true → FDone ops kn a w j) → wpAny P .any ops Q fuel listed a w := by
  obtain ⟨ok1, ok2, ok3⟩ := flowOk_spec hok
  have hk0 : k0 ≤ ops.size := by unfold tailOkC at ht; simp only [Bool.and_eq_true, decide_eq_true_eq] at ht; exact ht.1
  have tk : ∀ j, j < ops.size → k0 < j → waits ops j (j - 1) = true := by
    intro j hj hk
    unfold tailOkC at ht
    simp only [Bool.and_eq_true, List.all_eq_true, List.mem_range] at ht
    have := ht.2 j hj
    rwa [if_neg (by omega), if_neg (by omega)] at this
  have tk0 : ∀ m, m < k0 → ∃ j, m < j ∧ j ≤ k0 ∧ waits ops j m = true := by
    intro m hk
    unfold tailOkC at ht
    simp only [Bool.and_eq_true, List.all_eq_true, List.mem_range] at ht
    have := ht.2 m (by omega)
    rw [if_pos hk, List.any_eq_true] at this
    obtain ⟨j, hj, h⟩ := this
    rw [Bool.and_eq_true, decide_eq_true_eq] at h
    exact ⟨j, h.1, by simpa [Nat.lt_succ_iff] using hj, h.2⟩
  intro u
  induction u with
  | zero =>
    intro fuel listed a w hl hu hf htl hcl hk hb hd
    have hall : ∀ j, j < k0 → listed.getD j false = true := by
      intro j hj
      have h0 : ((List.range k0).filter fun i => !listed.getD i false) = [] := List.eq_nil_of_length_eq_zero (by omega)
      rw [List.filter_eq_nil_iff] at h0
      have := h0 j (by simpa using hj)
      simpa using this
    refine wpAny_tailC hok ht (ops.size - k0) k0 fuel listed a w (by omega) (Nat.le_refl _) (by omega) hl ?_ (he a w hk hb (fun j hj => hd j (hall j hj)))
    intro j hj
    by_cases e : j < k0
    · rw [hall j e]; simp [e]
    · rw [htl j (by omega)]; simp [e]
  | succ u ih =>
    intro fuel listed a w hl hu hf htl hcl hk hb hd
    by_cases hall : ∀ j, j < k0 → listed.getD j false = true
    · refine wpAny_tailC hok ht (ops.size - k0) k0 fuel listed a w (by omega) (Nat.le_refl _) (by omega) hl ?_ (he a w hk hb (fun j hj => hd j (hall j hj)))
      intro j hj
      by_cases e : j < k0
      · rw [hall j e]; simp [e]
      · rw [htl j (by omega)]; simp [e]
    · -- the least that is not yet done
      have hex : ∃ m, m < k0 ∧ listed.getD m false = false ∧ ∀ j, j < m → listed.getD j false = true := by
        have key : ∀ n, n ≤ k0 → (∀ j, j < n → listed.getD j false = true) ∨ ∃ m, m < n ∧ listed.getD m false = false ∧ ∀ j, j < m → listed.getD j false = true := by
          intro n
          induction n with
          | zero => intro _; exact .inl (fun j hj => absurd hj (by omega))
          | succ n ihn =>
            intro hn
            rcases ihn (by omega) with h | ⟨m, hm, h1, h2⟩
            · cases hc : listed.getD n false with
              | true => exact .inl (fun j hj => by by_cases e : j = n; exact e ▸ hc; exact h j (by omega))
              | false => exact .inr ⟨n, by omega, hc, h⟩
            · exact .inr ⟨m, by omega, h1, h2⟩
        rcases key k0 (Nat.le_refl _) with h | h
        · exact absurd h hall
        · exact h
      obtain ⟨m, hm, hmu, hmd⟩ := hex
      have hmem : m ∈ Region.ready .any ops listed := ready_of hok hl (by omega) hmu hmd
      cases fuel with
      | zero => omega
      | succ fuel =>
        refine ⟨fun hr => (by rw [hr] at hmem; cases hmem), fun i hi => ?_⟩
        have hiu := ready_un hl hi
        have hik : i < k0 := by
          by_cases e : i < k0
          · exact e
          · exfalso
            by_cases e2 : i = k0
            · subst e2
              have cov : ∀ d m, m + d = i → 0 < d → listed.getD m false = true := by
                intro d
                induction d using Nat.strongRecOn with
                | _ d ihd =>
                  intro m' hm' hd'
                  obtain ⟨j, h1, h2, h3⟩ := tk0 m' (by omega)
                  by_cases e3 : j = i
                  · rw [e3] at h3; exact waits_ready hi h3
                  · exact hcl j (ihd (i - j) (by omega) j (by omega) (by omega)) m' h3
              have := cov (i - m) m (by omega) (by omega)
              rw [hmu] at this
              cases this
            · have := waits_ready hi (tk i hiu.1 (by omega))
              rw [htl (i - 1) (by omega)] at this
              cases this
        obtain ⟨o, ho⟩ : ∃ o, ops[i]? = some o := ⟨_, Array.getElem?_eq_getElem hiu.1⟩
        have hstep := (hs i hik).2 o ho a w hk hb (by
          intro o' ho' e he' hbd
          rw [ho] at ho'
          cases ho'
          refine hd e.on (waits_ready hi ?_)
          unfold waits
          rw [ho]
          simp only [Option.any_some, List.any_eq_true, Bool.and_eq_true, beq_iff_eq]
          exact ⟨e, he', rfl, hbd⟩)
        refine wpOp_mono ?_ hstep
        rintro a' w' ⟨v, rfl, hV, hbw⟩
        refine ih fuel (listed.setIfInBounds i true) _ w' (by simpa using hl) ?_ (by omega) ?_ ?_ ?_ (hb.trans (hbw.mono hb.size)) ?_
        · have hsub : ((List.range k0).filter fun j => !(listed.setIfInBounds i true).getD j false).length < ((List.range k0).filter fun j => !listed.getD j false).length := by
            have e1 : ((List.range k0).filter fun j => !(listed.setIfInBounds i true).getD j false) = ((List.range k0).filter fun j => !listed.getD j false).filter (fun j => j != i) := by
              rw [List.filter_filter]
              apply List.filter_congr
              intro j hj
              by_cases e : j = i
              · subst e; rw [getD_set_same (by omega)]; simp
              · rw [getD_set_ne e]; simp [e]
            rw [e1]
            refine List.length_filter_lt_length_iff_exists.2 ⟨i, ?_, by simp⟩
            simp only [List.mem_filter, List.mem_range]
            exact ⟨hik, by rw [hiu.2]; rfl⟩
          omega
        · intro j hj
          rw [getD_set_ne (by omega)]
          exact htl j hj
        · intro j hj m' hm'
          by_cases e4 : m' = i
          · subst e4; exact getD_set_same (by omega)
          · rw [getD_set_ne e4]
            by_cases e5 : j = i
            · subst e5; exact waits_ready hi hm'
            · rw [getD_set_ne e5] at hj; exact hcl j hj m' hm'
        · refine ⟨by rw [defers_put]; exact hk.1, by rw [size_put]; exact hk.2.1, fun t ht' => ?_⟩
          cases hdst : o.dst with
          | none => simp only [Act.put]; exact hk.2.2 t ht'
          | some s =>
            have : s ≠ t := by
              rintro rfl
              have := List.all_eq_true.1 ht' o (by rw [Array.mem_toList_iff]; exact Array.mem_of_getElem? ho)
              rw [hdst] at this
              simp at this
            rw [getD_put (fun h => this h.symm)]
            exact hk.2.2 t ht'
        · intro j hj o' ho' t ht'
          by_cases e : j = i
          · subst e
            rw [ho] at ho'
            cases ho'
            rw [ht', getD_put_self (by rw [hk.2.1]; exact ok3 j o t ho ht')]
            exact hV
          · rw [getD_set_ne e] at hj
            have hne : o.dst ≠ some t := fun hh => e (ok2 j i o' o t ho' ho ht' hh)
            have hold := hd j hj o' ho' t ht'
            have hslot : (a.put o.dst v).tmps.getD t undef = a.tmps.getD t undef := by
              cases hdst : o.dst with
              | none => rfl
              | some s => exact getD_put (fun h => hne (by rw [hdst, h]))
            rw [hslot]
            have hjk : j < k0 := by
              by_cases e2 : j < k0
              · exact e2
              · rw [htl j (by omega)] at hj; cases hj
            exact (hs j hjk).1 _ _ _ hold hbw

/-- THE LAW. -/
theorem wp_region_cov (k0 : Nat) {id : Nat} {a : Act} {w : World} (hm : P.follows .mixedOrders = true) (hok : flowOk ops a.tmps.size = true) (ht : tailOkC ops k0 = true)
    (h : FlowTail P ops w a Q k0 (ops.size - k0) k0 0 (fun _ _ _ => False)) : (Code.region id ops true).wp P Q a w := by
  refine wp_region_any hm ?_
  obtain ⟨kn, hs, he⟩ := flowTail_family hok k0 0 _ (by omega) (fun m hm => absurd hm (by omega)) h
  have hk0 : k0 ≤ ops.size := by unfold tailOkC at ht; simp only [Bool.and_eq_true, decide_eq_true_eq] at ht; exact ht.1
  refine wpAny_flowTailC hok ht hs he k0 ops.size _ a _ (by simp) ?_ (by omega) ?_ ?_ ⟨rfl, rfl, fun _ _ => rfl⟩ ((Below.refl _ w).drew) ?_
  · exact Nat.le_trans (List.length_filter_le _ _) (by simp)
  · intro j hj
    simp [Array.getD_eq_getD_getElem?, Array.getElem?_replicate]
    split <;> rfl
  · intro j hj
    simp [Array.getD_eq_getD_getElem?, Array.getElem?_replicate] at hj
    split at hj <;> simp at hj
  · intro j hj
    simp [Array.getD_eq_getD_getElem?, Array.getElem?_replicate] at hj
    split at hj <;> simp at hj
end
section
variable {R : World → World → Prop} {P : Program} {ops : Array Oper} {base : World} {a0 : Act} {Q : Exit → Act → World → Prop}
theorem wpAny_relTailC {k0 : Nat} (hR : Pre R) (hok : flowOk ops a0.tmps.size = true) (ht : tailOkC ops k0 = true) {kn : Nat → VP} (hs : ∀ m, m < k0 → RStep R P ops base a0 Q k0 kn m (kn m))
    (he : RelTail R P ops base a0 Q k0 (ops.size - k0) 0 k0 kn) :
    ∀ (u fuel : Nat) (listed : Array Bool) (a : Act) (w : World), listed.size = ops.size → ((List.range k0).filter fun i => !listed.getD i false).length ≤ u → u + (ops.size - k0) ≤ fuel → (∀ j, k0 ≤ j → listed.getD j false = false) → (∀ j, listed.getD j false = true → ∀ m, waits ops j m = true → listed.getD m false = true) →
      FKeptN ops k0 a0 a → R base w → (∀ j, listed.getD j false = true → RDone ops kn a w j) → wpAny P .any ops Q fuel listed a w := by
  obtain ⟨ok1, ok2, ok3⟩ := flowOk_spec hok
  have hk0 : k0 ≤ ops.size := by unfold tailOkC at ht; simp only [Bool.and_eq_true, decide_eq_true_eq] at ht; exact ht.1
  have tk : ∀ j, j < ops.size → k0 < j → waits ops j (j - 1) = true := by
    intro j hj hk
    unfold tailOkC at ht
    simp only [Bool.and_eq_true, List.all_eq_true, List.mem_range] at ht
    have := ht.2 j hj
    rwa [if_neg (by omega), if_neg (by omega)] at this
  have tk0 : ∀ m, m < k0 → ∃ j, m < j ∧ j ≤ k0 ∧ waits ops j m = true := by
    intro m hk
    unfold tailOkC at ht
    simp only [Bool.and_eq_true, List.all_eq_true, List.mem_range] at ht
    have := ht.2 m (by omega)
    rw [if_pos hk, List.any_eq_true] at this
    obtain ⟨j, hj, h⟩ := this
    rw [Bool.and_eq_true, decide_eq_true_eq] at h
    exact ⟨j, h.1, by simpa [Nat.lt_succ_iff] using hj, h.2⟩
  intro u
  induction u with
  | zero =>
    intro fuel listed a w hl hu hf htl hcl hk hb hd
    have hall : ∀ j, j < k0 → listed.getD j false = true := by
      intro j hj
      have h0 : ((List.range k0).filter fun i => !listed.getD i false) = [] := List.eq_nil_of_length_eq_zero (by omega)
      rw [List.filter_eq_nil_iff] at h0
      have := h0 j (by simpa using hj)
      simpa using this
    refine wpAny_tailC hok ht (ops.size - k0) k0 fuel listed a w (by omega) (Nat.le_refl _) (by omega) hl ?_ (he a w hk hb (fun j hj => hd j (hall j hj)))
    intro j hj
    by_cases e : j < k0
    · rw [hall j e]; simp [e]
    · rw [htl j (by omega)]; simp [e]
  | succ u ih =>
    intro fuel listed a w hl hu hf htl hcl hk hb hd
    by_cases hall : ∀ j, j < k0 → listed.getD j false = true
    · refine wpAny_tailC hok ht (ops.size - k0) k0 fuel listed a w (by omega) (Nat.le_refl _) (by omega) hl ?_ (he a w hk hb (fun j hj => hd j (hall j hj)))
      intro j hj
      by_cases e : j < k0
      · rw [hall j e]; simp [e]
      · rw [htl j (by omega)]; simp [e]
    · -- the least that is not yet done
      have hex : ∃ m, m < k0 ∧ listed.getD m false = false ∧ ∀ j, j < m → listed.getD j false = true := by
        have key : ∀ n, n ≤ k0 → (∀ j, j < n → listed.getD j false = true) ∨ ∃ m, m < n ∧ listed.getD m false = false ∧ ∀ j, j < m → listed.getD j false = true := by
          intro n
          induction n with
          | zero => intro _; exact .inl (fun j hj => absurd hj (by omega))
          | succ n ihn =>
            intro hn
            rcases ihn (by omega) with h | ⟨m, hm, h1, h2⟩
            · cases hc : listed.getD n false with
              | true => exact .inl (fun j hj => by by_cases e : j = n; exact e ▸ hc; exact h j (by omega))
              | false => exact .inr ⟨n, by omega, hc, h⟩
            · exact .inr ⟨m, by omega, h1, h2⟩
        rcases key k0 (Nat.le_refl _) with h | h
        · exact absurd h hall
        · exact h
      obtain ⟨m, hm, hmu, hmd⟩ := hex
      have hmem : m ∈ Region.ready .any ops listed := ready_of hok hl (by omega) hmu hmd
      cases fuel with
      | zero => omega
      | succ fuel =>
        refine ⟨fun hr => (by rw [hr] at hmem; cases hmem), fun i hi => ?_⟩
        have hiu := ready_un hl hi
        have hik : i < k0 := by
          by_cases e : i < k0
          · exact e
          · exfalso
            by_cases e2 : i = k0
            · subst e2
              have cov : ∀ d m, m + d = i → 0 < d → listed.getD m false = true := by
                intro d
                induction d using Nat.strongRecOn with
                | _ d ihd =>
                  intro m' hm' hd'
                  obtain ⟨j, h1, h2, h3⟩ := tk0 m' (by omega)
                  by_cases e3 : j = i
                  · rw [e3] at h3; exact waits_ready hi h3
                  · exact hcl j (ihd (i - j) (by omega) j (by omega) (by omega)) m' h3
              have := cov (i - m) m (by omega) (by omega)
              rw [hmu] at this
              cases this
            · have := waits_ready hi (tk i hiu.1 (by omega))
              rw [htl (i - 1) (by omega)] at this
              cases this
        obtain ⟨o, ho⟩ : ∃ o, ops[i]? = some o := ⟨_, Array.getElem?_eq_getElem hiu.1⟩
        have hstep := (hs i hik).2 o ho a w hk hb (by
          intro o' ho' e he' hbd
          rw [ho] at ho'
          cases ho'
          refine hd e.on (waits_ready hi ?_)
          unfold waits
          rw [ho]
          simp only [Option.any_some, List.any_eq_true, Bool.and_eq_true, beq_iff_eq]
          exact ⟨e, he', rfl, hbd⟩)
        refine wpOp_mono ?_ hstep
        rintro a' w' ⟨v, rfl, hvn, hV, hbw⟩
        refine ih fuel (listed.setIfInBounds i true) _ w' (by simpa using hl) ?_ (by omega) ?_ ?_ ?_ (hR.trans _ _ _ hb hbw) ?_
        · have hsub : ((List.range k0).filter fun j => !(listed.setIfInBounds i true).getD j false).length < ((List.range k0).filter fun j => !listed.getD j false).length := by
            have e1 : ((List.range k0).filter fun j => !(listed.setIfInBounds i true).getD j false) = ((List.range k0).filter fun j => !listed.getD j false).filter (fun j => j != i) := by
              rw [List.filter_filter]
              apply List.filter_congr
              intro j hj
              by_cases e : j = i
              · subst e; rw [getD_set_same (by omega)]; simp
              · rw [getD_set_ne e]; simp [e]
            rw [e1]
            refine List.length_filter_lt_length_iff_exists.2 ⟨i, ?_, by simp⟩
            simp only [List.mem_filter, List.mem_range]
            exact ⟨hik, by rw [hiu.2]; rfl⟩
          omega
        · intro j hj
          rw [getD_set_ne (by omega)]
          exact htl j hj
        · intro j hj m' hm'
          by_cases e4 : m' = i
          · subst e4; exact getD_set_same (by omega)
          · rw [getD_set_ne e4]
            by_cases e5 : j = i
            · subst e5; exact waits_ready hi hm'
            · rw [getD_set_ne e5] at hj; exact hcl j hj m' hm'
        · refine ⟨by rw [defers_put]; exact hk.1, by rw [size_put]; exact hk.2.1, fun t ht' => ?_⟩
          cases hdst : o.dst with
          | none => simp only [Act.put]; exact hk.2.2 t ht'
          | some s =>
            have : s ≠ t := by
              rintro rfl
              have := List.all_eq_true.1 ht' i (by simpa using hik)
              rw [ho] at this
              simp [hdst] at this
            rw [getD_put (fun h => this h.symm)]
            exact hk.2.2 t ht'
        · intro j hj o' ho'
          by_cases e : j = i
          · subst e
            rw [ho] at ho'
            cases ho'
            cases hdst : o.dst with
            | none => rw [hvn hdst] at hV; exact hV
            | some t =>
              show kn j (_) w'
              simp only []
              rw [getD_put_self (by rw [hk.2.1]; exact ok3 j o t ho hdst)]
              exact hV
          · rw [getD_set_ne e] at hj
            have hold := hd j hj o' ho'
            have hjk : j < k0 := by
              by_cases e2 : j < k0
              · exact e2
              · rw [htl j (by omega)] at hj; cases hj
            refine (hs j hjk).1 _ _ _ ?_ hbw
            cases hdst' : o'.dst with
            | none => rw [hdst'] at hold; exact hold
            | some t =>
              rw [hdst'] at hold
              have hne : o.dst ≠ some t := fun hh => e (ok2 j i o' o t ho' ho hdst' hh)
              have hslot : (a.put o.dst v).tmps.getD t undef = a.tmps.getD t undef := by
                cases hdst : o.dst with
                | none => rfl
                | some s => exact getD_put (fun h => hne (by rw [hdst, h]))
              simp only [hslot]
              exact hold

theorem wp_region_relC (hR : Pre R) (k0 : Nat) {id : Nat} {a : Act} {w : World} (hm : P.follows .mixedOrders = true) (hok : flowOk ops a.tmps.size = true) (ht : tailOkC ops k0 = true)
    (h : RelTail R P ops w a Q k0 (ops.size - k0) k0 0 (fun _ _ _ => False)) : (Code.region id ops true).wp P Q a w := by
  refine wp_region_any hm ?_
  obtain ⟨kn, hs, he⟩ := relTail_family hok k0 0 _ (by omega) (fun m hm => absurd hm (by omega)) h
  have hk0 : k0 ≤ ops.size := by unfold tailOkC at ht; simp only [Bool.and_eq_true, decide_eq_true_eq] at ht; exact ht.1
  refine wpAny_relTailC hR hok ht hs he k0 ops.size _ a _ (by simp) ?_ (by omega) ?_ ?_ ⟨rfl, rfl, fun _ _ => rfl⟩ (hR.drew w) ?_
  · exact Nat.le_trans (List.length_filter_le _ _) (by simp)
  · intro j hj
    simp [Array.getD_eq_getD_getElem?, Array.getElem?_replicate]
    split <;> rfl
  · intro j hj
    simp [Array.getD_eq_getD_getElem?, Array.getElem?_replicate] at hj
    split at hj <;> simp at hj
  · intro j hj
    simp [Array.getD_eq_getD_getElem?, Array.getElem?_replicate] at hj
    split at hj <;> simp at hj
/-- Memory grows. -/
def Grows (w w' : World) : Prop := Below w.heap.size w w'
theorem grows_pre : Pre Grows where
  refl w := Below.refl _ _
  trans a b c h1 h2 := h1.trans (h2.mono h1.size)
  grow w w' h := h
  drew w := (Below.refl _ w).drew
/-- What stood in a slot that the last ones alone write. -/
theorem RStep.old {k0 : Nat} {kn : Nat → VP} {i : Nat} (t : Tmp) (v : Value) (hop : (ops[i]?).map (fun o => (o.op, o.guard)) = some (.move (.tmp t), none)) (hd : ((ops[i]?).bind (·.dst)).isSome = true) (hk : ((List.range k0).all fun i => (ops[i]?).all fun o => o.dst != some t) = true)
    (hv : a0.tmps.getD t undef = v) : RStep Grows P ops base a0 Q k0 kn i (isVal v) := by
  refine ⟨fun _ _ _ h _ => h, fun o ho a w hkp hb hdp => ?_⟩
  rw [ho] at hop hd
  simp only [Option.map_some, Option.some.injEq, Prod.mk.injEq] at hop
  have e : a.eval (.tmp t) = v := (hkp.2.2 t hk).trans hv
  unfold wpOp
  simp only [ho]
  rw [show Region.wanted o (yielded ops a.tmps) = true by simp [Region.wanted, hop.2]]
  refine .inl ?_
  unfold Oper.wp execOp
  rw [hop.1]
  refine ⟨_, rfl, fun hn => ?_, e, Below.refl _ _⟩
  simp [hn] at hd
end
end Go.Proofs.YtpjafjnokgeifaaGreatDoor
end
section
namespace Go.Proofs.YtpjafjnokgeifaaGreatDoor
open Go.RowKit
set_option linter.unusedVariables false
set_option linter.unusedSimpArgs false

/-- Block g's first cell holds x, and may be written. -/
structure At (w : World) (g : Nat) (x : Value) : Prop where
  cell : w.cell? ⟨g, 0, none⟩ = some x
  free : w.frozen? ⟨g, 0, none⟩ = false
  lt : g < w.heap.size
/-- Block g's first cell has come to be x; no other block that was there has turned. -/
structure Wr (g : Nat) (x : Value) (w w' : World) : Prop where
  os : w'.os = w.os
  tape : w'.tape = w.tape
  output : w'.output = w.output
  size : w.heap.size ≤ w'.heap.size
  block : ∀ k, k < w.heap.size → k ≠ g → w'.heap[k]? = w.heap[k]?
  at_ : At w' g x
theorem At.keep {w w' : World} {g : Nat} {x : Value} (h : At w g x) (hb : Below w.heap.size w w') : At w' g x :=
  ⟨(hb.cell (p := ⟨g, 0, none⟩) h.lt).trans h.cell, (hb.frozen (p := ⟨g, 0, none⟩) h.lt).trans h.free, Nat.lt_of_lt_of_le h.lt hb.size⟩
theorem Wr.trans {g : Nat} {x y : Value} {a b c : World} (h : Wr g x a b) (k : Wr g y b c) : Wr g y a c :=
  ⟨k.os.trans h.os, k.tape.trans h.tape, k.output.trans h.output, Nat.le_trans h.size k.size, fun i hi hne => (k.block i (Nat.lt_of_lt_of_le hi h.size) hne).trans (h.block i hi hne), k.at_⟩
theorem Wr.then_ {g : Nat} {x : Value} {a b c : World} (h : Wr g x a b) (k : Below b.heap.size b c) : Wr g x a c :=
  ⟨k.os.trans h.os, k.tape.trans h.tape, k.output.trans h.output, Nat.le_trans h.size k.size, fun i hi hne => (k.block i (Nat.lt_of_lt_of_le hi h.size)).trans (h.block i hi hne), h.at_.keep k⟩
theorem Wr.behind {g : Nat} {x : Value} {a b c : World} (h : Below a.heap.size a b) (k : Wr g x b c) : Wr g x a c :=
  ⟨k.os.trans h.os, k.tape.trans h.tape, k.output.trans h.output, Nat.le_trans h.size k.size, fun i hi hne => (k.block i (Nat.lt_of_lt_of_le hi h.size) hne).trans (h.block i hi), k.at_⟩
theorem Wr.refl {g : Nat} {x : Value} {w : World} (h : At w g x) : Wr g x w w := ⟨rfl, rfl, rfl, Nat.le_refl _, fun _ _ _ => rfl, h⟩
theorem Wr.set {g : Nat} {x : Value} {w : World} (h : At w g x) (y : Value) : Wr g y w (w.setCell ⟨g, 0, none⟩ y) where
  os := rfl
  tape := rfl
  output := rfl
  size := by simp
  block k hk hne := Below.heap_setCell w _ y k hne
  at_ := ⟨World.cell?_setCell_same w _ _ h.cell, by rw [World.frozen?_setCell]; exact h.free, by simpa using h.lt⟩
/-- Seen from below g nothing has turned. -/
theorem Wr.below {g B : Nat} {x : Value} {w w' : World} (h : Wr g x w w') (hB : B ≤ g) (hs : B ≤ w.heap.size) : Below B w w' :=
  ⟨h.os, h.tape, h.output, h.size, fun k hk => h.block k (by omega) (by omega)⟩
theorem Wr.cell {g : Nat} {x : Value} {w w' : World} (h : Wr g x w w') {p : Addr} (hp : p.block < w.heap.size) (hne : p.block ≠ g) : w'.cell? p = w.cell? p := World.cell?_of_block (w := w) (h.block p.block hp hne)
theorem Wr.frozen {g : Nat} {x : Value} {w w' : World} (h : Wr g x w w') {p : Addr} (hp : p.block < w.heap.size) (hne : p.block ≠ g) : w'.frozen? p = w.frozen? p := World.frozen?_of_block (w := w) (h.block p.block hp hne)

theorem kept_ex {ops : Array Oper} {a0 a : Act} (h : FKept ops a0 a) (D : List (Option Nat)) (L : List Nat) (hD : ops.toList.map (·.dst) = D) (hL : D.filterMap id = L) : ∃ y : Nat → Value, a = { tmps := L.foldl (fun t s => t.setIfInBounds s (y s)) a0.tmps, defers := a0.defers } := ⟨fun s => a.tmps.getD s undef, kept_of h D L hD hL⟩
theorem put_kept {Q : Exit → Act → World → Prop} {a : Act} {d : Tmp} {v : Value} {t : Array Value} {ds : List Deferred} {w : World} (e : a = { tmps := t, defers := ds }) (h : Q .normal { tmps := t.setIfInBounds d v, defers := ds } w) : Q .normal (a.put (some d) v) w := by
  subst e
  exact h
section
variable {P : Program} {ops : Array Oper} {Q : Exit → Act → World → Prop} {i : Nat} {a : Act} {w : World} {c : Nat}
/-- A call among the last operations; its own world may turn as it likes. -/
theorem tail_call (f : FuncId) (xs : Array Operand) (ts : Array TypeId) (vs : Array Value) (d : Tmp) (hop : (ops[i]?).map (fun o => (o.op, o.guard)) = some (.call { callee := .value (.func f), args := xs, argTypes := ts }, none)) (hd : (ops[i]?).bind (·.dst) = some d)
    (hx : xs.map a.eval = vs) (hent : Enters P f) (h : Calls P f vs w fun e w' => ∃ v, e = .returned v ∧ Tail P ops Q c (i + 1) (a.put (some d) v) w') : Tail P ops Q (c + 1) i a w := by
  show wpOp P ops Q i (fun a' w' => Tail P ops Q c (i + 1) a' w') a w
  unfold wpOp
  cases ho : ops[i]? with
  | none => rw [ho] at hop; simp at hop
  | some o =>
    rw [ho] at hop hd
    simp only [Option.map_some, Option.some.injEq, Prod.mk.injEq] at hop
    simp only [Option.bind_some] at hd
    simp only []
    rw [show Region.wanted o (yielded ops a.tmps) = true by simp [Region.wanted, hop.2]]
    refine .inl ?_
    unfold Oper.wp execOp
    rw [hop.1]
    have e2 : a.eval (.func f) = .func (.func f) #[] #[] := rfl
    simp only [resolve, hx, e2, Deferred.ofValue, Sem.run_bind, Sem.run_pure, Result.andThen_ok, invoke, Array.append_empty, Array.empty_append]
    rw [hent]
    simp only [Oper.upon]
    refine h.mono ?_
    rintro e w' ⟨v, rfl, hv⟩
    rw [← hd] at hv
    exact hv
/-- A call of a function value. -/
theorem tail_callV (x : Operand) (f : FuncId) (first : Array Value) (xs : Array Operand) (ts : Array TypeId) (vs : Array Value) (d : Tmp) (hop : (ops[i]?).map (fun o => (o.op, o.guard)) = some (.call { callee := .value x, args := xs, argTypes := ts }, none)) (hd : (ops[i]?).bind (·.dst) = some d)
    (hv : a.eval x = .func (.func f) first #[]) (hx : xs.map a.eval = vs) (hent : Enters P f) (h : Calls P f (first ++ vs) w fun e w' => ∃ v, e = .returned v ∧ Tail P ops Q c (i + 1) (a.put (some d) v) w') : Tail P ops Q (c + 1) i a w := by
  show wpOp P ops Q i (fun a' w' => Tail P ops Q c (i + 1) a' w') a w
  unfold wpOp
  cases ho : ops[i]? with
  | none => rw [ho] at hop; simp at hop
  | some o =>
    rw [ho] at hop hd
    simp only [Option.map_some, Option.some.injEq, Prod.mk.injEq] at hop
    simp only [Option.bind_some] at hd
    simp only []
    rw [show Region.wanted o (yielded ops a.tmps) = true by simp [Region.wanted, hop.2]]
    refine .inl ?_
    unfold Oper.wp execOp
    rw [hop.1]
    simp only [resolve, hx, hv, Deferred.ofValue, Sem.run_bind, Sem.run_pure, Result.andThen_ok, invoke, Array.append_empty, Array.empty_append]
    rw [hent]
    simp only [Oper.upon]
    refine h.mono ?_
    rintro e w' ⟨v, rfl, hv⟩
    rw [← hd] at hv
    exact hv
end
end Go.Proofs.YtpjafjnokgeifaaGreatDoor
end
section
namespace Go.Proofs.YtpjafjnokgeifaaGreatDoor
open Go.RowKit
set_option linter.unusedVariables false
set_option linter.unusedSimpArgs false
attribute [local irreducible] setN

/-- A row that does not lie in block g. -/
def Off (g : Nat) (cs : List Value) (v : Value) : Prop := ∀ b off cap, v = .slice (some ⟨b, off, none⟩) cs.length cap → cs ≠ [] → b ≠ g
theorem off_old {g : Nat} {cs : List Value} {v : Value} {w : World} (h : isCells cs v w) (hg : w.heap.size ≤ g) : Off g cs v := by
  rintro b off cap rfl hne rfl
  rcases h with ⟨h, e⟩ | ⟨a, c, h, e⟩ | ⟨b', off', cap', e, hlt, hc⟩
  · exact hne e
  · exact hne e
  · injection e with e; injection e with e; injection e with e; omega
theorem off_new {g B : Nat} {cs : List Value} {v : Value} (h : NewB B v) (hg : g < B) : Off g cs v := by
  rintro b off cap rfl hne rfl
  have := h b rfl
  omega
/-- A device whose rows lie outside block g. -/
def isW (g : Nat) (P Q : List Value) (fu : Int) (tn : List UInt8) (de : Bool) : VP := fun v w => ∃ p q, v = .agg #[p, q, .int .i64 fu, .string ⟨tn.toArray⟩, .bool de] ∧ isCells P p w ∧ isCells Q q w ∧ Off g P p ∧ Off g Q q
theorem stable_W (g : Nat) (P Q : List Value) (fu : Int) (tn : List UInt8) (de : Bool) : Stable (isW g P Q fu tn de) := by
  rintro v w w' ⟨p, q, e, h1, h2, h3, h4⟩ hb
  exact ⟨p, q, e, stable_cells _ _ _ _ h1 hb, stable_cells _ _ _ _ h2 hb, h3, h4⟩
theorem rmask_any (F : Fl) (v : Value) (w : World) (hv : isFl F v w) (h1 : 1 ≤ F.pages.length) (hp1 : F.pages.length ≤ 1000000) (n : Nat) (hn : n = F.pages[0].length) (hl : n ≤ 100000) (ht : F.torn.length ≤ 1000) :
    Calls Tryz.prog 110 #[v] w fun e w' => e = .returned (.string ⟨(maskL F.torn n).toArray⟩) ∧ Below w.heap.size w w' := by
  subst hn
  cases h : F.torn with
  | nil => have := rmask_none F v w hv h1 hp1 _ rfl hl ht h; rw [h] at this; exact this
  | cons c r => have := rmask_some F v w hv h1 hp1 _ rfl hl ht (by rw [h]; simp); rw [h] at this; exact this
/-- with, where the block r is older than what it makes. -/
theorem cwith (F : Fl) (k r : Nat) (s : List UInt8) (vp vw : Value) (w : World) (hp : isCells (F.pages.map strC) vp w) (hq : isCells (F.wear.map intC) vw w) (hk : k < F.pages.length) (h1 : F.pages.length ≤ 6) (ho : Off r (F.wear.map intC) vw) (hr : r < w.heap.size) :
    Calls Tryz.prog 112 #[.agg #[vp, vw, .int .i64 F.fuse, .string ⟨F.torn.toArray⟩, .bool F.dead], .int .i64 (k : Int), .string ⟨s.toArray⟩] w fun e w' => ∃ v, e = .returned v ∧ isW r ((F.pages.set k s).map strC) (F.wear.map intC) F.fuse F.torn F.dead v w' ∧ Below w.heap.size w w' :=
  (rwith_any F k s vp vw w hp hq hk (by omega)).mono (by
    rintro e w' ⟨p', rfl, hc, hn, hb⟩
    exact ⟨_, rfl, ⟨p', vw, rfl, hc, stable_cells _ _ _ _ hq hb, off_new hn hr, ho⟩, hb⟩)
theorem cdead (F : Fl) (r : Nat) (P Q : List Value) (vs : Array Value) (w : World) (h : ∃ u, vs = #[u] ∧ isW r P Q F.fuse F.torn F.dead u w) :
    Calls Tryz.prog 111 vs w fun e w' => ∃ v, e = .returned v ∧ isW r P Q F.fuse F.torn true v w' ∧ Below w.heap.size w w' := by
  obtain ⟨u, rfl, p, q, rfl, h1, h2, h3, h4⟩ := h
  refine (rdead_any F p q w h1.one h2.one).mono ?_
  rintro e w' ⟨rfl, hb⟩
  exact ⟨_, rfl, ⟨p, q, rfl, stable_cells _ _ _ _ h1 hb, stable_cells _ _ _ _ h2 hb, h3, h4⟩, hb⟩
def lessN (x : Int) : Int := if 0 < x then x - 1 else x
theorem cburnt (F : Fl) (r : Nat) (P Q : List Value) (hf : F.fuse ≤ 9223372036854775807) (vs : Array Value) (w : World) (h : ∃ u, vs = #[u] ∧ isW r P Q F.fuse F.torn F.dead u w) :
    Calls Tryz.prog 114 vs w fun e w' => ∃ v, e = .returned v ∧ isW r P Q (lessN F.fuse) F.torn F.dead v w' ∧ Below w.heap.size w w' := by
  obtain ⟨u, rfl, p, q, rfl, h1, h2, h3, h4⟩ := h
  unfold lessN
  by_cases h0 : 0 < F.fuse
  · rw [if_pos h0]
    refine (rburnt_yes F p q w h1.one h2.one h0 hf).mono ?_
    rintro e w' ⟨rfl, hb⟩
    exact ⟨_, rfl, ⟨p, q, rfl, stable_cells _ _ _ _ h1 hb, stable_cells _ _ _ _ h2 hb, h3, h4⟩, hb⟩
  · rw [if_neg h0]
    refine (rburnt_no F p q w h1.one h2.one h0).mono ?_
    rintro e w' ⟨rfl, hb⟩
    exact ⟨_, rfl, ⟨p, q, rfl, stable_cells _ _ _ _ h1 hb, stable_cells _ _ _ _ h2 hb, h3, h4⟩, hb⟩
theorem cor (s t : List UInt8) (w : World) (hs : s.length ≤ 1000000) (ht : t.length ≤ 1000000) : Calls Tryz.prog 108 #[.string ⟨s.toArray⟩, .string ⟨t.toArray⟩] w fun e w' => ∃ v, e = .returned v ∧ isVal (.string ⟨(pairL (· ||| ·) s t).toArray⟩) v w' ∧ Below w.heap.size w w' :=
  (refOr_any ⟨s.toArray⟩ ⟨t.toArray⟩ w (by rw [size_mk]; exact hs) (by rw [size_mk]; exact ht)).mono (by
    rintro e w' ⟨rfl, hb⟩
    exact ⟨_, rfl, rfl, hb⟩)
theorem cones (n : Nat) (hn : n ≤ 100000) (w : World) : Calls Tryz.prog 107 #[.int .i64 (n : Int)] w fun e w' => ∃ v, e = .returned v ∧ isVal (.string ⟨(List.replicate n 255).toArray⟩) v w' ∧ Below w.heap.size w w' :=
  (refOnes_any n w).mono (by
    rintro e w' ⟨rfl, hb⟩
    refine ⟨_, rfl, ?_, hb⟩
    unfold onesL
    by_cases h : 0 < n
    · rw [if_pos (by omega), Int.toNat_natCast]; rfl
    · have : n = 0 := by omega
      subst this; rfl)
end Go.Proofs.YtpjafjnokgeifaaGreatDoor
end
section
namespace Go.Proofs.YtpjafjnokgeifaaGreatDoor
set_option linter.unusedVariables false
set_option linter.unusedSimpArgs false

theorem byte8 {x y : UInt8} (h : ∀ i, i < 8 → x.toBitVec.getLsbD i = y.toBitVec.getLsbD i) : x = y := UInt8.toBitVec_inj.1 (BitVec.eq_of_getLsbD_eq h)
theorem full8 (i : Nat) (hi : i < 8) : (255 : UInt8).toBitVec.getLsbD i = true := by
  have : ∀ j : Fin 8, (255 : UInt8).toBitVec.getLsbD j.val = true := by decide
  exact this ⟨i, hi⟩
theorem torn_orB (x m : UInt8) : x ^^^ ((x ^^^ 255) &&& m) = x ||| m := by
  apply byte8
  intro i hi
  simp only [UInt8.toBitVec_and, UInt8.toBitVec_xor, UInt8.toBitVec_or, BitVec.getLsbD_and, BitVec.getLsbD_xor, BitVec.getLsbD_or, full8 i hi]
  cases hx : x.toBitVec.getLsbD i <;> cases hm : m.toBitVec.getLsbD i <;> simp
theorem torn_andB (x d m : UInt8) : x ^^^ ((x ^^^ (x &&& d)) &&& m) = x &&& (d ||| (m ^^^ 255)) := by
  apply byte8
  intro i hi
  simp only [UInt8.toBitVec_and, UInt8.toBitVec_xor, UInt8.toBitVec_or, BitVec.getLsbD_and, BitVec.getLsbD_xor, BitVec.getLsbD_or, full8 i hi]
  cases hx : x.toBitVec.getLsbD i <;> cases hm : m.toBitVec.getLsbD i <;> cases hd : d.toBitVec.getLsbD i <;> simp
theorem and_full (x : UInt8) : x &&& 255 = x := by
  apply byte8
  intro i hi
  simp only [UInt8.toBitVec_and, BitVec.getLsbD_and, full8 i hi, Bool.and_true]
theorem torn_or : ∀ (p m : List UInt8), m.length = p.length → pairL (· ^^^ ·) p (pairL (· &&& ·) (pairL (· ^^^ ·) p (List.replicate p.length 255)) m) = pairL (· ||| ·) p m
  | [], m, h => rfl
  | x :: p, [], h => by simp at h
  | x :: p, y :: m, h => by
    rw [List.length_cons, List.replicate_succ]
    simp only [pairL]
    rw [torn_or p m (by simpa using h), torn_orB]
/-- An erase that is torn. -/
theorem between_ones (was torn : List UInt8) : betweenL was (List.replicate was.length 255) torn = pairL (· ||| ·) was (maskL torn was.length) := torn_or was _ (length_maskL _ _)
theorem and_ones : ∀ (p : List UInt8) (n : Nat), n ≤ p.length → pairL (· &&& ·) p (List.replicate n 255) = p
  | [], 0, h => rfl
  | [], n + 1, h => by simp at h
  | x :: p, 0, h => rfl
  | x :: p, n + 1, h => by
    rw [List.replicate_succ]
    simp only [pairL]
    rw [and_ones p n (by simpa using h), and_full]
theorem and_tail : ∀ (p s : List UInt8) (n : Nat), s.length + n ≤ p.length → pairL (· &&& ·) p (s ++ List.replicate n 255) = pairL (· &&& ·) p s
  | p, [], n, h => by rw [List.nil_append, and_ones p n (by simpa using h)]; cases p <;> rfl
  | [], y :: s, n, h => rfl
  | x :: p, y :: s, n, h => by
    rw [List.cons_append]
    simp only [pairL]
    rw [and_tail p s n (by simp at h; omega)]
/-- A program. -/
theorem and_data : ∀ (k : Nat) (p s : List UInt8), k + s.length ≤ p.length → pairL (· &&& ·) p (List.replicate k 255 ++ s ++ List.replicate (p.length - k - s.length) 255) = progL p k s
  | 0, p, s, h => by
    rw [List.replicate_zero, List.nil_append, and_tail p s _ (by omega)]
    unfold progL
    rw [List.take_zero, List.drop_zero, List.nil_append]
  | k + 1, [], s, h => by simp at h
  | k + 1, x :: p, s, h => by
    have ih := and_data k p s (by simp at h; omega)
    rw [List.replicate_succ, List.cons_append, List.cons_append, List.length_cons, show p.length + 1 - (k + 1) - s.length = p.length - k - s.length by omega]
    simp only [pairL]
    rw [ih, and_full]
    unfold progL
    rw [List.take_succ_cons, List.drop_succ_cons, List.cons_append]
theorem torn_and : ∀ (p d m : List UInt8), d.length = p.length → m.length = p.length → pairL (· ^^^ ·) p (pairL (· &&& ·) (pairL (· ^^^ ·) p (pairL (· &&& ·) p d)) m) = pairL (· &&& ·) p (pairL (· ||| ·) d (m.map fun b => b ^^^ 255))
  | [], d, m, h, h' => rfl
  | x :: p, [], m, h, h' => by simp at h
  | x :: p, y :: d, [], h, h' => by simp at h'
  | x :: p, y :: d, z :: m, h, h' => by
    simp only [pairL, List.map_cons]
    rw [torn_and p d m (by simpa using h) (by simpa using h'), torn_andB]
end Go.Proofs.YtpjafjnokgeifaaGreatDoor
end
section
namespace Go.Proofs.YtpjafjnokgeifaaGreatDoor
open Go.RowKit
set_option linter.unusedVariables false
set_option linter.unusedSimpArgs false
attribute [local irreducible] setN
end Go.Proofs.YtpjafjnokgeifaaGreatDoor
end
section
namespace Go.Proofs.YtpjafjnokgeifaaGreatDoor
open Go.RowKit
set_option linter.unusedVariables false
set_option linter.unusedSimpArgs false
attribute [local irreducible] setN
end Go.Proofs.YtpjafjnokgeifaaGreatDoor
end
