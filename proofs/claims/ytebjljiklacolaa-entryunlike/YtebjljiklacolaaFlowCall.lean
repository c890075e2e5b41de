/- Calls in a drawn region whose arguments are told by predicates; a literal of two texts. -/
import Derived.Test.YtebjljiklacolaaFlowMore
namespace Go.Proofs.Ytebjljiklacolaa
open Go.RowKit
set_option linter.unusedVariables false
set_option linter.unusedSimpArgs false
section
variable {P : Program} {ops : Array Oper} {base : World} {a0 : Act} {Q : Exit → Act → World → Prop} {kn : Nat → VP} {i : Nat} {V : VP}
theorem step_callP (f : FuncId) (xs : Array Operand) (ts : Array TypeId) (hop : (ops[i]?).map (·.op) = some (.call { callee := .value (.func f), args := xs, argTypes := ts })) (hw : Wanted ops a0 kn i) (hst : Stable V) (hent : Enters P f)
    (Pre : Array Value → World → Prop) (hx : ∀ a w, FKept ops a0 a → FDeps ops kn i a w → Pre (xs.map a.eval) w)
    (hc : ∀ vs w, Below base.heap.size base w → Pre vs w → Calls P f vs w fun e w' => ∃ v, e = .returned v ∧ V v w' ∧ Below w.heap.size w w') : FStep P ops base a0 Q kn i V :=
  step_mk hst hw fun o ho a w hk hb hd => by
    have hp := hx a w hk hd
    generalize hvs : xs.map a.eval = vs at hp
    unfold Oper.wp execOp
    rw [op_of hop ho]
    have e2 : a.eval (.func f) = .func (.func f) #[] #[] := rfl
    simp only [resolve, hvs, e2, Deferred.ofValue, Sem.run_bind, Sem.run_pure, Result.andThen_ok, invoke, Array.append_empty, Array.empty_append]
    rw [hent]
    simp only [Oper.upon]
    refine (hc vs w hb hp).mono ?_
    rintro e w' ⟨v, rfl, hv, hbw⟩
    exact ⟨v, rfl, hv, hbw⟩
theorem pre2 {x y : Operand} {V1 V2 : VP} (h1 : Knows ops a0 kn i x V1) (h2 : Knows ops a0 kn i y V2) : ∀ a w, FKept ops a0 a → FDeps ops kn i a w → (fun vs w => ∃ u v, vs = #[u, v] ∧ V1 u w ∧ V2 v w) (#[x, y].map a.eval) w := fun a w hk hd =>
  ⟨_, _, by simp, h1 a w hk hd, h2 a w hk hd⟩
theorem pre1 {x : Operand} {V1 : VP} (h1 : Knows ops a0 kn i x V1) : ∀ a w, FKept ops a0 a → FDeps ops kn i a w → (fun vs w => ∃ u, vs = #[u] ∧ V1 u w) (#[x].map a.eval) w := fun a w hk hd =>
  ⟨_, by simp, h1 a w hk hd⟩
theorem step_ints4 (t e : TypeId) (x0 x1 x2 x3 : Operand) (a0' a1 a2 a3 : Int) (ie : TypeInfo) (hop : (ops[i]?).map (·.op) = some (.buildSlice t 4 #[(0, x0), (1, x1), (2, x2), (3, x3)])) (hw : Wanted ops a0 kn i)
    (h0 : Knows ops a0 kn i x0 (isVal (.int .i64 a0'))) (h1 : Knows ops a0 kn i x1 (isVal (.int .i64 a1))) (h2 : Knows ops a0 kn i x2 (isVal (.int .i64 a2))) (h3 : Knows ops a0 kn i x3 (isVal (.int .i64 a3)))
    (hu : P.underlying t = some (.slice e)) (hie : P.info? e = some ie) (hz : ie.zero = some (.int .i64 0)) (hsz : ie.size = 1) : FStep P ops base a0 Q kn i (isCells [intC a0', intC a1, intC a2, intC a3]) :=
  step_mk (stable_cells _) hw fun o ho a w hk hb hd => by
    have e0 : a.eval x0 = intC a0' := h0 a w hk hd
    have e1 : a.eval x1 = intC a1 := h1 a w hk hd
    have e2 : a.eval x2 = intC a2 := h2 a w hk hd
    have e3 : a.eval x3 = intC a3 := h3 a w hk hd
    have hf : Instr.fill (fun i => some (i * ie.size, ie.size)) ((Array.range (4 * ie.size)).map ((Value.int .i64 0).cells[· % (Value.int .i64 0).cells.size]!)) ((#[(0, x0), (1, x1), (2, x2), (3, x3)] : Array (Nat × Operand)).map fun (i, x) => (i, a.eval x)).toList = some #[intC a0', intC a1, intC a2, intC a3] := by
      have e1 : ((#[(0, x0), (1, x1), (2, x2), (3, x3)] : Array (Nat × Operand)).map fun (i, x) => (i, a.eval x)).toList = (([intC a0', intC a1, intC a2, intC a3] : List Value).zipIdx 0).map fun x => (x.2, x.1) := by simp [e0, e1, e2, e3]
      rw [e1, hsz, Great.fill_flat _ _ (fun v hv => by simp only [List.mem_cons, List.not_mem_nil, or_false] at hv; rcases hv with rfl | rfl | rfl | rfl <;> rfl) (by simp)]
    refine wp_buildSlice t e 4 _ (op_of hop ho) _ ie (.int .i64 0) hu hie hz (by rw [hsz]; omega) (by rw [hsz]; omega) hf ?_
    refine ⟨_, rfl, .inr (.inr ⟨w.heap.size, 0, 4, rfl, by simp, fun j v hv => ?_⟩), (Below.refl _ _).alloc (Nat.le_refl _) _⟩
    rw [World.cell?_alloc_new]
    simpa using hv
theorem step_strs2 (t e : TypeId) (x y : List UInt8) (ie : TypeInfo) (hop : (ops[i]?).map (·.op) = some (.buildSlice t 2 #[(0, .const (.string ⟨x.toArray⟩)), (1, .const (.string ⟨y.toArray⟩))])) (hw : Wanted ops a0 kn i)
    (hu : P.underlying t = some (.slice e)) (hie : P.info? e = some ie) (hz : ie.zero = some (.string ⟨#[]⟩)) (hsz : ie.size = 1) : FStep P ops base a0 Q kn i (isCells [strC x, strC y]) :=
  step_mk (stable_cells _) hw fun o ho a w hk hb hd => by
    have hf : Instr.fill (fun i => some (i * ie.size, ie.size)) ((Array.range (2 * ie.size)).map ((Value.string ⟨#[]⟩).cells[· % (Value.string ⟨#[]⟩).cells.size]!)) ((#[(0, Operand.const (.string ⟨x.toArray⟩)), (1, Operand.const (.string ⟨y.toArray⟩))] : Array (Nat × Operand)).map fun (i, x) => (i, a.eval x)).toList = some #[strC x, strC y] := by
      have e1 : ((#[(0, Operand.const (.string ⟨x.toArray⟩)), (1, Operand.const (.string ⟨y.toArray⟩))] : Array (Nat × Operand)).map fun (i, x) => (i, a.eval x)).toList = (([strC x, strC y] : List Value).zipIdx 0).map fun x => (x.2, x.1) := by simp; exact ⟨rfl, rfl⟩
      rw [e1, hsz, Great.fill_flat _ _ (fun v hv => by simp only [List.mem_cons, List.not_mem_nil, or_false] at hv; rcases hv with rfl | rfl <;> rfl) (by simp)]
    refine wp_buildSlice t e 2 _ (op_of hop ho) _ ie (.string ⟨#[]⟩) hu hie hz (by rw [hsz]; omega) (by rw [hsz]; omega) hf ?_
    refine ⟨_, rfl, .inr (.inr ⟨w.heap.size, 0, 2, rfl, by simp, fun j v hv => ?_⟩), (Below.refl _ _).alloc (Nat.le_refl _) _⟩
    rw [World.cell?_alloc_new]
    simpa using hv
end
end Go.Proofs.Ytebjljiklacolaa
