/- Calls in a drawn region whose arguments are told by predicates; a literal of two texts. -/
import Derived.Test.YtipiioggdalkoaaGreatDoorFlVar
namespace Go.Proofs.YtipiioggdalkoaaGreatDoor
open Go.RowKit
set_option linter.unusedVariables false
set_option linter.unusedSimpArgs false
section
variable {P : Program} {ops : Array Oper} {base : World} {a0 : Act} {Q : Exit → Act → World → Prop} {kn : Nat → VP} {i : Nat} {V : VP}
theorem step_callP (f : FuncId) (xs : Array Operand) (ts : Array TypeId) (hop : (ops[i]?).map (·.op) = some (.call { callee := .value (.func f), args := xs, argTypes := ts })) (hw : Wanted ops a0 kn i) (hst : Stable V) (hent : Enters P f)
    (Pre : Array Value → World → Prop) (hx : ∀ a w, FKept ops a0 a → FDeps ops kn i a w → Pre (xs.map a.eval) w)
    (hc : ∀ vs w, Below base.heap.size base w → Pre vs w → Calls P f vs w fun e w' => ∃ v, e = .returned v ∧ V v w' ∧ Below w.heap.size w w') : FStep P ops base a0 Q kn i V :=
  step_mk hst hw fun o ho a w hk hb hd => by
    have hp := hx a w hk hd
    generalize hvs : xs.map a.eval = vs at hp
    unfold Oper.wp execOp
    rw [op_of hop ho]
    have e2 : a.eval (.func f) = .func (.func f) #[] #[] := rfl
    simp only [resolve, hvs, e2, Deferred.ofValue, Sem.run_bind, Sem.run_pure, Result.andThen_ok, invoke, Array.append_empty, Array.empty_append]
    rw [hent]
    simp only [Oper.upon]
    refine (hc vs w hb hp).mono ?_
    rintro e w' ⟨v, rfl, hv, hbw⟩
    exact ⟨v, rfl, hv, hbw⟩
theorem pre2 {x y : Operand} {V1 V2 : VP} (h1 : Knows ops a0 kn i x V1) (h2 : Knows ops a0 kn i y V2) : ∀ a w, FKept ops a0 a → FDeps ops kn i a w → (fun vs w => ∃ u v, vs = #[u, v] ∧ V1 u w ∧ V2 v w) (#[x, y].map a.eval) w := fun a w hk hd =>
  ⟨_, _, by simp, h1 a w hk hd, h2 a w hk hd⟩
theorem step_strs2 (t e : TypeId) (x y : List UInt8) (ie : TypeInfo) (hop : (ops[i]?).map (·.op) = some (.buildSlice t 2 #[(0, .const (.string ⟨x.toArray⟩)), (1, .const (.string ⟨y.toArray⟩))])) (hw : Wanted ops a0 kn i)
    (hu : P.underlying t = some (.slice e)) (hie : P.info? e = some ie) (hz : ie.zero = some (.string ⟨#[]⟩)) (hsz : ie.size = 1) : FStep P ops base a0 Q kn i (isCells [strC x, strC y]) :=
  step_mk (stable_cells _) hw fun o ho a w hk hb hd => by
    have hf : Instr.fill (fun i => some (i * ie.size, ie.size)) ((Array.range (2 * ie.size)).map ((Value.string ⟨#[]⟩).cells[· % (Value.string ⟨#[]⟩).cells.size]!)) ((#[(0, Operand.const (.string ⟨x.toArray⟩)), (1, Operand.const (.string ⟨y.toArray⟩))] : Array (Nat × Operand)).map fun (i, x) => (i, a.eval x)).toList = some #[strC x, strC y] := by
      have e1 : ((#[(0, Operand.const (.string ⟨x.toArray⟩)), (1, Operand.const (.string ⟨y.toArray⟩))] : Array (Nat × Operand)).map fun (i, x) => (i, a.eval x)).toList = (([strC x, strC y] : List Value).zipIdx 0).map fun x => (x.2, x.1) := by simp; exact ⟨rfl, rfl⟩
      rw [e1, hsz, Great.fill_flat _ _ (fun v hv => by simp only [List.mem_cons, List.not_mem_nil, or_false] at hv; rcases hv with rfl | rfl <;> rfl) (by simp)]
    refine wp_buildSlice t e 2 _ (op_of hop ho) _ ie (.string ⟨#[]⟩) hu hie hz (by rw [hsz]; omega) (by rw [hsz]; omega) hf ?_
    refine ⟨_, rfl, .inr (.inr ⟨w.heap.size, 0, 2, rfl, by simp, fun j v hv => ?_⟩), (Below.refl _ _).alloc (Nat.le_refl _) _⟩
    rw [World.cell?_alloc_new]
    simpa using hv
end
end Go.Proofs.YtipiioggdalkoaaGreatDoor
