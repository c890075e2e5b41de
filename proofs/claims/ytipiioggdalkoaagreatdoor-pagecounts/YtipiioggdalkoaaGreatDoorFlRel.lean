/- One place of one row may be written: what else is as it was. -/
import Derived.Test.YtipiioggdalkoaaGreatDoorFlowRel
import Derived.Test.YtipiioggdalkoaaGreatDoorFlInv
namespace Go.Proofs.YtipiioggdalkoaaGreatDoor
open Go.RowKit
set_option linter.unusedVariables false
set_option linter.unusedSimpArgs false

structure Wrote (gp k : Nat) (x : Value) (w w' : World) : Prop where
  os : w'.os = w.os
  tape : w'.tape = w.tape
  output : w'.output = w.output
  size : w.heap.size ≤ w'.heap.size
  block : ∀ b, b < w.heap.size → b ≠ gp → w'.heap[b]? = w.heap[b]?
  row : ∀ cur e, w.heap[gp]? = some (.cells cur e (0, 0)) → w'.heap[gp]? = some (.cells cur e (0, 0)) ∨ w'.heap[gp]? = some (.cells (cur.setIfInBounds k x) e (0, 0))
theorem set_twice (cur : Array Value) (k : Nat) (x : Value) : (cur.setIfInBounds k x).setIfInBounds k x = cur.setIfInBounds k x := by
  apply Array.ext
  · simp
  · intro i h1 h2
    simp [Array.getElem_setIfInBounds]
theorem wrote_pre (gp k : Nat) (x : Value) : Pre (Wrote gp k x) where
  refl w := ⟨rfl, rfl, rfl, Nat.le_refl _, fun _ _ _ => rfl, fun _ _ h => .inl h⟩
  trans a b c h1 h2 := ⟨h2.os.trans h1.os, h2.tape.trans h1.tape, h2.output.trans h1.output, Nat.le_trans h1.size h2.size, fun i hi hne => (h2.block i (Nat.lt_of_lt_of_le hi h1.size) hne).trans (h1.block i hi hne), fun cur e he => by
    rcases h1.row cur e he with h | h
    · exact h2.row cur e h
    · rcases h2.row _ e h with h' | h'
      · exact .inr h'
      · rw [set_twice] at h'; exact .inr h'⟩
  grow w w' h := ⟨h.os, h.tape, h.output, h.size, fun b hb _ => h.block b hb, fun cur e he => .inl ((h.block gp (Array.getElem?_eq_some_iff.1 he).1).trans he)⟩
  drew w := ⟨rfl, rfl, rfl, Nat.le_refl _, fun _ _ _ => rfl, fun _ _ h => .inl h⟩
theorem Wrote.cell {gp k : Nat} {x : Value} {w w' : World} (h : Wrote gp k x w w') {p : Addr} {v : Value} (hc : w.cell? p = some v) (hlt : p.block < w.heap.size) (hne : p.block ≠ gp) : w'.cell? p = some v := by
  rw [← hc]
  simp only [World.cell?, h.block p.block hlt hne]
theorem Wrote.set {gp k : Nat} {x : Value} {w : World} {cur : Array Value} {e : TypeId} (hg : w.heap[gp]? = some (.cells cur e (0, 0))) : Wrote gp k x w (w.setCell ⟨gp, k, none⟩ x) where
  os := rfl
  tape := rfl
  output := rfl
  size := by simp
  block b _ hne := Below.heap_setCell w ⟨gp, k, none⟩ x b hne
  row cur' e' h' := by
    rw [hg] at h'
    injection h' with h'
    injection h' with h1 h2 _
    subst h1 h2
    exact .inr (heap_setCell_same w gp k cur e x hg)
theorem stabR_val (R : World → World → Prop) (v : Value) : StableR R (isVal v) := fun _ _ _ h _ => h
def rowIs (gp : Nat) (e : TypeId) (cur : Array Value) : VP := fun _ w => w.heap[gp]? = some (.cells cur e (0, 0))
theorem stabR_row (gp k : Nat) (x : Value) (e : TypeId) (cur : Array Value) : StableR (Wrote gp k x) (rowIs gp e (cur.setIfInBounds k x)) := by
  intro v w w' h hr
  rcases hr.row _ e h with h' | h'
  · exact h'
  · rw [set_twice] at h'; exact h'
section
variable {R : World → World → Prop} {P : Program} {ops : Array Oper} {base : World} {a0 : Act} {Q : Exit → Act → World → Prop} {k0 : Nat} {kn : Nat → VP} {i : Nat} {V : VP}
theorem RStep.store (t : TypeId) (x y : Operand) (p : Addr) (v : Value) (hop : (ops[i]?).map (fun o => (o.op, o.guard, o.dst)) = some (.store t x y, none, none)) (hx : Knows ops a0 kn i x (isVal (.pointer (some p)))) (hy : Knows ops a0 kn i y (isVal v))
    (hs : (P.info? t).map (·.size) = some 1) (hv : v.cells = #[v]) (hv1 : v.oneCell' = true) (hst : StableR R V) (h : ∀ w, R base w → (∃ old, w.cell? p = some old) ∧ w.frozen? p = false ∧ V undef (w.setCell p v) ∧ R w (w.setCell p v)) : RStep R P ops base a0 Q k0 kn i V := by
  refine ⟨hst, fun o ho a w hk0 hb hd => ?_⟩
  have hk := hk0.f
  rw [ho] at hop
  simp only [Option.map_some, Option.some.injEq, Prod.mk.injEq] at hop
  obtain ⟨hop, hgd, hdst⟩ := hop
  have hfd : FDeps ops kn i a w := fun o' ho' e he hbd => rdone_f (hd o' ho' e he hbd)
  have e1 : a.eval x = .pointer (some p) := hx a w hk hfd
  have e2 : a.eval y = v := hy a w hk hfd
  obtain ⟨⟨old, hc⟩, hf, hV, hR⟩ := h w hb
  obtain ⟨ie, hie, hz⟩ := Option.map_eq_some_iff.1 hs
  have hsz : (sizeOf t).run P w = .ok 1 w := by simp [sizeOf, typeInfo, hie, hz]
  have hst : (storeCells p [v]).run P w = .ok () (w.setCell p v) := by
    unfold storeCells
    rw [Sem.run_bind, show p.add 0 = p by simp [Addr.add], run_store P w p v _ hv1, hc]
    simp [hf, storeCells]
  unfold wpOp
  simp only [ho]
  rw [show Region.wanted o (yielded ops a.tmps) = true by simp [Region.wanted, hgd]]
  refine .inl ?_
  unfold Oper.wp execOp
  rw [hop]
  simp only [e1, e2, Instr.storeAt, Instr.sureAddr, Sem.run_bind, Sem.run_pure, Result.andThen_ok, storeVar, hsz, hv]
  rw [if_neg (by simp), hst]
  simp only [Result.andThen_ok, Oper.upon]
  exact ⟨undef, rfl, fun _ => rfl, hV, hR⟩
end
theorem rdone_of {ops : Array Oper} {kn : Nat → VP} {a : Act} {w : World} {j : Nat} {t : Tmp} {V : VP} (h : RDone ops kn a w j) (hd : (ops[j]?).bind (·.dst) = some t) (hV : kn j = V) : V (a.tmps.getD t undef) w := fdone_of (rdone_f h) hd hV
theorem rdone_none {ops : Array Oper} {kn : Nat → VP} {a : Act} {w : World} {j : Nat} {V : VP} (h : RDone ops kn a w j) (hd : (ops[j]?).map (·.dst) = some none) (hV : kn j = V) : V undef w := by
  cases ho : ops[j]? with
  | none => rw [ho] at hd; simp at hd
  | some o =>
    rw [ho] at hd
    simp only [Option.map_some, Option.some.injEq] at hd
    have := h o ho
    rw [hd, hV] at this
    exact this
/-- Behind the store all is as it is where just that was done. -/
theorem Wrote.below {gp k : Nat} {x : Value} {w w' : World} {cur : Array Value} {e : TypeId} (h : Wrote gp k x w w') (hg : w.heap[gp]? = some (.cells cur e (0, 0))) (hg' : w'.heap[gp]? = some (.cells (cur.setIfInBounds k x) e (0, 0))) :
    Below (w.setCell ⟨gp, k, none⟩ x).heap.size (w.setCell ⟨gp, k, none⟩ x) w' where
  os := h.os
  tape := h.tape
  output := h.output
  size := by simpa using h.size
  block b hb := by
    by_cases e' : b = gp
    · subst e'
      rw [hg', heap_setCell_same w b k cur e x hg]
    · rw [Below.heap_setCell w ⟨gp, k, none⟩ x b e', h.block b (by simpa using hb) e']
end Go.Proofs.YtipiioggdalkoaaGreatDoor
