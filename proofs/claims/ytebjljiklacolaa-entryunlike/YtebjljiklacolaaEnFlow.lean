/- Steps of drawn regions: a pointer that is not nil, a part of a struct, a map that is looked up. -/
import Derived.Test.YtebjljiklacolaaEnKinds
import Derived.Test.YtebjljiklacolaaEnVar
namespace Go.Proofs.Ytebjljiklacolaa
open Go.RowKit
set_option linter.unusedVariables false
set_option linter.unusedSimpArgs false

theorem field_wr (g k : Nat) (hk : k < 1) (w : World) : (Instr.fieldAt 48 (.pointer (some ⟨g, 0, none⟩)) k).run Try.prog w = .ok (.pointer (some ⟨g, k, none⟩)) w := by
  obtain rfl : k = 0 := by omega
  simp [Instr.fieldAt, run_underlying Try.underlying48, Instr.sureAddr, fieldPlace, Addr.add]
theorem field_en (g k : Nat) (hk : k < 2) (w : World) : (Instr.fieldAt 27 (.pointer (some ⟨g, 0, none⟩)) k).run Try.prog w = .ok (.pointer (some ⟨g, k, none⟩)) w := by
  have h : k = 0 ∨ k = 1 := by omega
  rcases h with rfl | rfl <;> simp [Instr.fieldAt, run_underlying Try.underlying27, Instr.sureAddr, fieldPlace, Addr.add]
theorem field_va1 (g k : Nat) (hk : k < 8) (w : World) : (Instr.fieldAt 25 (.pointer (some ⟨g, 1, none⟩)) k).run Try.prog w = .ok (.pointer (some ⟨g, k + 1, none⟩)) w := by
  have h : k = 0 ∨ k = 1 ∨ k = 2 ∨ k = 3 ∨ k = 4 ∨ k = 5 ∨ k = 6 ∨ k = 7 := by omega
  rcases h with rfl | rfl | rfl | rfl | rfl | rfl | rfl | rfl <;> simp [Instr.fieldAt, run_underlying Try.underlying25, Instr.sureAddr, fieldPlace, Addr.add]
theorem loadCellsO {P : Program} (g o : Nat) (w : World) : ∀ (l : List Value) (k : Nat) (acc : Array Value), (∀ j x, l[j]? = some x → w.cell? ⟨g, o + (k + j), none⟩ = some x) → (loadCellsFrom ⟨g, o, none⟩ k l.length acc).run P w = .ok (acc ++ l.toArray) w
  | [], k, acc, _ => by simp [loadCellsFrom]
  | v :: r, k, acc, h => by
    have ea : (⟨g, o, none⟩ : Addr).add k = ⟨g, o + k, none⟩ := by
      by_cases e : k = 0
      · subst e; simp [Addr.add]
      · simp [Addr.add, e]
    have h0 : w.cell? ⟨g, o + k, none⟩ = some v := h 0 v rfl
    rw [List.length_cons]
    unfold loadCellsFrom
    rw [Sem.run_bind, ea]
    have hl : (load ⟨g, o + k, none⟩).run P w = .ok v w := by simp [h0]
    rw [hl, Result.andThen_ok, loadCellsO g o w r (k + 1) (acc.push v) (fun j x hx => by rw [show k + 1 + j = k + (j + 1) by omega]; exact h (j + 1) x (by simpa using hx))]
    simp
theorem loadO {P : Program} (t : TypeId) (g o : Nat) (w : World) (l : List Value) (hs : (P.info? t).map (·.size) = some l.length) (ha : ∀ w, (isAgg t).run P w = .ok true w) (h : ∀ (j : Nat) (x : Value), l[j]? = some x → w.cell? ⟨g, o + j, none⟩ = some x) : (loadVar t ⟨g, o, none⟩).run P w = .ok (.agg l.toArray) w := by
  obtain ⟨ie, hie, hz⟩ := Option.map_eq_some_iff.1 hs
  have hsz : (sizeOf t).run P w = .ok l.length w := by simp [sizeOf, typeInfo, hie, hz]
  have hc := loadCellsO (P := P) g o w l 0 #[] (fun j x hx => by rw [Nat.zero_add]; exact h j x hx)
  simp only [loadVar, Sem.run_bind, ha, Result.andThen_ok, if_true, hsz, loadCells, hc, Sem.run_pure]
  simp
section
variable {P : Program} {ops : Array Oper} {base : World} {a0 : Act} {Q : Exit → Act → World → Prop} {kn : Nat → VP} {i : Nat} {V : VP}
theorem step_nilP (x : Operand) (p : Addr) (hop : (ops[i]?).map (·.op) = some (.nilCheck x)) (hw : Wanted ops a0 kn i) (hx : Knows ops a0 kn i x (isVal (.pointer (some p)))) : FStep P ops base a0 Q kn i (isVal (.pointer (some p))) :=
  step_pure _ hop hw fun o a w ho hk' hd => by
    have e1 : a.eval x = _ := hx a w hk' hd
    unfold execOp
    rw [ho]
    simp [e1]
theorem step_loadO (t : TypeId) (x : Operand) (g : Nat) (y : Value) (l : List Value) (hop : (ops[i]?).map (·.op) = some (.load t x)) (hw : Wanted ops a0 kn i) (hx : Knows ops a0 kn i x (isVal (.pointer (some ⟨g, 1, none⟩))))
    (hs : (P.info? t).map (·.size) = some l.length) (ha : ∀ w, (isAgg t).run P w = .ok true w) (hc : CellsN base g (y :: l)) : FStep P ops base a0 Q kn i (isVal (.agg l.toArray)) :=
  step_mk (stable_val _) hw fun o ho a w hk hb hd => by
    have e1 : a.eval x = .pointer (some ⟨g, 1, none⟩) := hx a w hk hd
    have hc' := hc.keep hb hc.1
    have e2 := loadO (P := P) t g 1 w l hs ha (fun j x hx => by rw [Nat.add_comm]; exact hc'.2 (j + 1) x (by simpa using hx))
    unfold Oper.wp execOp
    rw [op_of hop ho]
    simp only [e1, Instr.loadAt, Instr.sureAddr, Sem.run_bind, Sem.run_pure, Result.andThen_ok, e2, Oper.upon]
    exact ⟨_, rfl, rfl, Below.refl _ _⟩
theorem step_find (t : TypeId) (x y : Operand) (g : Nat) (k : Int) (f : Value) (hop : (ops[i]?).map (·.op) = some (.lookup t x y false)) (hw : Wanted ops a0 kn i) (hx : Knows ops a0 kn i x (isKinds g)) (hy : Knows ops a0 kn i y (isVal (.int .i64 k)))
    (hr : ∀ v w, isKinds g v w → (Instr.lookup t v (.int .i64 k) false).run P w = .ok f w) : FStep P ops base a0 Q kn i (isVal f) :=
  step_mk (stable_val _) hw fun o ho a w hk hb hd => by
    have e1 : isKinds g (a.eval x) w := hx a w hk hd
    have e2 : a.eval y = .int .i64 k := hy a w hk hd
    unfold Oper.wp execOp
    rw [op_of hop ho]
    simp only [e2, Sem.run_bind, hr _ _ e1, Result.andThen_ok, Sem.run_pure, Oper.upon]
    exact ⟨_, rfl, rfl, Below.refl _ _⟩
end
theorem kind_at (g : Nat) (k : Int) (f : Value) (i : Nat) (hf : Instr.findNow (.int .i64) (.int .i64 k) (kindsA g).toList 0 = some (some (i, f))) : ∀ v w, isKinds g v w → (Instr.lookup 53 v (.int .i64 k) false).run Try.prog w = .ok f w := by
  rintro v w ⟨n, rfl, hn, hb⟩
  exact run_find w 53 3 _ n 3 i (kindsA g) k f Try.underlying53 Try.underlying3 hb hf
end Go.Proofs.Ytebjljiklacolaa
