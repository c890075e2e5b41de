/- Structs in memory, of whatever number of cells. Nothing of the program. -/
import Derived.Test.YtebjljiklacolaaFlowCall
import Derived.Test.YtebjljiklacolaaFlEq
import Derived.Test.YtebjljiklacolaaFlowOut
namespace Go.Proofs.Ytebjljiklacolaa
open Go.RowKit
set_option linter.unusedVariables false
set_option linter.unusedSimpArgs false

/-- Block g begins with just these cells. -/
def CellsN (w : World) (g : Nat) (l : List Value) : Prop := g < w.heap.size ∧ ∀ (j : Nat) (x : Value), l[j]? = some x → w.cell? ⟨g, j, none⟩ = some x
theorem CellsN.keep {w w' : World} {g B : Nat} {l : List Value} (h : CellsN w g l) (hb : Below B w w') (hB : g < B) : CellsN w' g l :=
  ⟨Nat.lt_of_lt_of_le h.1 hb.size, fun j x hx => (hb.cell (p := ⟨g, j, none⟩) hB).trans (h.2 j x hx)⟩
theorem cellsN_new (w : World) (t : TypeId) (l : List Value) : CellsN (w.alloc (.cells l.toArray t)) w.heap.size l := by
  refine ⟨by simp, fun j x hx => ?_⟩
  rw [World.cell?_alloc_new]
  simpa using hx
theorem cellsN_at (w : World) (t : TypeId) (l : List Value) (n : Nat) (hn : n = w.heap.size) : CellsN (w.alloc (.cells l.toArray t)) n l := by subst hn; exact cellsN_new w t l

/-- Cells written one behind the other. -/
def setN (w : World) (g : Nat) : Nat → List Value → World
  | _, [] => w
  | k, v :: r => setN (w.setCell ⟨g, k, none⟩ v) g (k + 1) r
theorem size_setN (g : Nat) : ∀ (l : List Value) (k : Nat) (w : World), (setN w g k l).heap.size = w.heap.size
  | [], _, _ => rfl
  | v :: r, k, w => by rw [setN, size_setN g r]; simp
theorem setN_other (g : Nat) : ∀ (l : List Value) (k : Nat) (w : World) (p : Addr), (p.block ≠ g ∨ p.off < k) → (setN w g k l).cell? p = w.cell? p
  | [], _, _, _, _ => rfl
  | v :: r, k, w, p, h => by
    rw [setN, setN_other g r (k + 1) _ p (by omega), World.cell?_setCell_other w _ _ _ (by rintro rfl; simp at h)]
theorem setN_cell (g : Nat) : ∀ (l : List Value) (k : Nat) (w : World), (∀ j, j < l.length → ∃ o, w.cell? ⟨g, k + j, none⟩ = some o) → ∀ (j : Nat) (x : Value), l[j]? = some x → (setN w g k l).cell? ⟨g, k + j, none⟩ = some x
  | [], _, _, _, j, x, hx => by simp at hx
  | v :: r, k, w, h, j, x, hx => by
    rw [setN]
    obtain ⟨o, ho⟩ := h 0 (by simp)
    cases j with
    | zero =>
      simp only [List.getElem?_cons_zero, Option.some.injEq] at hx
      subst hx
      rw [setN_other g r (k + 1) _ _ (.inr (by simp))]
      exact World.cell?_setCell_same w _ _ ho
    | succ j =>
      have e : k + (j + 1) = k + 1 + j := by omega
      rw [e]
      refine setN_cell g r (k + 1) _ (fun i hi => ?_) j x (by simpa using hx)
      obtain ⟨o', ho'⟩ := h (i + 1) (by simp; omega)
      refine ⟨o', ?_⟩
      rw [World.cell?_setCell_other w _ _ _ (by intro hh; injection hh; omega), show k + 1 + i = k + (i + 1) by omega]
      exact ho'
theorem heap_setN (g : Nat) : ∀ (l : List Value) (k : Nat) (w : World) (b : Nat), b ≠ g → (setN w g k l).heap[b]? = w.heap[b]?
  | [], _, _, _, _ => rfl
  | v :: r, k, w, b, h => by rw [setN, heap_setN g r (k + 1) _ b h]; exact heap_setCell_other w ⟨g, k, none⟩ b v h
theorem setN_frozen (g : Nat) : ∀ (l : List Value) (k : Nat) (w : World) (p : Addr), (setN w g k l).frozen? p = w.frozen? p
  | [], _, _, _ => rfl
  | v :: r, k, w, p => by rw [setN, setN_frozen g r, World.frozen?_setCell]
theorem CellsN.setN_ {w : World} {g : Nat} {old : List Value} (h : CellsN w g old) (l : List Value) (hl : old.length = l.length) : CellsN (setN w g 0 l) g l := by
  refine ⟨by rw [size_setN]; exact h.1, fun j x hx => ?_⟩
  have := setN_cell g l 0 w (fun j hj => ⟨_, by rw [Nat.zero_add]; exact h.2 j _ (List.getElem?_eq_getElem (by omega))⟩) j x hx
  rwa [Nat.zero_add] at this
theorem CellsN.apartN {w : World} {g b : Nat} {old : List Value} (h : CellsN w g old) (k : Nat) (l : List Value) (hne : b ≠ g) : CellsN (setN w b k l) g old :=
  ⟨by rw [size_setN]; exact h.1, fun j x hx => (setN_other b l k w _ (.inl (by simpa using Ne.symm hne))).trans (h.2 j x hx)⟩
theorem Free5.setN_ {w : World} {g : Nat} (h : Free5 w g) (b k : Nat) (l : List Value) : Free5 (setN w b k l) g := fun j => by rw [setN_frozen]; exact h j
theorem below_setN {B : Nat} {w0 : World} {g : Nat} (hg : B ≤ g) : ∀ (l : List Value) (k : Nat) (w : World), Below B w0 w → Below B w0 (setN w g k l)
  | [], _, _, h => h
  | v :: r, k, w, h => by rw [setN]; exact below_setN hg r (k + 1) _ (h.setCell (p := ⟨g, k, none⟩) hg v)
theorem isOwn.setN_ {B : Nat} {e : TypeId} {cs : List Value} {v : Value} {g : Nat} (hg : g < B) : ∀ (l : List Value) (k : Nat) (w : World), isOwn B e cs v w → isOwn B e cs v (setN w g k l)
  | [], _, _, h => h
  | u :: r, k, w, h => by rw [setN]; exact isOwn.setN_ hg r (k + 1) _ (h.set (p := ⟨g, k, none⟩) hg u)

/-- Each is one cell. -/
def Ones : List Value → Prop
  | [] => True
  | v :: r => v.oneCell' = true ∧ Ones r
theorem storeCellsN {P : Program} (g : Nat) : ∀ (l : List Value) (k : Nat) (w : World), Ones l → (∀ j, j < l.length → ∃ o, w.cell? ⟨g, k + j, none⟩ = some o) → Free5 w g → (storeCells ⟨g, 0, none⟩ l k).run P w = .ok () (setN w g k l)
  | [], _, _, _, _, _ => rfl
  | v :: r, k, w, h1, h, hf => by
    obtain ⟨o, ho⟩ := h 0 (by simp)
    have ea : (⟨g, 0, none⟩ : Addr).add k = ⟨g, k, none⟩ := by
      by_cases e : k = 0
      · subst e; simp [Addr.add]
      · simp [Addr.add, e]
    unfold storeCells
    rw [Sem.run_bind, ea, run_store P w _ v _ h1.1, show w.cell? ⟨g, k, none⟩ = some o from ho]
    simp only [hf k, Bool.false_eq_true, if_false]
    rw [Result.andThen_ok, storeCellsN g r (k + 1) _ h1.2 (fun j hj => ?_) (hf.set _ _)]
    · rfl
    · obtain ⟨o', ho'⟩ := h (j + 1) (by simp; omega)
      refine ⟨o', ?_⟩
      rw [World.cell?_setCell_other w _ _ _ (by intro hh; injection hh; omega), show k + 1 + j = k + (j + 1) by omega]
      exact ho'
theorem storeN {P : Program} (t : TypeId) (g : Nat) (w : World) (old l : List Value) (hs : (P.info? t).map (·.size) = some l.length) (h : CellsN w g old) (hl : old.length = l.length) (hf : Free5 w g) (h1 : Ones l) :
    (Instr.storeAt t (.pointer (some ⟨g, 0, none⟩)) (.agg l.toArray)).run P w = .ok () (setN w g 0 l) := by
  obtain ⟨ie, hie, hz⟩ := Option.map_eq_some_iff.1 hs
  have hsz : (sizeOf t).run P w = .ok l.length w := by simp [sizeOf, typeInfo, hie, hz]
  simp only [Instr.storeAt, Instr.sureAddr, Sem.run_bind, Sem.run_pure, Result.andThen_ok, storeVar, hsz]
  rw [if_neg (show ¬ ((Value.agg l.toArray).cells.size ≠ l.length) by show ¬ (l.toArray.size ≠ l.length); simp)]
  show (storeCells ⟨g, 0, none⟩ l.toArray.toList 0).run P w = _
  exact storeCellsN g l 0 w h1 (fun j hj => ⟨_, by rw [Nat.zero_add]; exact h.2 j _ (List.getElem?_eq_getElem (by omega))⟩) hf
theorem wpList_storeN {P : Program} {ops : Array Oper} {rest : List Oper} {o : Oper} {a : Act} {w : World} {Q : Exit → Act → World → Prop} (t : TypeId) (hgd : o.guard = none) (x y : Operand) (ho : o.op = .store t x y)
    (g : Nat) (l : List Value) (hs : (P.info? t).map (·.size) = some l.length) (hx : a.eval x = .pointer (some ⟨g, 0, none⟩)) (hy : a.eval y = .agg l.toArray) {old : List Value} (h : CellsN w g old) (hl : old.length = l.length) (hf : Free5 w g) (h1 : Ones l)
    (hr : wpList P ops Q rest (a.put o.dst undef) (setN w g 0 l)) : wpList P ops Q (o :: rest) a w :=
  wpList_plain hgd fun K hK => by
    unfold Oper.wp execOp
    rw [ho]
    simp only [hx, hy, Sem.run_bind, storeN t g w old l hs h hl hf h1, Result.andThen_ok, Sem.run_pure, Oper.upon]
    exact hK _ _ hr
theorem loadCellsN {P : Program} (g : Nat) (w : World) : ∀ (l : List Value) (k : Nat) (acc : Array Value), (∀ j x, l[j]? = some x → w.cell? ⟨g, k + j, none⟩ = some x) → (loadCellsFrom ⟨g, 0, none⟩ k l.length acc).run P w = .ok (acc ++ l.toArray) w
  | [], k, acc, _ => by simp [loadCellsFrom]
  | v :: r, k, acc, h => by
    have ea : (⟨g, 0, none⟩ : Addr).add k = ⟨g, k, none⟩ := by
      by_cases e : k = 0
      · subst e; simp [Addr.add]
      · simp [Addr.add, e]
    have h0 : w.cell? ⟨g, k, none⟩ = some v := h 0 v rfl
    rw [List.length_cons]
    unfold loadCellsFrom
    rw [Sem.run_bind, ea]
    have hl : (load ⟨g, k, none⟩).run P w = .ok v w := by simp [h0]
    rw [hl, Result.andThen_ok, loadCellsN g w r (k + 1) (acc.push v) (fun j x hx => by rw [show k + 1 + j = k + (j + 1) by omega]; exact h (j + 1) x (by simpa using hx))]
    simp
theorem loadN {P : Program} (t : TypeId) (g : Nat) (w : World) (l : List Value) (hs : (P.info? t).map (·.size) = some l.length) (ha : ∀ w, (isAgg t).run P w = .ok true w) (h : CellsN w g l) : (loadVar t ⟨g, 0, none⟩).run P w = .ok (.agg l.toArray) w := by
  obtain ⟨ie, hie, hz⟩ := Option.map_eq_some_iff.1 hs
  have hsz : (sizeOf t).run P w = .ok l.length w := by simp [sizeOf, typeInfo, hie, hz]
  have hc := loadCellsN (P := P) g w l 0 #[] (fun j x hx => by rw [Nat.zero_add]; exact h.2 j x hx)
  simp only [loadVar, Sem.run_bind, ha, Result.andThen_ok, if_true, hsz, loadCells, hc, Sem.run_pure]
  simp
theorem resultsN1 {P : Program} {fn : Func} {p : Tmp} {t : TypeId} (h : fn.results = #[.cell p t]) (tmps : Array Value) (w : World) (g : Nat) (l : List Value) (hs : (P.info? t).map (·.size) = some l.length) (ha : ∀ w, (isAgg t).run P w = .ok true w) (hp : tmps.getD p undef = .pointer (some ⟨g, 0, none⟩)) (hc : CellsN w g l) :
    (results fn tmps).run P w = .ok (.agg l.toArray) w := by
  have hp' : tmps[p]?.getD undef = .pointer (some ⟨g, 0, none⟩) := by simpa using hp
  simp [results, h, hp', asAddr, loadN t g w l hs ha hc]
theorem resultsN2 {P : Program} {fn : Func} {p u : Tmp} {t : TypeId} (h : fn.results = #[.cell p t, .tmp u]) (tmps : Array Value) (w : World) (g : Nat) (l : List Value) (x : Value) (hs : (P.info? t).map (·.size) = some l.length) (ha : ∀ w, (isAgg t).run P w = .ok true w) (hp : tmps.getD p undef = .pointer (some ⟨g, 0, none⟩)) (hx : tmps.getD u undef = x) (hc : CellsN w g l) :
    (results fn tmps).run P w = .ok (.tuple #[.agg l.toArray, x]) w := by
  rw [results_cell_tmp h, hp, hx]
  simp [asAddr, loadN t g w l hs ha hc]
section
variable {P : Program} {ops : Array Oper} {base : World} {a0 : Act} {Q : Exit → Act → World → Prop} {kn : Nat → VP} {i : Nat} {V : VP}
theorem step_loadN (t : TypeId) (x : Operand) (g : Nat) (l : List Value) (hop : (ops[i]?).map (·.op) = some (.load t x)) (hw : Wanted ops a0 kn i) (hx : Knows ops a0 kn i x (isVal (.pointer (some ⟨g, 0, none⟩))))
    (hs : (P.info? t).map (·.size) = some l.length) (ha : ∀ w, (isAgg t).run P w = .ok true w) (hc : CellsN base g l) : FStep P ops base a0 Q kn i (isVal (.agg l.toArray)) :=
  step_mk (stable_val _) hw fun o ho a w hk hb hd => by
    have e1 : a.eval x = .pointer (some ⟨g, 0, none⟩) := hx a w hk hd
    unfold Oper.wp execOp
    rw [op_of hop ho]
    simp only [e1, Instr.loadAt, Instr.sureAddr, Sem.run_bind, Sem.run_pure, Result.andThen_ok, loadN t g w l hs ha (hc.keep hb hc.1), Oper.upon]
    exact ⟨_, rfl, rfl, Below.refl _ _⟩
/-- A struct put together out of what is known. -/
theorem step_buildP (t : TypeId) (parts : Array (Nat × Operand)) (hop : (ops[i]?).map (·.op) = some (.build t parts)) (hw : Wanted ops a0 kn i) (hst : Stable V)
    (hx : ∀ a w, FKept ops a0 a → FDeps ops kn i a w → ∃ cs, P.built t (parts.map fun (i, x) => (i, a.eval x)).toList = some cs ∧ V (.agg cs) w) : FStep P ops base a0 Q kn i V :=
  step_mk hst hw fun o ho a w hk hb hd => by
    obtain ⟨cs, h1, h2⟩ := hx a w hk hd
    unfold Oper.wp execOp
    rw [op_of hop ho]
    simp only [Sem.run_bind]
    rw [run_build (P := P) w t _ cs (by simpa using h1)]
    exact ⟨_, rfl, h2, Below.refl _ _⟩
variable {a : Act} {w : World} {c : Nat}
theorem tail_build (t : TypeId) (parts : Array (Nat × Operand)) (cs : Array Value) (d : Tmp) (hop : (ops[i]?).map (fun o => (o.op, o.guard)) = some (.build t parts, none)) (hd : (ops[i]?).bind (·.dst) = some d)
    (hb : P.built t (parts.map fun (i, x) => (i, a.eval x)).toList = some cs) (h : Tail P ops Q c (i + 1) (a.put (some d) (.agg cs)) w) : Tail P ops Q (c + 1) i a w :=
  tail_op (fun _ _ => True) hop fun o ho e => by
    rw [ho] at hd
    simp only [Option.bind_some] at hd
    unfold Oper.wp execOp
    rw [e]
    simp only [Sem.run_bind]
    rw [run_build (P := P) w t _ cs (by simpa using hb)]
    simp only [Result.andThen_ok, Sem.run_pure, Oper.upon, hd]
    exact h
theorem tail_storeN (t : TypeId) (x y : Operand) (g : Nat) (l old : List Value) (hop : (ops[i]?).map (fun o => (o.op, o.guard)) = some (.store t x y, none)) (hdst : (ops[i]?).map (·.dst) = some none) (hs : (P.info? t).map (·.size) = some l.length) (hx : a.eval x = .pointer (some ⟨g, 0, none⟩)) (hy : a.eval y = .agg l.toArray)
    (hc : CellsN w g old) (hl : old.length = l.length) (hf : Free5 w g) (h1 : Ones l) (h : Tail P ops Q c (i + 1) a (setN w g 0 l)) : Tail P ops Q (c + 1) i a w :=
  tail_op (fun _ _ => True) hop fun o ho e => by
    rw [ho] at hdst
    simp only [Option.map_some, Option.some.injEq] at hdst
    unfold Oper.wp execOp
    rw [e]
    simp only [hx, hy, Sem.run_bind, storeN t g w old l hs hc hl hf h1, Result.andThen_ok, Sem.run_pure, Oper.upon, hdst]
    exact h
end
end Go.Proofs.Ytebjljiklacolaa
