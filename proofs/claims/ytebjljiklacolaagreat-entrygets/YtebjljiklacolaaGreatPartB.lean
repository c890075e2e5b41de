/- Joined texts: contracts of the program's functions, and the mathematics that they lean on. -/
import Derived.Test.YtebjljiklacolaaGreatPartA
section
namespace Go.Proofs.YtebjljiklacolaaGreat
open Go.RowKit
set_option linter.unusedVariables false
set_option linter.unusedSimpArgs false
section
variable {P : Program} {ops : Array Oper} {base : World} {a0 : Act} {Q : Exit → Act → World → Prop} {kn : Nat → VP} {i : Nat} {V : VP}
theorem step_callP (f : FuncId) (xs : Array Operand) (ts : Array TypeId) (hop : (ops[i]?).map (·.op) = some (.call { callee := .value (.func f), args := xs, argTypes := ts })) (hw : Wanted ops a0 kn i) (hst : Stable V) (hent : Enters P f)
    (Pre : Array Value → World → Prop) (hx : ∀ a w, FKept ops a0 a → FDeps ops kn i a w → Pre (xs.map a.eval) w)
    (hc : ∀ vs w, Below base.heap.size base w → Pre vs w → Calls P f vs w fun e w' => ∃ v, e = .returned v ∧ V v w' ∧ Below w.heap.size w w') : FStep P ops base a0 Q kn i V :=
  step_mk hst hw fun o ho a w hk hb hd => by
    have hp := hx a w hk hd
    generalize hvs : xs.map a.eval = vs at hp
    unfold Oper.wp execOp
    rw [op_of hop ho]
    have e2 : a.eval (.func f) = .func (.func f) #[] #[] := rfl
    simp only [resolve, hvs, e2, Deferred.ofValue, Sem.run_bind, Sem.run_pure, Result.andThen_ok, invoke, Array.append_empty, Array.empty_append]
    rw [hent]
    simp only [Oper.upon]
    refine (hc vs w hb hp).mono ?_
    rintro e w' ⟨v, rfl, hv, hbw⟩
    exact ⟨v, rfl, hv, hbw⟩
theorem pre2 {x y : Operand} {V1 V2 : VP} (h1 : Knows ops a0 kn i x V1) (h2 : Knows ops a0 kn i y V2) : ∀ a w, FKept ops a0 a → FDeps ops kn i a w → (fun vs w => ∃ u v, vs = #[u, v] ∧ V1 u w ∧ V2 v w) (#[x, y].map a.eval) w := fun a w hk hd =>
  ⟨_, _, by simp, h1 a w hk hd, h2 a w hk hd⟩
theorem pre1 {x : Operand} {V1 : VP} (h1 : Knows ops a0 kn i x V1) : ∀ a w, FKept ops a0 a → FDeps ops kn i a w → (fun vs w => ∃ u, vs = #[u] ∧ V1 u w) (#[x].map a.eval) w := fun a w hk hd =>
  ⟨_, by simp, h1 a w hk hd⟩
theorem step_ints4 (t e : TypeId) (x0 x1 x2 x3 : Operand) (a0' a1 a2 a3 : Int) (ie : TypeInfo) (hop : (ops[i]?).map (·.op) = some (.buildSlice t 4 #[(0, x0), (1, x1), (2, x2), (3, x3)])) (hw : Wanted ops a0 kn i)
    (h0 : Knows ops a0 kn i x0 (isVal (.int .i64 a0'))) (h1 : Knows ops a0 kn i x1 (isVal (.int .i64 a1))) (h2 : Knows ops a0 kn i x2 (isVal (.int .i64 a2))) (h3 : Knows ops a0 kn i x3 (isVal (.int .i64 a3)))
    (hu : P.underlying t = some (.slice e)) (hie : P.info? e = some ie) (hz : ie.zero = some (.int .i64 0)) (hsz : ie.size = 1) : FStep P ops base a0 Q kn i (isCells [intC a0', intC a1, intC a2, intC a3]) :=
  step_mk (stable_cells _) hw fun o ho a w hk hb hd => by
    have e0 : a.eval x0 = intC a0' := h0 a w hk hd
    have e1 : a.eval x1 = intC a1 := h1 a w hk hd
    have e2 : a.eval x2 = intC a2 := h2 a w hk hd
    have e3 : a.eval x3 = intC a3 := h3 a w hk hd
    have hf : Instr.fill (fun i => some (i * ie.size, ie.size)) ((Array.range (4 * ie.size)).map ((Value.int .i64 0).cells[· % (Value.int .i64 0).cells.size]!)) ((#[(0, x0), (1, x1), (2, x2), (3, x3)] : Array (Nat × Operand)).map fun (i, x) => (i, a.eval x)).toList = some #[intC a0', intC a1, intC a2, intC a3] := by
      have e1 : ((#[(0, x0), (1, x1), (2, x2), (3, x3)] : Array (Nat × Operand)).map fun (i, x) => (i, a.eval x)).toList = (([intC a0', intC a1, intC a2, intC a3] : List Value).zipIdx 0).map fun x => (x.2, x.1) := by simp [e0, e1, e2, e3]
      rw [e1, hsz, Great.fill_flat _ _ (fun v hv => by simp only [List.mem_cons, List.not_mem_nil, or_false] at hv; rcases hv with rfl | rfl | rfl | rfl <;> rfl) (by simp)]
    refine wp_buildSlice t e 4 _ (op_of hop ho) _ ie (.int .i64 0) hu hie hz (by rw [hsz]; omega) (by rw [hsz]; omega) hf ?_
    refine ⟨_, rfl, .inr (.inr ⟨w.heap.size, 0, 4, rfl, by simp, fun j v hv => ?_⟩), (Below.refl _ _).alloc (Nat.le_refl _) _⟩
    rw [World.cell?_alloc_new]
    simpa using hv
theorem step_strs2 (t e : TypeId) (x y : List UInt8) (ie : TypeInfo) (hop : (ops[i]?).map (·.op) = some (.buildSlice t 2 #[(0, .const (.string ⟨x.toArray⟩)), (1, .const (.string ⟨y.toArray⟩))])) (hw : Wanted ops a0 kn i)
    (hu : P.underlying t = some (.slice e)) (hie : P.info? e = some ie) (hz : ie.zero = some (.string ⟨#[]⟩)) (hsz : ie.size = 1) : FStep P ops base a0 Q kn i (isCells [strC x, strC y]) :=
  step_mk (stable_cells _) hw fun o ho a w hk hb hd => by
    have hf : Instr.fill (fun i => some (i * ie.size, ie.size)) ((Array.range (2 * ie.size)).map ((Value.string ⟨#[]⟩).cells[· % (Value.string ⟨#[]⟩).cells.size]!)) ((#[(0, Operand.const (.string ⟨x.toArray⟩)), (1, Operand.const (.string ⟨y.toArray⟩))] : Array (Nat × Operand)).map fun (i, x) => (i, a.eval x)).toList = some #[strC x, strC y] := by
      have e1 : ((#[(0, Operand.const (.string ⟨x.toArray⟩)), (1, Operand.const (.string ⟨y.toArray⟩))] : Array (Nat × Operand)).map fun (i, x) => (i, a.eval x)).toList = (([strC x, strC y] : List Value).zipIdx 0).map fun x => (x.2, x.1) := by simp; exact ⟨rfl, rfl⟩
      rw [e1, hsz, Great.fill_flat _ _ (fun v hv => by simp only [List.mem_cons, List.not_mem_nil, or_false] at hv; rcases hv with rfl | rfl <;> rfl) (by simp)]
    refine wp_buildSlice t e 2 _ (op_of hop ho) _ ie (.string ⟨#[]⟩) hu hie hz (by rw [hsz]; omega) (by rw [hsz]; omega) hf ?_
    refine ⟨_, rfl, .inr (.inr ⟨w.heap.size, 0, 2, rfl, by simp, fun j v hv => ?_⟩), (Below.refl _ _).alloc (Nat.le_refl _) _⟩
    rw [World.cell?_alloc_new]
    simpa using hv
end
end Go.Proofs.YtebjljiklacolaaGreat
end
section
namespace Go.Proofs.YtebjljiklacolaaGreat
open Go.RowKit
set_option linter.unusedVariables false
set_option linter.unusedSimpArgs false

theorem below_drewN (w : World) (q : Nat) : Below w.heap.size w (w.drewN q) := ⟨rfl, rfl, rfl, Nat.le_refl _, fun _ _ => rfl⟩

set_option maxHeartbeats 400000 in
theorem unlike_i (n m : Nat) (a b : Option Addr) (c d : Nat) (w : World) (h : n ≠ m) (hn : n ≤ 1000000000) (hm : m ≤ 1000000000) :
    Calls Tryz.prog 52 #[.slice a n c, .slice b m d] w fun e w' => e = .returned (.bool false) ∧ Below w.heap.size w w' := by
  have h' : ((n : Int) != (m : Int)) = true := by simp [bne]; omega
  have h2 : ((n : Int) == (m : Int)) = false := by simp; omega
  go_enter Tryz.func52, Tryz.ntmps52
  go_wp2
  go_ret
  exact ⟨rfl, Below.refl _ _⟩

theorem equal_i (l m : List Int) (v u : Value) (w : World) (hv : isCells (l.map intC) v w) (hu : isCells (m.map intC) u w) (h1 : l.length ≤ 1000000000) (h2 : m.length ≤ 1000000000) :
    Calls Tryz.prog 52 #[v, u] w fun e w' => e = .returned (.bool (decide (l = m))) ∧ Below w.heap.size w w' := by
  by_cases hlen : l.length = m.length
  · by_cases h0 : l = []
    · subst h0
      obtain rfl : m = [] := List.eq_nil_of_length_eq_zero (by simpa using hlen.symm)
      obtain ⟨a, cap, rfl⟩ := hv.len
      obtain ⟨b, cap2, rfl⟩ := hu.len
      refine (Tryz.slices_Equal_int_empty a b cap 0 cap2 w (by omega)).mono ?_
      rintro e w' ⟨rfl, rfl⟩
      exact ⟨by simp, Below.refl _ _⟩
    · have hl0 : 0 < l.length := List.length_pos_iff.2 h0
      obtain ⟨b, off, cap, hv', hb, hc⟩ := hv.some_ (by simpa using hl0)
      obtain ⟨b2, off2, cap2, hu', hb2, hc2⟩ := hu.some_ (by rw [List.length_map]; omega)
      rw [List.length_map] at hv' hu'
      subst hv' hu'
      refine (Tryz.slices_Equal_int b off l.length cap b2 off2 m.length cap2 l m w (Nat.le_refl _) (Nat.le_refl _) (by omega) (by omega) (fun j hj => ?_) (fun j hj => ?_)).mono ?_
      · rw [hc j _ (get_map intC l j hj)]
        simp [intC, List.getD_eq_getElem?_getD, hj]
      · rw [hc2 j _ (get_map intC m j hj)]
        simp [intC, List.getD_eq_getElem?_getD, hj]
      · rintro e w' ⟨rfl, q, rfl⟩
        refine ⟨?_, below_drewN w q⟩
        rw [List.take_of_length_le (Nat.le_refl _), List.take_of_length_le (Nat.le_refl _)]
        congr 2
        by_cases h : l = m <;> simp [h]
  · obtain ⟨a, cap, rfl⟩ := hv.len
    obtain ⟨b, cap2, rfl⟩ := hu.len
    rw [List.length_map, List.length_map]
    rw [show decide (l = m) = false by simp; rintro rfl; exact hlen rfl]
    exact unlike_i l.length m.length a b cap cap2 w hlen h1 h2

end Go.Proofs.YtebjljiklacolaaGreat
end
section
namespace Go.Proofs.YtebjljiklacolaaGreat
open Go.RowKit
set_option linter.unusedVariables false
set_option linter.unusedSimpArgs false

/-- Block g begins with just these cells. -/
def CellsN (w : World) (g : Nat) (l : List Value) : Prop := g < w.heap.size ∧ ∀ (j : Nat) (x : Value), l[j]? = some x → w.cell? ⟨g, j, none⟩ = some x
theorem CellsN.keep {w w' : World} {g B : Nat} {l : List Value} (h : CellsN w g l) (hb : Below B w w') (hB : g < B) : CellsN w' g l :=
  ⟨Nat.lt_of_lt_of_le h.1 hb.size, fun j x hx => (hb.cell (p := ⟨g, j, none⟩) hB).trans (h.2 j x hx)⟩
theorem cellsN_new (w : World) (t : TypeId) (l : List Value) : CellsN (w.alloc (.cells l.toArray t)) w.heap.size l := by
  refine ⟨by simp, fun j x hx => ?_⟩
  rw [World.cell?_alloc_new]
  simpa using hx
theorem cellsN_at (w : World) (t : TypeId) (l : List Value) (n : Nat) (hn : n = w.heap.size) : CellsN (w.alloc (.cells l.toArray t)) n l := by subst hn; exact cellsN_new w t l

/-- Cells written one behind the other. -/
def setN (w : World) (g : Nat) : Nat → List Value → World
  | _, [] => w
  | k, v :: r => setN (w.setCell ⟨g, k, none⟩ v) g (k + 1) r
theorem size_setN (g : Nat) : ∀ (l : List Value) (k : Nat) (w : World), (setN w g k l).heap.size = w.heap.size
  | [], _, _ => rfl
  | v :: r, k, w => by rw [setN, size_setN g r]; simp
theorem setN_other (g : Nat) : ∀ (l : List Value) (k : Nat) (w : World) (p : Addr), (p.block ≠ g ∨ p.off < k) → (setN w g k l).cell? p = w.cell? p
  | [], _, _, _, _ => rfl
  | v :: r, k, w, p, h => by
    rw [setN, setN_other g r (k + 1) _ p (by omega), World.cell?_setCell_other w _ _ _ (by rintro rfl; simp at h)]
theorem setN_cell (g : Nat) : ∀ (l : List Value) (k : Nat) (w : World), (∀ j, j < l.length → ∃ o, w.cell? ⟨g, k + j, none⟩ = some o) → ∀ (j : Nat) (x : Value), l[j]? = some x → (setN w g k l).cell? ⟨g, k + j, none⟩ = some x
  | [], _, _, _, j, x, hx => by simp at hx
  | v :: r, k, w, h, j, x, hx => by
    rw [setN]
    obtain ⟨o, ho⟩ := h 0 (by simp)
    cases j with
    | zero =>
      simp only [List.getElem?_cons_zero, Option.some.injEq] at hx
      subst hx
      rw [setN_other g r (k + 1) _ _ (.inr (by simp))]
      exact World.cell?_setCell_same w _ _ ho
    | succ j =>
      have e : k + (j + 1) = k + 1 + j := by omega
      rw [e]
      refine setN_cell g r (k + 1) _ (fun i hi => ?_) j x (by simpa using hx)
      obtain ⟨o', ho'⟩ := h (i + 1) (by simp; omega)
      refine ⟨o', ?_⟩
      rw [World.cell?_setCell_other w _ _ _ (by intro hh; injection hh; omega), show k + 1 + i = k + (i + 1) by omega]
      exact ho'
theorem heap_setN (g : Nat) : ∀ (l : List Value) (k : Nat) (w : World) (b : Nat), b ≠ g → (setN w g k l).heap[b]? = w.heap[b]?
  | [], _, _, _, _ => rfl
  | v :: r, k, w, b, h => by rw [setN, heap_setN g r (k + 1) _ b h]; exact heap_setCell_other w ⟨g, k, none⟩ b v h
theorem setN_frozen (g : Nat) : ∀ (l : List Value) (k : Nat) (w : World) (p : Addr), (setN w g k l).frozen? p = w.frozen? p
  | [], _, _, _ => rfl
  | v :: r, k, w, p => by rw [setN, setN_frozen g r, World.frozen?_setCell]
theorem CellsN.setN_ {w : World} {g : Nat} {old : List Value} (h : CellsN w g old) (l : List Value) (hl : old.length = l.length) : CellsN (setN w g 0 l) g l := by
  refine ⟨by rw [size_setN]; exact h.1, fun j x hx => ?_⟩
  have := setN_cell g l 0 w (fun j hj => ⟨_, by rw [Nat.zero_add]; exact h.2 j _ (List.getElem?_eq_getElem (by omega))⟩) j x hx
  rwa [Nat.zero_add] at this
theorem CellsN.apartN {w : World} {g b : Nat} {old : List Value} (h : CellsN w g old) (k : Nat) (l : List Value) (hne : b ≠ g) : CellsN (setN w b k l) g old :=
  ⟨by rw [size_setN]; exact h.1, fun j x hx => (setN_other b l k w _ (.inl (by simpa using Ne.symm hne))).trans (h.2 j x hx)⟩
theorem Free5.setN_ {w : World} {g : Nat} (h : Free5 w g) (b k : Nat) (l : List Value) : Free5 (setN w b k l) g := fun j => by rw [setN_frozen]; exact h j
theorem below_setN {B : Nat} {w0 : World} {g : Nat} (hg : B ≤ g) : ∀ (l : List Value) (k : Nat) (w : World), Below B w0 w → Below B w0 (setN w g k l)
  | [], _, _, h => h
  | v :: r, k, w, h => by rw [setN]; exact below_setN hg r (k + 1) _ (h.setCell (p := ⟨g, k, none⟩) hg v)
theorem isOwn.setN_ {B : Nat} {e : TypeId} {cs : List Value} {v : Value} {g : Nat} (hg : g < B) : ∀ (l : List Value) (k : Nat) (w : World), isOwn B e cs v w → isOwn B e cs v (setN w g k l)
  | [], _, _, h => h
  | u :: r, k, w, h => by rw [setN]; exact isOwn.setN_ hg r (k + 1) _ (h.set (p := ⟨g, k, none⟩) hg u)

/-- Each is one cell. -/
def Ones : List Value → Prop
  | [] => True
  | v :: r => v.oneCell' = true ∧ Ones r
theorem storeCellsN {P : Program} (g : Nat) : ∀ (l : List Value) (k : Nat) (w : World), Ones l → (∀ j, j < l.length → ∃ o, w.cell? ⟨g, k + j, none⟩ = some o) → Free5 w g → (storeCells ⟨g, 0, none⟩ l k).run P w = .ok () (setN w g k l)
  | [], _, _, _, _, _ => rfl
  | v :: r, k, w, h1, h, hf => by
    obtain ⟨o, ho⟩ := h 0 (by simp)
    have ea : (⟨g, 0, none⟩ : Addr).add k = ⟨g, k, none⟩ := by
      by_cases e : k = 0
      · subst e; simp [Addr.add]
      · simp [Addr.add, e]
    unfold storeCells
    rw [Sem.run_bind, ea, run_store P w _ v _ h1.1, show w.cell? ⟨g, k, none⟩ = some o from ho]
    simp only [hf k, Bool.false_eq_true, if_false]
    rw [Result.andThen_ok, storeCellsN g r (k + 1) _ h1.2 (fun j hj => ?_) (hf.set _ _)]
    · rfl
    · obtain ⟨o', ho'⟩ := h (j + 1) (by simp; omega)
      refine ⟨o', ?_⟩
      rw [World.cell?_setCell_other w _ _ _ (by intro hh; injection hh; omega), show k + 1 + j = k + (j + 1) by omega]
      exact ho'
theorem storeN {P : Program} (t : TypeId) (g : Nat) (w : World) (old l : List Value) (hs : (P.info? t).map (·.size) = some l.length) (h : CellsN w g old) (hl : old.length = l.length) (hf : Free5 w g) (h1 : Ones l) :
    (Instr.storeAt t (.pointer (some ⟨g, 0, none⟩)) (.agg l.toArray)).run P w = .ok () (setN w g 0 l) := by
  obtain ⟨ie, hie, hz⟩ := Option.map_eq_some_iff.1 hs
  have hsz : (sizeOf t).run P w = .ok l.length w := by simp [sizeOf, typeInfo, hie, hz]
  simp only [Instr.storeAt, Instr.sureAddr, Sem.run_bind, Sem.run_pure, Result.andThen_ok, storeVar, hsz]
  rw [if_neg (show ¬ ((Value.agg l.toArray).cells.size ≠ l.length) by show ¬ (l.toArray.size ≠ l.length); simp)]
  show (storeCells ⟨g, 0, none⟩ l.toArray.toList 0).run P w = _
  exact storeCellsN g l 0 w h1 (fun j hj => ⟨_, by rw [Nat.zero_add]; exact h.2 j _ (List.getElem?_eq_getElem (by omega))⟩) hf
theorem wpList_storeN {P : Program} {ops : Array Oper} {rest : List Oper} {o : Oper} {a : Act} {w : World} {Q : Exit → Act → World → Prop} (t : TypeId) (hgd : o.guard = none) (x y : Operand) (ho : o.op = .store t x y)
    (g : Nat) (l : List Value) (hs : (P.info? t).map (·.size) = some l.length) (hx : a.eval x = .pointer (some ⟨g, 0, none⟩)) (hy : a.eval y = .agg l.toArray) {old : List Value} (h : CellsN w g old) (hl : old.length = l.length) (hf : Free5 w g) (h1 : Ones l)
    (hr : wpList P ops Q rest (a.put o.dst undef) (setN w g 0 l)) : wpList P ops Q (o :: rest) a w :=
  wpList_plain hgd fun K hK => by
    unfold Oper.wp execOp
    rw [ho]
    simp only [hx, hy, Sem.run_bind, storeN t g w old l hs h hl hf h1, Result.andThen_ok, Sem.run_pure, Oper.upon]
    exact hK _ _ hr
theorem loadCellsN {P : Program} (g : Nat) (w : World) : ∀ (l : List Value) (k : Nat) (acc : Array Value), (∀ j x, l[j]? = some x → w.cell? ⟨g, k + j, none⟩ = some x) → (loadCellsFrom ⟨g, 0, none⟩ k l.length acc).run P w = .ok (acc ++ l.toArray) w
  | [], k, acc, _ => by simp [loadCellsFrom]
  | v :: r, k, acc, h => by
    have ea : (⟨g, 0, none⟩ : Addr).add k = ⟨g, k, none⟩ := by
      by_cases e : k = 0
      · subst e; simp [Addr.add]
      · simp [Addr.add, e]
    have h0 : w.cell? ⟨g, k, none⟩ = some v := h 0 v rfl
    rw [List.length_cons]
    unfold loadCellsFrom
    rw [Sem.run_bind, ea]
    have hl : (load ⟨g, k, none⟩).run P w = .ok v w := by simp [h0]
    rw [hl, Result.andThen_ok, loadCellsN g w r (k + 1) (acc.push v) (fun j x hx => by rw [show k + 1 + j = k + (j + 1) by omega]; exact h (j + 1) x (by simpa using hx))]
    simp
theorem loadN {P : Program} (t : TypeId) (g : Nat) (w : World) (l : List Value) (hs : (P.info? t).map (·.size) = some l.length) (ha : ∀ w, (isAgg t).run P w = .ok true w) (h : CellsN w g l) : (loadVar t ⟨g, 0, none⟩).run P w = .ok (.agg l.toArray) w := by
  obtain ⟨ie, hie, hz⟩ := Option.map_eq_some_iff.1 hs
  have hsz : (sizeOf t).run P w = .ok l.length w := by simp [sizeOf, typeInfo, hie, hz]
  have hc := loadCellsN (P := P) g w l 0 #[] (fun j x hx => by rw [Nat.zero_add]; exact h.2 j x hx)
  simp only [loadVar, Sem.run_bind, ha, Result.andThen_ok, if_true, hsz, loadCells, hc, Sem.run_pure]
  simp
theorem resultsN1 {P : Program} {fn : Func} {p : Tmp} {t : TypeId} (h : fn.results = #[.cell p t]) (tmps : Array Value) (w : World) (g : Nat) (l : List Value) (hs : (P.info? t).map (·.size) = some l.length) (ha : ∀ w, (isAgg t).run P w = .ok true w) (hp : tmps.getD p undef = .pointer (some ⟨g, 0, none⟩)) (hc : CellsN w g l) :
    (results fn tmps).run P w = .ok (.agg l.toArray) w := by
  have hp' : tmps[p]?.getD undef = .pointer (some ⟨g, 0, none⟩) := by simpa using hp
  simp [results, h, hp', asAddr, loadN t g w l hs ha hc]
theorem resultsN2 {P : Program} {fn : Func} {p u : Tmp} {t : TypeId} (h : fn.results = #[.cell p t, .tmp u]) (tmps : Array Value) (w : World) (g : Nat) (l : List Value) (x : Value) (hs : (P.info? t).map (·.size) = some l.length) (ha : ∀ w, (isAgg t).run P w = .ok true w) (hp : tmps.getD p undef = .pointer (some ⟨g, 0, none⟩)) (hx : tmps.getD u undef = x) (hc : CellsN w g l) :
    (results fn tmps).run P w = .ok (.tuple #[.agg l.toArray, x]) w := by
  rw [results_cell_tmp h, hp, hx]
  simp [asAddr, loadN t g w l hs ha hc]
section
variable {P : Program} {ops : Array Oper} {base : World} {a0 : Act} {Q : Exit → Act → World → Prop} {kn : Nat → VP} {i : Nat} {V : VP}
theorem step_loadN (t : TypeId) (x : Operand) (g : Nat) (l : List Value) (hop : (ops[i]?).map (·.op) = some (.load t x)) (hw : Wanted ops a0 kn i) (hx : Knows ops a0 kn i x (isVal (.pointer (some ⟨g, 0, none⟩))))
    (hs : (P.info? t).map (·.size) = some l.length) (ha : ∀ w, (isAgg t).run P w = .ok true w) (hc : CellsN base g l) : FStep P ops base a0 Q kn i (isVal (.agg l.toArray)) :=
  step_mk (stable_val _) hw fun o ho a w hk hb hd => by
    have e1 : a.eval x = .pointer (some ⟨g, 0, none⟩) := hx a w hk hd
    unfold Oper.wp execOp
    rw [op_of hop ho]
    simp only [e1, Instr.loadAt, Instr.sureAddr, Sem.run_bind, Sem.run_pure, Result.andThen_ok, loadN t g w l hs ha (hc.keep hb hc.1), Oper.upon]
    exact ⟨_, rfl, rfl, Below.refl _ _⟩
/-- A struct put together out of what is known. -/
theorem step_buildP (t : TypeId) (parts : Array (Nat × Operand)) (hop : (ops[i]?).map (·.op) = some (.build t parts)) (hw : Wanted ops a0 kn i) (hst : Stable V)
    (hx : ∀ a w, FKept ops a0 a → FDeps ops kn i a w → ∃ cs, P.built t (parts.map fun (i, x) => (i, a.eval x)).toList = some cs ∧ V (.agg cs) w) : FStep P ops base a0 Q kn i V :=
  step_mk hst hw fun o ho a w hk hb hd => by
    obtain ⟨cs, h1, h2⟩ := hx a w hk hd
    unfold Oper.wp execOp
    rw [op_of hop ho]
    simp only [Sem.run_bind]
    rw [run_build (P := P) w t _ cs (by simpa using h1)]
    exact ⟨_, rfl, h2, Below.refl _ _⟩
variable {a : Act} {w : World} {c : Nat}
theorem tail_build (t : TypeId) (parts : Array (Nat × Operand)) (cs : Array Value) (d : Tmp) (hop : (ops[i]?).map (fun o => (o.op, o.guard)) = some (.build t parts, none)) (hd : (ops[i]?).bind (·.dst) = some d)
    (hb : P.built t (parts.map fun (i, x) => (i, a.eval x)).toList = some cs) (h : Tail P ops Q c (i + 1) (a.put (some d) (.agg cs)) w) : Tail P ops Q (c + 1) i a w :=
  tail_op (fun _ _ => True) hop fun o ho e => by
    rw [ho] at hd
    simp only [Option.bind_some] at hd
    unfold Oper.wp execOp
    rw [e]
    simp only [Sem.run_bind]
    rw [run_build (P := P) w t _ cs (by simpa using hb)]
    simp only [Result.andThen_ok, Sem.run_pure, Oper.upon, hd]
    exact h
theorem tail_storeN (t : TypeId) (x y : Operand) (g : Nat) (l old : List Value) (hop : (ops[i]?).map (fun o => (o.op, o.guard)) = some (.store t x y, none)) (hdst : (ops[i]?).map (·.dst) = some none) (hs : (P.info? t).map (·.size) = some l.length) (hx : a.eval x = .pointer (some ⟨g, 0, none⟩)) (hy : a.eval y = .agg l.toArray)
    (hc : CellsN w g old) (hl : old.length = l.length) (hf : Free5 w g) (h1 : Ones l) (h : Tail P ops Q c (i + 1) a (setN w g 0 l)) : Tail P ops Q (c + 1) i a w :=
  tail_op (fun _ _ => True) hop fun o ho e => by
    rw [ho] at hdst
    simp only [Option.map_some, Option.some.injEq] at hdst
    unfold Oper.wp execOp
    rw [e]
    simp only [hx, hy, Sem.run_bind, storeN t g w old l hs hc hl hf h1, Result.andThen_ok, Sem.run_pure, Oper.upon, hdst]
    exact h
end
end Go.Proofs.YtebjljiklacolaaGreat
end
section
namespace Go.Proofs.YtebjljiklacolaaGreat
set_option linter.unusedVariables false
set_option linter.unusedSimpArgs false

structure Va where
  kind : Int
  time : Int
  node : Int
  dead : Bool
  text : List UInt8
  plus : List Int
  minus : List Int
  flags : UInt64
  deriving DecidableEq

def zeroV : Va := ⟨0, 0, 0, false, [], [], [], 0⟩
def inReg (v : Va) : Bool := (decide (0 ≤ v.time) && decide (v.time ≤ 2147483647)) && (decide (0 ≤ v.node) && decide (v.node ≤ 7)) && decide ((v.text.length : Int) ≤ 8) && (!v.dead || v.text == [])
def okNum (x : Int) : Bool := decide (0 ≤ x) && decide (x ≤ 65535)
def okRow (l : List Int) : Bool := decide (l.length = 8) && l.all okNum
def inCount (v : Va) : Bool := okRow v.plus && okRow v.minus
def onlyReg (v : Va) : Va := ⟨1, v.time, v.node, v.dead, v.text, [], [], 0⟩
def onlyCount (v : Va) : Va := ⟨2, 0, 0, false, [], v.plus, v.minus, 0⟩
def onlyFlags (v : Va) : Va := ⟨3, 0, 0, false, [], [], [], v.flags⟩
/-- Its kind, if it is a value; else 0. -/
def kindN (v : Va) : Nat :=
  if v.kind = 1 then (if (inReg v && decide (v = onlyReg v)) = true then 1 else 0)
  else if v.kind = 2 then (if (inCount v && decide (v = onlyCount v)) = true then 2 else 0)
  else if v.kind = 3 then (if decide (v = onlyFlags v) = true then 3 else 0) else 0
def okV (v : Va) : Bool := decide (kindN v ≠ 0)
def cmpI (a b : Int) : Int := if a < b then -1 else if b < a then 1 else 0
def cmpT (a b : List UInt8) : Int := if Op.bytesLess a b = true then -1 else if a = b then 0 else 1
def rankI (b : Bool) : Int := if b = true then 1 else 0
def behindL : List Int → Bool
  | [] => false
  | x :: r => if x = 0 then behindL r else decide (0 < x)
def ordL (a b : Va) : List Int := [cmpI a.time b.time, cmpI a.node b.node, cmpI (rankI a.dead) (rankI b.dead), cmpT a.text b.text]
def behindB (a b : Va) : Bool := behindL (ordL a b)
def maxI (a b : Int) : Int := if b > a then b else a
def joinReg (a b : Va) : Va := if behindB a b = true then onlyReg a else onlyReg b
def joinCount (a b : Va) : Va := ⟨2, 0, 0, false, [], List.zipWith maxI a.plus b.plus, List.zipWith maxI a.minus b.minus, 0⟩
def joinFlags (a b : Va) : Va := ⟨3, 0, 0, false, [], [], [], a.flags ||| b.flags⟩
def joinV (a b : Va) : Va := if a.kind = 1 then joinReg a b else if a.kind = 2 then joinCount a b else joinFlags a b
def joinE (a b : Va) : Int := if (okV a && okV b) = true then (if a.kind = b.kind then 0 else 3) else 2
def joinF (a b : Va) : Va := if joinE a b = 0 then joinV a b else zeroV
def belowB (a b : Va) : Bool := decide (joinE a b = 0) && decide (joinF a b = b)
def leastF (k : Int) : Va := if k = 1 then ⟨1, 0, 0, false, [], [], [], 0⟩ else if k = 2 then ⟨2, 0, 0, false, [], List.replicate 8 0, List.replicate 8 0, 0⟩ else if k = 3 then ⟨3, 0, 0, false, [], [], [], 0⟩ else zeroV
def leastE (k : Int) : Int := if k = 1 ∨ k = 2 ∨ k = 3 then 0 else 3
def sumN (v : Va) : Int := if kindN v = 2 then v.plus.sum - v.minus.sum else 0

/-! ### Texts, byte by byte -/
theorem less_irrefl : ∀ a : List UInt8, Op.bytesLess a a = false
  | [] => rfl
  | x :: r => by unfold Op.bytesLess; rw [less_irrefl r]; simp
theorem less_trans : ∀ {a b c : List UInt8}, Op.bytesLess a b = true → Op.bytesLess b c = true → Op.bytesLess a c = true
  | _, _, [], _, h => by unfold Op.bytesLess at h; simp at h
  | [], _, _ :: _, _, _ => by unfold Op.bytesLess; rfl
  | _ :: _, [], _ :: _, h, _ => by unfold Op.bytesLess at h; simp at h
  | x :: a, y :: b, z :: c, h1, h2 => by
    unfold Op.bytesLess at h1 h2 ⊢
    simp only [Bool.or_eq_true, decide_eq_true_eq, Bool.and_eq_true, beq_iff_eq] at h1 h2 ⊢
    rcases h1 with h1 | ⟨rfl, h1⟩
    · rcases h2 with h2 | ⟨rfl, h2⟩
      · exact .inl (UInt8.lt_trans h1 h2)
      · exact .inl h1
    · rcases h2 with h2 | ⟨rfl, h2⟩
      · exact .inl h2
      · exact .inr ⟨rfl, less_trans h1 h2⟩
theorem less_total : ∀ (a b : List UInt8), Op.bytesLess a b = false → Op.bytesLess b a = false → a = b
  | [], [], _, _ => rfl
  | [], _ :: _, h, _ => by unfold Op.bytesLess at h; simp at h
  | _ :: _, [], _, h => by unfold Op.bytesLess at h; simp at h
  | x :: a, y :: b, h1, h2 => by
    unfold Op.bytesLess at h1 h2
    simp only [Bool.or_eq_false_iff, decide_eq_false_iff_not, Bool.and_eq_false_imp, beq_iff_eq] at h1 h2
    have e : x = y := by
      have a1 := h1.1
      have a2 := h2.1
      exact UInt8.le_antisymm (UInt8.not_lt.1 a2) (UInt8.not_lt.1 a1)
    subst e
    rw [less_total a b (h1.2 rfl) (h2.2 rfl)]
theorem less_asymm {a b : List UInt8} (h : Op.bytesLess a b = true) : Op.bytesLess b a = false := by
  cases h' : Op.bytesLess b a with
  | false => rfl
  | true => have := less_trans h h'; rw [less_irrefl] at this; cases this

/-! ### What is behind -/
theorem cmpI_zero {a b : Int} : cmpI a b = 0 ↔ a = b := by unfold cmpI; split <;> (try split) <;> omega
theorem cmpI_pos {a b : Int} : 0 < cmpI a b ↔ b < a := by unfold cmpI; split <;> (try split) <;> omega
theorem cmpT_zero {a b : List UInt8} : cmpT a b = 0 ↔ a = b := by
  unfold cmpT
  constructor
  · intro h
    split at h
    · simp at h
    · split at h
      · assumption
      · simp at h
  · rintro rfl; rw [less_irrefl]; simp
theorem cmpT_pos {a b : List UInt8} : 0 < cmpT a b ↔ Op.bytesLess b a = true := by
  unfold cmpT
  constructor
  · intro h
    split at h
    · simp at h
    · split at h
      · simp at h
      · rename_i h1 h2
        cases h' : Op.bytesLess b a with
        | true => rfl
        | false => exact absurd (less_total a b (by simpa using h1) h') h2
  · intro h
    rw [less_asymm h]
    have : a ≠ b := by rintro rfl; rw [less_irrefl] at h; cases h
    simp [this]
def Behind (a b : Va) : Prop := b.time < a.time ∨ (a.time = b.time ∧ (b.node < a.node ∨ (a.node = b.node ∧ (rankI b.dead < rankI a.dead ∨ (rankI a.dead = rankI b.dead ∧ Op.bytesLess b.text a.text = true)))))
theorem behindB_iff (a b : Va) : behindB a b = true ↔ Behind a b := by
  unfold behindB ordL Behind behindL behindL behindL behindL behindL
  by_cases h1 : cmpI a.time b.time = 0
  · rw [if_pos h1]
    have e1 := cmpI_zero.1 h1
    by_cases h2 : cmpI a.node b.node = 0
    · rw [if_pos h2]
      have e2 := cmpI_zero.1 h2
      by_cases h3 : cmpI (rankI a.dead) (rankI b.dead) = 0
      · rw [if_pos h3]
        have e3 := cmpI_zero.1 h3
        by_cases h4 : cmpT a.text b.text = 0
        · rw [if_pos h4]
          have e4 := cmpT_zero.1 h4
          rw [e4, less_irrefl]
          simp [e1, e2, e3]
        · rw [if_neg h4, decide_eq_true_eq, cmpT_pos]
          constructor
          · intro h; exact .inr ⟨e1, .inr ⟨e2, .inr ⟨e3, h⟩⟩⟩
          · rintro (h | ⟨_, h | ⟨_, h | ⟨_, h⟩⟩⟩)
            · omega
            · omega
            · omega
            · exact h
      · rw [if_neg h3, decide_eq_true_eq, cmpI_pos]
        have e3 : rankI a.dead ≠ rankI b.dead := fun e => h3 (cmpI_zero.2 e)
        constructor
        · intro h; exact .inr ⟨e1, .inr ⟨e2, .inl h⟩⟩
        · rintro (h | ⟨_, h | ⟨_, h | ⟨h, _⟩⟩⟩)
          · omega
          · omega
          · exact h
          · exact absurd h e3
    · rw [if_neg h2, decide_eq_true_eq, cmpI_pos]
      have e2 : a.node ≠ b.node := fun e => h2 (cmpI_zero.2 e)
      constructor
      · intro h; exact .inr ⟨e1, .inl h⟩
      · rintro (h | ⟨_, h | ⟨h, _⟩⟩)
        · omega
        · exact h
        · exact absurd h e2
  · rw [if_neg h1, decide_eq_true_eq, cmpI_pos]
    have e1 : a.time ≠ b.time := fun e => h1 (cmpI_zero.2 e)
    constructor
    · intro h; exact .inl h
    · rintro (h | ⟨h, _⟩)
      · exact h
      · exact absurd h e1
theorem behind_irrefl (a : Va) : ¬ Behind a a := by
  rintro (h | ⟨_, h | ⟨_, h | ⟨_, h⟩⟩⟩)
  · omega
  · omega
  · omega
  · rw [less_irrefl] at h; cases h
theorem behind_trans {a b c : Va} (h1 : Behind a b) (h2 : Behind b c) : Behind a c := by
  unfold Behind at *
  rcases h1 with h1 | ⟨e1, h1 | ⟨f1, h1 | ⟨g1, h1⟩⟩⟩ <;> rcases h2 with h2 | ⟨e2, h2 | ⟨f2, h2 | ⟨g2, h2⟩⟩⟩
  all_goals first
    | exact .inl (by omega)
    | exact .inr ⟨by omega, .inl (by omega)⟩
    | exact .inr ⟨by omega, .inr ⟨by omega, .inl (by omega)⟩⟩
    | exact .inr ⟨by omega, .inr ⟨by omega, .inr ⟨by omega, less_trans h2 h1⟩⟩⟩
theorem rankI_inj {a b : Bool} (h : rankI a = rankI b) : a = b := by cases a <;> cases b <;> simp [rankI] at h <;> rfl
theorem behind_total {a b : Va} (h1 : ¬ Behind a b) (h2 : ¬ Behind b a) : onlyReg a = onlyReg b := by
  unfold Behind at h1 h2
  have e1 : a.time = b.time := by omega
  have h1' := fun h => h1 (.inr ⟨e1, h⟩)
  have h2' := fun h => h2 (.inr ⟨e1.symm, h⟩)
  have e2 : a.node = b.node := by
    have := fun h => h1' (.inl h)
    have := fun h => h2' (.inl h)
    omega
  have h1'' := fun h => h1' (.inr ⟨e2, h⟩)
  have h2'' := fun h => h2' (.inr ⟨e2.symm, h⟩)
  have e3 : rankI a.dead = rankI b.dead := by
    have := fun h => h1'' (.inl h)
    have := fun h => h2'' (.inl h)
    omega
  have e4 : a.text = b.text := by
    refine less_total _ _ ?_ ?_
    · cases h : Op.bytesLess a.text b.text with
      | false => rfl
      | true => exact absurd (.inr ⟨e3.symm, h⟩) h2''
    · cases h : Op.bytesLess b.text a.text with
      | false => rfl
      | true => exact absurd (.inr ⟨e3, h⟩) h1''
  unfold onlyReg
  rw [e1, e2, e4, rankI_inj e3]

/-! ### What a value is -/
theorem ok_reg {v : Va} (h : okV v = true) (hk : v.kind = 1) : inReg v = true ∧ v = onlyReg v := by
  unfold okV kindN at h
  rw [if_pos hk] at h
  by_cases c : (inReg v && decide (v = onlyReg v)) = true
  · simpa using c
  · rw [if_neg c] at h; simp at h
theorem ok_count {v : Va} (h : okV v = true) (hk : v.kind = 2) : inCount v = true ∧ v = onlyCount v := by
  unfold okV kindN at h
  rw [if_neg (by omega), if_pos hk] at h
  by_cases c : (inCount v && decide (v = onlyCount v)) = true
  · simpa using c
  · rw [if_neg c] at h; simp at h
theorem ok_flags {v : Va} (h : okV v = true) (hk : v.kind = 3) : v = onlyFlags v := by
  unfold okV kindN at h
  rw [if_neg (by omega), if_neg (by omega), if_pos hk] at h
  by_cases c : decide (v = onlyFlags v) = true
  · simpa using c
  · rw [if_neg c] at h; simp at h
theorem ok_kind {v : Va} (h : okV v = true) : v.kind = 1 ∨ v.kind = 2 ∨ v.kind = 3 := by
  by_cases h1 : v.kind = 1
  · exact .inl h1
  · by_cases h2 : v.kind = 2
    · exact .inr (.inl h2)
    · by_cases h3 : v.kind = 3
      · exact .inr (.inr h3)
      · unfold okV kindN at h
        rw [if_neg h1, if_neg h2, if_neg h3] at h
        simp at h
theorem kindN_ok {v : Va} (h : okV v = true) : (kindN v : Int) = v.kind := by
  rcases ok_kind h with hk | hk | hk
  · have := ok_reg h hk
    unfold kindN
    rw [if_pos hk, if_pos (by simpa using this), hk]; rfl
  · have := ok_count h hk
    unfold kindN
    rw [if_neg (by omega), if_pos hk, if_pos (by simpa using this), hk]; rfl
  · have := ok_flags h hk
    unfold kindN
    rw [if_neg (by omega), if_neg (by omega), if_pos hk, if_pos (by simpa using this), hk]; rfl
theorem reg_ok {v : Va} (hk : v.kind = 1) (h1 : inReg v = true) (h2 : v = onlyReg v) : okV v = true := by
  unfold okV kindN
  rw [if_pos hk, if_pos (by rw [h1]; simpa using h2)]; rfl
theorem count_ok {v : Va} (hk : v.kind = 2) (h1 : inCount v = true) (h2 : v = onlyCount v) : okV v = true := by
  unfold okV kindN
  rw [if_neg (by omega), if_pos hk, if_pos (by rw [h1]; simpa using h2)]; rfl
theorem flags_ok {v : Va} (hk : v.kind = 3) (h2 : v = onlyFlags v) : okV v = true := by
  unfold okV kindN
  rw [if_neg (by omega), if_neg (by omega), if_pos hk, if_pos (by simpa using h2)]; rfl

/-! ### Numbers, place by place -/
theorem maxI_comm (a b : Int) : maxI a b = maxI b a := by unfold maxI; split <;> split <;> omega
theorem maxI_assoc (a b c : Int) : maxI (maxI a b) c = maxI a (maxI b c) := by unfold maxI; (repeat' split) <;> omega
theorem maxI_self (a : Int) : maxI a a = a := by unfold maxI; split <;> rfl
theorem zip_comm : ∀ (l m : List Int), List.zipWith maxI l m = List.zipWith maxI m l
  | [], [] => rfl
  | [], _ :: _ => rfl
  | _ :: _, [] => rfl
  | x :: l, y :: m => by rw [List.zipWith_cons_cons, List.zipWith_cons_cons, maxI_comm, zip_comm l m]
theorem zip_assoc : ∀ (l m n : List Int), List.zipWith maxI (List.zipWith maxI l m) n = List.zipWith maxI l (List.zipWith maxI m n)
  | [], _, _ => by simp
  | _ :: _, [], _ => by simp
  | _ :: _, _ :: _, [] => by simp
  | x :: l, y :: m, z :: n => by simp only [List.zipWith_cons_cons, maxI_assoc, zip_assoc l m n]
theorem zip_self : ∀ (l : List Int), List.zipWith maxI l l = l
  | [] => rfl
  | x :: l => by rw [List.zipWith_cons_cons, maxI_self, zip_self l]
theorem okRow_len {l : List Int} (h : okRow l = true) : l.length = 8 := by unfold okRow at h; simp only [Bool.and_eq_true, decide_eq_true_eq] at h; exact h.1
theorem all_zip : ∀ (l m : List Int), l.all okNum = true → m.all okNum = true → (List.zipWith maxI l m).all okNum = true
  | [], _, _, _ => by simp
  | _ :: _, [], _, _ => by simp
  | x :: l, y :: m, h1, h2 => by
    rw [List.all_cons, Bool.and_eq_true] at h1 h2
    rw [List.zipWith_cons_cons, List.all_cons, all_zip l m h1.2 h2.2, Bool.and_true]
    unfold maxI
    split
    · exact h2.1
    · exact h1.1
theorem okRow_zip {l m : List Int} (h1 : okRow l = true) (h2 : okRow m = true) : okRow (List.zipWith maxI l m) = true := by
  have l1 := okRow_len h1
  have l2 := okRow_len h2
  unfold okRow at *
  simp only [Bool.and_eq_true, decide_eq_true_eq] at *
  exact ⟨by rw [List.length_zipWith, l1, l2]; rfl, all_zip l m h1.2 h2.2⟩

/-! ### Joins -/
theorem joinE_zero {a b : Va} : joinE a b = 0 ↔ okV a = true ∧ okV b = true ∧ a.kind = b.kind := by
  unfold joinE
  constructor
  · intro h
    split at h
    · rename_i h1
      simp only [Bool.and_eq_true] at h1
      split at h
      · exact ⟨h1.1, h1.2, by assumption⟩
      · simp at h
    · simp at h
  · rintro ⟨h1, h2, h3⟩
    simp [h1, h2, h3]
theorem joinE_comm (a b : Va) : joinE a b = joinE b a := by
  unfold joinE
  rw [Bool.and_comm]
  by_cases h : a.kind = b.kind
  · simp [h]
  · simp [h, Ne.symm h]
theorem joinF_ok {a b : Va} (h : joinE a b = 0) : joinF a b = joinV a b := by unfold joinF; rw [if_pos h]
theorem joinV_reg {a b : Va} (h : a.kind = 1) : joinV a b = joinReg a b := by unfold joinV; rw [if_pos h]
theorem joinV_count {a b : Va} (h : a.kind = 2) : joinV a b = joinCount a b := by unfold joinV; rw [if_neg (by omega), if_pos h]
theorem joinV_flags {a b : Va} (h : a.kind = 3) : joinV a b = joinFlags a b := by unfold joinV; rw [if_neg (by omega), if_neg (by omega)]
theorem reg_either (a b : Va) (ha : a = onlyReg a) (hb : b = onlyReg b) : joinReg a b = a ∨ joinReg a b = b := by
  unfold joinReg
  split
  · exact .inl ha.symm
  · exact .inr hb.symm
theorem join_ok {a b : Va} (h : joinE a b = 0) : okV (joinF a b) = true ∧ (joinF a b).kind = a.kind := by
  obtain ⟨ha, hb, hk⟩ := joinE_zero.1 h
  rw [joinF_ok h]
  rcases ok_kind ha with k | k | k
  · rw [joinV_reg k]
    rcases reg_either a b (ok_reg ha k).2 (ok_reg hb (by omega)).2 with e | e
    · rw [e]; exact ⟨ha, rfl⟩
    · rw [e]; exact ⟨hb, hk.symm⟩
  · rw [joinV_count k]
    have h1 := (ok_count ha k).1
    have h2 := (ok_count hb (by omega)).1
    unfold inCount at h1 h2
    rw [Bool.and_eq_true] at h1 h2
    refine ⟨count_ok rfl ?_ rfl, k.symm⟩
    unfold inCount joinCount
    rw [Bool.and_eq_true]
    exact ⟨okRow_zip h1.1 h2.1, okRow_zip h1.2 h2.2⟩
  · rw [joinV_flags k]
    exact ⟨flags_ok rfl rfl, k.symm⟩
theorem join_comm {a b : Va} (h : joinE a b = 0) : joinF a b = joinF b a := by
  have h' : joinE b a = 0 := by rw [joinE_comm]; exact h
  obtain ⟨ha, hb, hk⟩ := joinE_zero.1 h
  rw [joinF_ok h, joinF_ok h']
  rcases ok_kind ha with k | k | k
  · rw [joinV_reg k, joinV_reg (by omega)]
    unfold joinReg
    by_cases c : behindB a b = true
    · have c' : ¬ behindB b a = true := fun c' => behind_irrefl a (behind_trans ((behindB_iff _ _).1 c) ((behindB_iff _ _).1 c'))
      rw [if_pos c, if_neg c']
    · rw [if_neg c]
      by_cases c' : behindB b a = true
      · rw [if_pos c']
      · rw [if_neg c']
        exact (behind_total (fun x => c ((behindB_iff _ _).2 x)) (fun x => c' ((behindB_iff _ _).2 x))).symm
  · rw [joinV_count k, joinV_count (by omega)]
    unfold joinCount
    rw [zip_comm a.plus, zip_comm a.minus]
  · rw [joinV_flags k, joinV_flags (by omega)]
    unfold joinFlags
    rw [UInt64.or_comm]
theorem join_self {a : Va} (h : okV a = true) : joinE a a = 0 ∧ joinF a a = a := by
  have h0 : joinE a a = 0 := joinE_zero.2 ⟨h, h, rfl⟩
  refine ⟨h0, ?_⟩
  rw [joinF_ok h0]
  rcases ok_kind h with k | k | k
  · rw [joinV_reg k]
    rcases reg_either a a (ok_reg h k).2 (ok_reg h k).2 with e | e <;> exact e
  · rw [joinV_count k]
    unfold joinCount
    rw [zip_self, zip_self]
    exact (ok_count h k).2.symm
  · rw [joinV_flags k]
    unfold joinFlags
    rw [UInt64.or_self]
    exact (ok_flags h k).symm
theorem joinReg_assoc (a b c : Va) (ha : a = onlyReg a) (hb : b = onlyReg b) (hc : c = onlyReg c) : joinReg (joinReg a b) c = joinReg a (joinReg b c) := by
  have key : ∀ x y : Va, behindB x y = false → behindB y x = false → x = onlyReg x → y = onlyReg y → x = y := fun x y h1 h2 hx hy => by
    rw [hx, hy]; exact behind_total (fun z => by rw [(behindB_iff _ _).2 z] at h1; cases h1) (fun z => by rw [(behindB_iff _ _).2 z] at h2; cases h2)
  have tr : ∀ x y z : Va, behindB x y = true → behindB y z = true → behindB x z = true := fun x y z h1 h2 => (behindB_iff _ _).2 (behind_trans ((behindB_iff _ _).1 h1) ((behindB_iff _ _).1 h2))
  have ir : ∀ x : Va, behindB x x = false := fun x => by cases h : behindB x x with | false => rfl | true => exact absurd ((behindB_iff _ _).1 h) (behind_irrefl x)
  have E : ∀ x y : Va, x = onlyReg x → y = onlyReg y → joinReg x y = if behindB x y = true then x else y := fun x y hx hy => by unfold joinReg; rw [← hx, ← hy]
  have ntr : ∀ x y z : Va, x = onlyReg x → y = onlyReg y → behindB x y = false → behindB y z = false → behindB x z = false := by
    intro x y z hx hy h1 h2
    cases h : behindB x z with
    | false => rfl
    | true =>
      cases h3 : behindB y x with
      | true => rw [tr y x z h3 h] at h2; cases h2
      | false => rw [key x y h1 h3 hx hy, h2] at h; cases h
  have or_ : ∀ x y : Va, x = onlyReg x → y = onlyReg y → joinReg x y = onlyReg (joinReg x y) := fun x y hx hy => by rcases reg_either x y hx hy with e | e <;> rw [e] <;> assumption
  rw [E _ _ (or_ a b ha hb) hc, E _ _ ha (or_ b c hb hc), E a b ha hb, E b c hb hc]
  cases h1 : behindB a b with
  | true =>
    rw [if_pos rfl]
    cases h2 : behindB b c with
    | true => rw [if_pos rfl, tr a b c h1 h2, h1]; simp
    | false => simp
  | false =>
    cases h2 : behindB b c with
    | true => simp [h1, h2]
    | false => simp [ntr a b c ha hb h1 h2, h2]
theorem join_assoc {a b c : Va} (h1 : joinE a b = 0) (h2 : joinE b c = 0) : joinE (joinF a b) c = 0 ∧ joinE a (joinF b c) = 0 ∧ joinF (joinF a b) c = joinF a (joinF b c) := by
  obtain ⟨ha, hb, hk1⟩ := joinE_zero.1 h1
  obtain ⟨_, hc, hk2⟩ := joinE_zero.1 h2
  obtain ⟨o1, k1⟩ := join_ok h1
  obtain ⟨o2, k2⟩ := join_ok h2
  have h3 : joinE (joinF a b) c = 0 := joinE_zero.2 ⟨o1, hc, by omega⟩
  have h4 : joinE a (joinF b c) = 0 := joinE_zero.2 ⟨ha, o2, by omega⟩
  refine ⟨h3, h4, ?_⟩
  rw [joinF_ok h3, joinF_ok h4]
  rcases ok_kind ha with k | k | k
  · rw [joinV_reg (by omega), joinV_reg k, joinF_ok h1, joinF_ok h2, joinV_reg k, joinV_reg (by omega)]
    exact joinReg_assoc a b c (ok_reg ha k).2 (ok_reg hb (by omega)).2 (ok_reg hc (by omega)).2
  · rw [joinV_count (by omega), joinV_count k, joinF_ok h1, joinF_ok h2, joinV_count k, joinV_count (by omega)]
    unfold joinCount
    simp only [zip_assoc]
  · rw [joinV_flags (by omega), joinV_flags k, joinF_ok h1, joinF_ok h2, joinV_flags k, joinV_flags (by omega)]
    unfold joinFlags
    simp only [UInt64.or_assoc]

/-! ### Below -/
theorem below_iff {a b : Va} : belowB a b = true ↔ joinE a b = 0 ∧ joinF a b = b := by unfold belowB; simp
theorem below_join {a b : Va} (h : joinE a b = 0) : belowB a (joinF a b) = true := by
  obtain ⟨ha, hb, hk⟩ := joinE_zero.1 h
  obtain ⟨s1, s2⟩ := join_self ha
  obtain ⟨e1, e2, e3⟩ := join_assoc s1 h
  rw [below_iff]
  exact ⟨e2, by rw [← e3, s2]⟩
theorem below_join2 {a b : Va} (h : joinE a b = 0) : belowB b (joinF a b) = true := by
  rw [join_comm h]; exact below_join (by rw [joinE_comm]; exact h)
theorem below_trans {a b c : Va} (h1 : belowB a b = true) (h2 : belowB b c = true) : belowB a c = true := by
  rw [below_iff] at *
  obtain ⟨e1, e2, e3⟩ := join_assoc h1.1 h2.1
  rw [h1.2] at e3
  rw [h2.2] at e2 e3
  exact ⟨e2, e3.symm.trans rfl⟩
theorem below_both {a b c : Va} (h : joinE a b = 0) : (belowB a c && belowB b c) = belowB (joinF a b) c := by
  rw [Bool.eq_iff_iff, Bool.and_eq_true]
  constructor
  · rintro ⟨h1, h2⟩
    have g1 := below_iff.1 h1
    have g2 := below_iff.1 h2
    obtain ⟨e1, e2, e3⟩ := join_assoc h g2.1
    rw [g2.2, g1.2] at e3
    exact below_iff.2 ⟨e1, e3⟩
  · intro h1
    exact ⟨below_trans (below_join h) h1, below_trans (below_join2 h) h1⟩
theorem below_antisymm {a b : Va} (h1 : belowB a b = true) (h2 : belowB b a = true) : a = b := by
  have g1 := below_iff.1 h1
  have g2 := below_iff.1 h2
  have := join_comm g1.1
  rw [g1.2, g2.2] at this
  exact this.symm
theorem below_err {a b : Va} (h : joinE a b ≠ 0) : belowB a b = false := by unfold belowB; simp [h]

/-! ### The least -/
theorem zip_zero : ∀ (l : List Int) (n : Nat), l.length = n → l.all okNum = true → List.zipWith maxI (List.replicate n 0) l = l
  | [], n, h, _ => by subst h; rfl
  | x :: l, n, h, h2 => by
    subst h
    rw [List.all_cons, Bool.and_eq_true] at h2
    rw [List.length_cons, List.replicate_succ, List.zipWith_cons_cons, zip_zero l l.length rfl h2.2]
    have : 0 ≤ x := by have := h2.1; unfold okNum at this; simp only [Bool.and_eq_true, decide_eq_true_eq] at this; exact this.1
    unfold maxI
    split
    · rfl
    · rw [show x = 0 by omega]
theorem least_ok {k : Int} (h : k = 1 ∨ k = 2 ∨ k = 3) : okV (leastF k) = true ∧ (leastF k).kind = k := by
  rcases h with rfl | rfl | rfl <;> exact ⟨by decide, by decide⟩
theorem least_below {a : Va} (h : okV a = true) : leastE a.kind = 0 ∧ belowB (leastF a.kind) a = true := by
  have hk := ok_kind h
  obtain ⟨o1, o2⟩ := least_ok hk
  refine ⟨by unfold leastE; rw [if_pos hk], ?_⟩
  have h0 : joinE (leastF a.kind) a = 0 := joinE_zero.2 ⟨o1, h, o2⟩
  rw [below_iff]
  refine ⟨h0, ?_⟩
  rw [joinF_ok h0]
  rcases hk with k | k | k
  · rw [joinV_reg (by rw [o2]; exact k)]
    obtain ⟨r1, r2⟩ := ok_reg h k
    unfold joinReg
    rw [if_neg, ← r2]
    rw [behindB_iff, k]
    unfold inReg at r1
    simp only [Bool.and_eq_true, decide_eq_true_eq] at r1
    obtain ⟨⟨⟨⟨t1, _⟩, ⟨n1, _⟩⟩, _⟩, _⟩ := r1
    have hr : 0 ≤ rankI a.dead := by unfold rankI; split <;> omega
    rintro (c | ⟨_, c | ⟨_, c | ⟨_, c⟩⟩⟩)
    · have : a.time < 0 := c
      omega
    · have : a.node < 0 := c
      omega
    · have : rankI a.dead < 0 := c
      omega
    · have : Op.bytesLess a.text [] = true := c
      unfold Op.bytesLess at this
      cases a.text <;> simp at this
  · rw [joinV_count (by rw [o2]; exact k)]
    obtain ⟨r1, r2⟩ := ok_count h k
    unfold inCount okRow at r1
    simp only [Bool.and_eq_true, decide_eq_true_eq] at r1
    rw [k]
    show Va.mk 2 0 0 false [] (List.zipWith maxI (List.replicate 8 0) a.plus) (List.zipWith maxI (List.replicate 8 0) a.minus) 0 = a
    rw [zip_zero _ 8 r1.1.1 r1.1.2, zip_zero _ 8 r1.2.1 r1.2.2]
    exact r2.symm
  · rw [joinV_flags (by rw [o2]; exact k)]
    rw [k]
    show Va.mk 3 0 0 false [] [] [] (0 ||| a.flags) = a
    rw [UInt64.zero_or]
    exact (ok_flags h k).symm
end Go.Proofs.YtebjljiklacolaaGreat
end
section
namespace Go.Proofs.YtebjljiklacolaaGreat
open Go.RowKit
set_option linter.unusedVariables false

theorem getN_putL : ∀ (w n : Nat), n < 256 ^ w → getN (putL n w) = n
  | 0, n, h => by simp at h; simp [putL, getN, h]
  | w + 1, n, h => by
    have h1 : n / 256 < 256 ^ w := by rw [Nat.pow_succ] at h; omega
    have h2 := getN_putL w (n / 256) h1
    have h3 : (UInt8.ofNat n).toNat = n % 256 := by simp
    simp only [putL, getN, h2, h3]
    omega
theorem putL_getN : ∀ l : List UInt8, putL (getN l) l.length = l
  | [] => rfl
  | b :: r => by
    have h := putL_getN r
    have hb := b.toNat_lt
    have h1 : (b.toNat + 256 * getN r) / 256 = getN r := by omega
    have h2 : UInt8.ofNat (b.toNat + 256 * getN r) = b := by
      apply UInt8.toNat_inj.1
      simp
    simp only [getN, List.length_cons, putL, h1, h2, h]

theorem pow_le (wd : Nat) (h : wd ≤ 7) : 256 ^ wd ≤ 72057594037927936 := by
  have := Nat.pow_le_pow_right (n := 256) (by omega) h
  simpa using this

theorem put_yes (m wd : Nat) (w : World) (h1 : 1 ≤ wd) (h7 : wd ≤ 7) (hz : m < 256 ^ wd) :
    Calls Tryz.prog 40 #[.int .i64 (m : Int), .int .i64 (wd : Int)] w fun e w' => e = .returned (.tuple #[.string ⟨(putL m wd).toArray⟩, .int .i64 0]) ∧ Below w.heap.size w w' := by
  have hp := pow_le wd h7
  refine (put_any m wd w (by omega)).mono ?_
  rintro e w' ⟨rfl, hb⟩
  have hi : isWidthB (wd : Int) = true := by simp [isWidthB]; omega
  have ok : okPut (m : Int) (wd : Int) = true := by
    simp only [okPut, hi, Bool.true_and, Int.toNat_natCast, Bool.and_eq_true, decide_eq_true_eq]
    refine ⟨by omega, ?_⟩
    rw [show ((256 : Int) ^ wd) = ((256 ^ wd : Nat) : Int) by simp]
    omega
  exact ⟨by simp [putS, putE, ok], hb⟩
theorem put_no (n width : Int) (w : World) (hm : n ≤ 9223372036854775807) (h : okPut n width = false) :
    Calls Tryz.prog 40 #[.int .i64 n, .int .i64 width] w fun e w' => e = .returned (.tuple #[.string ⟨#[]⟩, .int .i64 1]) ∧ Below w.heap.size w w' := by
  refine (put_any n width w hm).mono ?_
  rintro e w' ⟨rfl, hb⟩
  exact ⟨by simp [putS, putE, h], hb⟩
theorem okPut_nat {n width : Int} (h : okPut n width = true) : ∃ m wd : Nat, n = m ∧ width = wd ∧ 1 ≤ wd ∧ wd ≤ 7 ∧ m < 256 ^ wd := by
  simp only [okPut, isWidthB, Bool.and_eq_true, decide_eq_true_eq] at h
  obtain ⟨⟨⟨h1, h7⟩, h0⟩, hz⟩ := h
  obtain ⟨m, rfl⟩ := Int.eq_ofNat_of_zero_le h0
  obtain ⟨wd, rfl⟩ := Int.eq_ofNat_of_zero_le (show 0 ≤ width by omega)
  refine ⟨m, wd, rfl, rfl, by omega, by omega, ?_⟩
  rw [Int.toNat_natCast, show ((256 : Int) ^ wd) = ((256 ^ wd : Nat) : Int) by simp] at hz
  omega
theorem get_yes (l : List UInt8) (at_ wd : Nat) (w : World) (hl : l.length ≤ 1000000000) (h1 : 1 ≤ wd) (h7 : wd ≤ 7) (hf : at_ + wd ≤ l.length) :
    Calls Tryz.prog 65 #[.string ⟨l.toArray⟩, .int .i64 (at_ : Int), .int .i64 (wd : Int)] w fun e w' => e = .returned (.tuple #[.int .i64 (getN ((l.drop at_).take wd) : Int), .int .i64 0]) ∧ Below w.heap.size w w' := by
  refine (get_any _ at_ wd w (by rw [size_mk]; exact hl)).mono ?_
  rintro e w' ⟨rfl, hb⟩
  have hi : isWidthB (wd : Int) = true := by simp [isWidthB]; omega
  have ok : okGet ⟨l.toArray⟩ (at_ : Int) (wd : Int) = true := by simp only [okGet, size_mk, Bool.and_eq_true, decide_eq_true_eq]; omega
  exact ⟨by simp [getV, getE, hi, ok], hb⟩
/-- Whether Get answers. -/
def fitsGet (l : List UInt8) (at_ wd : Int) : Bool := decide (1 ≤ wd) && decide (wd ≤ 7) && decide (0 ≤ at_) && decide (at_ + wd ≤ l.length)
theorem get_no (l : List UInt8) (at_ wd : Int) (w : World) (hl : l.length ≤ 1000000000) (h : fitsGet l at_ wd = false) :
    Calls Tryz.prog 65 #[.string ⟨l.toArray⟩, .int .i64 at_, .int .i64 wd] w fun e w' => ∃ k : Int, (k == 0) = false ∧ k = getE ⟨l.toArray⟩ at_ wd ∧ e = .returned (.tuple #[.int .i64 0, .int .i64 k]) ∧ Below w.heap.size w w' := by
  refine (get_any _ at_ wd w (by rw [size_mk]; exact hl)).mono ?_
  rintro e w' ⟨rfl, hb⟩
  have hn : ¬ (isWidthB wd = true ∧ okGet ⟨l.toArray⟩ at_ wd = true) := by
    rintro ⟨h1, h2⟩
    simp only [isWidthB, okGet, size_mk, Bool.and_eq_true, decide_eq_true_eq] at h1 h2
    simp only [fitsGet, Bool.and_eq_false_iff, decide_eq_false_iff_not] at h
    omega
  refine ⟨getE ⟨l.toArray⟩ at_ wd, ?_, rfl, by simp only [getV, if_neg hn], hb⟩
  unfold getE
  split
  · rename_i hi
    rw [if_neg (fun ho => hn ⟨hi, ho⟩)]
    rfl
  · rfl
theorem fitsGet_nat {l : List UInt8} {at_ wd : Int} (h : fitsGet l at_ wd = true) : ∃ a b : Nat, at_ = a ∧ wd = b ∧ 1 ≤ b ∧ b ≤ 7 ∧ a + b ≤ l.length := by
  simp only [fitsGet, Bool.and_eq_true, decide_eq_true_eq] at h
  obtain ⟨a, rfl⟩ := Int.eq_ofNat_of_zero_le h.1.2
  obtain ⟨b, rfl⟩ := Int.eq_ofNat_of_zero_le (show 0 ≤ wd by omega)
  exact ⟨a, b, rfl, rfl, by omega, by omega, by omega⟩
end Go.Proofs.YtebjljiklacolaaGreat
end
section
namespace Go.Proofs.YtebjljiklacolaaGreat
set_option linter.unusedVariables false
set_option linter.unusedSimpArgs false

structure En where
  key : List UInt8
  val : Va
  deriving DecidableEq

def zeroE : En := ⟨[], zeroV⟩
def zerosL (n : Nat) : List UInt8 := List.replicate n 0
def bitN (b : Bool) : Nat := if b = true then 1 else 0
def numsL : List Int → List UInt8
  | [] => []
  | n :: r => putL n.toNat 2 ++ numsL r
def dataL (v : Va) : List UInt8 :=
  if v.kind = 1 then putL v.time.toNat 4 ++ (putL v.node.toNat 1 ++ (putL (bitN v.dead) 1 ++ (putL v.text.length 1 ++ v.text)))
  else if v.kind = 2 then numsL v.plus ++ numsL v.minus
  else putL (v.flags.toNat % 4294967296) 4 ++ putL (v.flags.toNat / 4294967296) 4
def okE (E : En) : Bool := decide (1 ≤ E.key.length) && decide (E.key.length ≤ 8) && okV E.val
def headL (E : En) : List UInt8 := putL E.val.kind.toNat 1 ++ (putL E.key.length 1 ++ (E.key ++ zerosL (8 - E.key.length)))
def putEn (E : En) : List UInt8 := headL E ++ (dataL E.val ++ zerosL (32 - (dataL E.val).length))
def putF (E : En) : List UInt8 := if okE E = true then putEn E else []
def chkE (E : En) : Int := if okE E = true then 0 else 2
def lessE (a b : En) : Bool := if a.val.kind = b.val.kind then Op.bytesLess a.key b.key else decide (a.val.kind < b.val.kind)
def nameB (a b : En) : Bool := decide (a.val.kind = b.val.kind) && decide (a.key = b.key)
def joinEE (a b : En) : Int := if (okE a && okE b) = true then (if nameB a b = true then 0 else 3) else 2
def joinEF (a b : En) : En := if joinEE a b = 0 then ⟨a.key, joinV a.val b.val⟩ else zeroE

theorem length_zeros (n : Nat) : (zerosL n).length = n := by simp [zerosL]
theorem zeros_add (a b : Nat) : zerosL a ++ zerosL b = zerosL (a + b) := by simp [zerosL, List.replicate_append_replicate]
theorem length_nums : ∀ l : List Int, (numsL l).length = 2 * l.length
  | [] => rfl
  | n :: r => by rw [numsL, List.length_append, length_putL, length_nums r, List.length_cons]; omega

/-! ### Bytes that are read -/
def numsOf : Nat → List UInt8 → List Int
  | 0, _ => []
  | n + 1, s => (getN (s.take 2) : Int) :: numsOf n (s.drop 2)
def restOf : Nat → List UInt8 → List UInt8
  | 0, s => s
  | n + 1, s => restOf n (s.drop 2)
def regV (s : List UInt8) : Va := ⟨1, (getN (s.take 4) : Int), (getN ((s.drop 4).take 1) : Int), decide (getN (((s.drop 4).drop 1).take 1) = 1),
  ((((s.drop 4).drop 1).drop 1).drop 1).take (getN ((((s.drop 4).drop 1).drop 1).take 1)), [], [], 0⟩
def padOk (z room : Nat) (s : List UInt8) : Prop := z ≤ room ∧ (s.drop z).take (room - z) = zerosL (room - z)
instance (z room : Nat) (s : List UInt8) : Decidable (padOk z room s) := by unfold padOk; infer_instance
def regZ (s : List UInt8) : Nat := getN ((((s.drop 4).drop 1).drop 1).take 1)
def regS (s : List UInt8) : List UInt8 := (((s.drop 4).drop 1).drop 1).drop 1
def regOk (s : List UInt8) : Prop := getN (((s.drop 4).drop 1).take 1) ≤ 1 ∧ padOk (regZ s) 8 (regS s)
instance (s : List UInt8) : Decidable (regOk s) := by unfold regOk; infer_instance
def regR (s : List UInt8) : List UInt8 := ((regS s).drop (regZ s)).drop (8 - regZ s)
def countV (s : List UInt8) : Va := ⟨2, 0, 0, false, [], numsOf 8 s, numsOf 8 (restOf 8 s), 0⟩
def flagsV (s : List UInt8) : Va := ⟨3, 0, 0, false, [], [], [], UInt64.ofNat (getN (s.take 4) + 4294967296 * getN ((s.drop 4).take 4))⟩
def rdVal (kind : Nat) (s : List UInt8) : Option (Va × List UInt8) :=
  if kind = 1 then (if regOk s then some (regV s, regR s) else none)
  else if kind = 2 then some (countV s, restOf 8 (restOf 8 s))
  else if kind = 3 then some (flagsV s, (s.drop 4).drop 4)
  else none
def keyZ (s : List UInt8) : Nat := getN ((s.drop 1).take 1)
def keyS (s : List UInt8) : List UInt8 := (s.drop 1).drop 1
def keyOf (s : List UInt8) : List UInt8 := (keyS s).take (keyZ s)
def valS (s : List UInt8) : List UInt8 := ((keyS s).drop (keyZ s)).drop (8 - keyZ s)
def rdEn (s : List UInt8) : Option En :=
  if s.length = 42 ∧ padOk (keyZ s) 8 (keyS s) then
    match rdVal (getN (s.take 1)) (valS s) with
    | none => none
    | some (v, r) => if r = zerosL r.length ∧ okE ⟨keyOf s, v⟩ = true then some ⟨keyOf s, v⟩ else none
  else none

theorem num_cut (n : Nat) (s : List UInt8) (h : n ≤ s.length) : s = putL (getN (s.take n)) n ++ s.drop n := by
  have := putL_getN (s.take n)
  rw [List.length_take, Nat.min_eq_left h] at this
  rw [this, List.take_append_drop]
theorem pad_cut {z room : Nat} {s : List UInt8} (h : padOk z room s) : s = s.take z ++ (zerosL (room - z) ++ (s.drop z).drop (room - z)) := by
  rw [← h.2, List.take_append_drop, List.take_append_drop]
theorem take_put (n w : Nat) (t : List UInt8) : (putL n w ++ t).take w = putL n w := by
  rw [List.take_append_of_le_length (by rw [length_putL]; exact Nat.le_refl _), List.take_of_length_le (by rw [length_putL]; exact Nat.le_refl _)]
theorem drop_put (n w : Nat) (t : List UInt8) : (putL n w ++ t).drop w = t := by
  exact List.drop_left' (length_putL w n)
theorem get_put (n w : Nat) (t : List UInt8) (h : n < 256 ^ w) : getN ((putL n w ++ t).take w) = n := by rw [take_put, getN_putL w n h]
theorem nums_cut : ∀ (n : Nat) (s : List UInt8), 2 * n ≤ s.length → s = numsL (numsOf n s) ++ restOf n s
  | 0, s, _ => rfl
  | n + 1, s, h => by
    have h2 := nums_cut n (s.drop 2) (by rw [List.length_drop]; omega)
    rw [numsOf, numsL, restOf, Int.toNat_natCast, List.append_assoc, ← h2]
    exact num_cut 2 s (by omega)
theorem nums_put : ∀ (l : List Int) (t : List UInt8), l.all okNum = true → numsOf l.length (numsL l ++ t) = l ∧ restOf l.length (numsL l ++ t) = t
  | [], t, _ => ⟨rfl, rfl⟩
  | n :: r, t, h => by
    rw [List.all_cons, Bool.and_eq_true] at h
    have h1 := h.1
    simp only [okNum, Bool.and_eq_true, decide_eq_true_eq] at h1
    obtain ⟨e1, e2⟩ := nums_put r t h.2
    rw [List.length_cons, numsOf, restOf, numsL, List.append_assoc, drop_put, e1, e2, get_put _ _ _ (by omega)]
    exact ⟨by rw [Int.toNat_of_nonneg h1.1], rfl⟩
theorem length_rest : ∀ (n : Nat) (s : List UInt8), (restOf n s).length = s.length - 2 * n
  | 0, s => by simp [restOf]
  | n + 1, s => by rw [restOf, length_rest n, List.length_drop]; omega
theorem length_numsOf : ∀ (n : Nat) (s : List UInt8), (numsOf n s).length = n
  | 0, s => rfl
  | n + 1, s => by rw [numsOf, List.length_cons, length_numsOf]

theorem data_reg {v : Va} (h : v.kind = 1) : dataL v = putL v.time.toNat 4 ++ (putL v.node.toNat 1 ++ (putL (bitN v.dead) 1 ++ (putL v.text.length 1 ++ v.text))) := by rw [dataL, if_pos h]
theorem data_count {v : Va} (h : v.kind = 2) : dataL v = numsL v.plus ++ numsL v.minus := by rw [dataL, if_neg (by rw [h]; decide), if_pos h]
theorem data_flags {v : Va} (h : v.kind = 3) : dataL v = putL (v.flags.toNat % 4294967296) 4 ++ putL (v.flags.toNat / 4294967296) 4 := by rw [dataL, if_neg (by rw [h]; decide), if_neg (by rw [h]; decide)]

/-- What is read is put just so. -/
theorem val_put {k : Nat} {s r : List UInt8} {v : Va} (h : rdVal k s = some (v, r)) (hl : 32 ≤ s.length) : (∃ a, s = dataL v ++ (zerosL a ++ r)) ∧ v.kind = k := by
  unfold rdVal at h
  split at h
  · rename_i hk
    split at h
    · rename_i hr
      injection h with h
      injection h with h1 h2
      subst h1 h2
      refine ⟨⟨8 - regZ s, ?_⟩, by rw [hk]; rfl⟩
      rw [data_reg rfl]
      obtain ⟨hd, hp⟩ := hr
      have e5 : regS s = (regV s).text ++ (zerosL (8 - regZ s) ++ regR s) := pad_cut hp
      have hz : (regV s).text.length = regZ s := by
        show ((regS s).take (regZ s)).length = _
        rw [List.length_take]
        have := hp.1
        have : (regS s).length = s.length - 7 := by simp only [regS, List.length_drop]; omega
        omega
      have e4 : ((s.drop 4).drop 1).drop 1 = putL (regV s).text.length 1 ++ regS s := by
        rw [hz]; exact num_cut 1 _ (by simp; omega)
      have e3 : (s.drop 4).drop 1 = putL (bitN (regV s).dead) 1 ++ ((s.drop 4).drop 1).drop 1 := by
        have : bitN (regV s).dead = getN (((s.drop 4).drop 1).take 1) := by
          show bitN (decide (getN (((s.drop 4).drop 1).take 1) = 1)) = _
          unfold bitN
          by_cases h1 : getN (((s.drop 4).drop 1).take 1) = 1
          · rw [h1]; rfl
          · rw [if_neg (by simpa using h1)]; omega
        rw [this]; exact num_cut 1 _ (by simp; omega)
      have e2 : s.drop 4 = putL (regV s).node.toNat 1 ++ (s.drop 4).drop 1 := by
        show _ = putL (Int.toNat (getN ((s.drop 4).take 1) : Int)) 1 ++ _
        rw [Int.toNat_natCast]; exact num_cut 1 _ (by simp; omega)
      have e1 : s = putL (regV s).time.toNat 4 ++ s.drop 4 := by
        show _ = putL (Int.toNat (getN (s.take 4) : Int)) 4 ++ _
        rw [Int.toNat_natCast]; exact num_cut 4 _ (by omega)
      simp only [List.append_assoc]
      rw [← e5, ← e4, ← e3, ← e2]
      exact e1
    · cases h
  · split at h
    · rename_i hk
      injection h with h
      injection h with h1 h2
      subst h1 h2
      refine ⟨⟨0, ?_⟩, by rw [hk]; rfl⟩
      rw [data_count rfl]
      show s = (numsL (numsOf 8 s) ++ numsL (numsOf 8 (restOf 8 s))) ++ ([] ++ restOf 8 (restOf 8 s))
      rw [List.nil_append, List.append_assoc, ← nums_cut 8 (restOf 8 s) (by rw [length_rest]; omega)]
      exact nums_cut 8 s (by omega)
    · split at h
      · rename_i hk
        injection h with h
        injection h with h1 h2
        subst h1 h2
        refine ⟨⟨0, ?_⟩, by rw [hk]; rfl⟩
        rw [data_flags rfl]
        have g1 : getN (s.take 4) < 4294967296 := by
          have := getN_lt (s.take 4); rw [List.length_take, Nat.min_eq_left (by omega)] at this; exact this
        have g2 : getN ((s.drop 4).take 4) < 4294967296 := by
          have := getN_lt ((s.drop 4).take 4); rw [List.length_take, Nat.min_eq_left (by rw [List.length_drop]; omega)] at this; exact this
        have e : (flagsV s).flags.toNat = getN (s.take 4) + 4294967296 * getN ((s.drop 4).take 4) := by
          show (UInt64.ofNat _).toNat = _
          rw [UInt64.toNat_ofNat']
          exact Nat.mod_eq_of_lt (by omega)
        rw [e, show (getN (s.take 4) + 4294967296 * getN ((s.drop 4).take 4)) % 4294967296 = getN (s.take 4) by omega, show (getN (s.take 4) + 4294967296 * getN ((s.drop 4).take 4)) / 4294967296 = getN ((s.drop 4).take 4) by omega, List.append_assoc]
        show s = putL _ 4 ++ (putL _ 4 ++ ([] ++ (s.drop 4).drop 4))
        rw [List.nil_append, ← num_cut 4 (s.drop 4) (by rw [List.length_drop]; omega)]
        exact num_cut 4 s (by omega)
      · cases h

theorem length_data_le {v : Va} (h : okV v = true) : (dataL v).length ≤ 32 ∧ (v.kind = 1 → (dataL v).length = 7 + v.text.length ∧ v.text.length ≤ 8) ∧ (v.kind = 2 → (dataL v).length = 32) := by
  unfold okV kindN at h
  split at h
  · rename_i hk
    rw [data_reg hk]
    split at h
    · rename_i hi
      simp only [inReg, Bool.and_eq_true, decide_eq_true_eq] at hi
      have := hi.1.1.2
      simp only [List.length_append, length_putL]
      exact ⟨by omega, fun _ => ⟨by omega, by omega⟩, fun h2 => by rw [hk] at h2; exact absurd h2 (by decide)⟩
    · simp at h
  · split at h
    · rename_i hk
      rw [data_count hk]
      split at h
      · rename_i hi
        simp only [inCount, okRow, Bool.and_eq_true, decide_eq_true_eq] at hi
        have h1 := hi.1.1.1
        have h2 := hi.1.2.1
        simp only [List.length_append, length_nums, h1, h2]
        exact ⟨by omega, fun h1 => by rw [hk] at h1; exact absurd h1 (by decide), fun _ => trivial⟩
      · simp at h
    · split at h
      · rename_i h1 h2 hk
        rw [data_flags hk]
        simp only [List.length_append, length_putL]
        exact ⟨by omega, fun h => absurd h h1, fun h => absurd h h2⟩
      · simp at h

/-- What is put is read again. -/
theorem val_get {v : Va} (h : okV v = true) (n : Nat) (hn : (dataL v).length + n = 32) : ∃ m, rdVal v.kind.toNat (dataL v ++ zerosL n) = some (v, zerosL m) := by
  have hL := length_data_le h
  unfold okV kindN at h
  split at h
  · rename_i hk
    have hlen := (hL.2.1 hk).1
    have h8 := (hL.2.1 hk).2
    split at h
    · rename_i hi
      simp only [inReg, Bool.and_eq_true, decide_eq_true_eq] at hi
      obtain ⟨⟨⟨⟨ht, hn'⟩, _⟩, _⟩, ho⟩ := hi
      have e1 : getN ((dataL v ++ zerosL n).take 4) = v.time.toNat := by rw [data_reg hk, List.append_assoc, get_put _ _ _ (by omega)]
      have s1 : (dataL v ++ zerosL n).drop 4 = putL v.node.toNat 1 ++ (putL (bitN v.dead) 1 ++ (putL v.text.length 1 ++ (v.text ++ zerosL n))) := by rw [data_reg hk, List.append_assoc, drop_put]; simp only [List.append_assoc]
      have e2 : getN (((dataL v ++ zerosL n).drop 4).take 1) = v.node.toNat := by rw [s1, get_put _ _ _ (by omega)]
      have s2 : ((dataL v ++ zerosL n).drop 4).drop 1 = putL (bitN v.dead) 1 ++ (putL v.text.length 1 ++ (v.text ++ zerosL n)) := by rw [s1, drop_put]
      have e3 : getN ((((dataL v ++ zerosL n).drop 4).drop 1).take 1) = bitN v.dead := by rw [s2, get_put _ _ _ (by unfold bitN; split <;> omega)]
      have s3 : (((dataL v ++ zerosL n).drop 4).drop 1).drop 1 = putL v.text.length 1 ++ (v.text ++ zerosL n) := by rw [s2, drop_put]
      have e4 : regZ (dataL v ++ zerosL n) = v.text.length := by unfold regZ; rw [s3, get_put _ _ _ (by omega)]
      have s4 : regS (dataL v ++ zerosL n) = v.text ++ (zerosL (8 - v.text.length) ++ zerosL (n - (8 - v.text.length))) := by
        unfold regS; rw [s3, drop_put, zeros_add, show 8 - v.text.length + (n - (8 - v.text.length)) = n by omega]
      have ok : regOk (dataL v ++ zerosL n) := by
        refine ⟨by rw [e3]; unfold bitN; split <;> omega, ?_⟩
        rw [e4, s4]
        refine ⟨h8, ?_⟩
        rw [List.drop_left, List.take_append_of_le_length (by rw [length_zeros]; exact Nat.le_refl _), List.take_of_length_le (by rw [length_zeros]; exact Nat.le_refl _)]
      have hr : regR (dataL v ++ zerosL n) = zerosL (n - (8 - v.text.length)) := by
        unfold regR
        rw [e4, s4, List.drop_left]
        have := length_zeros (8 - v.text.length)
        conv => lhs; rw [← this]
        rw [this]
        conv => lhs; arg 1; rw [← this]
        exact List.drop_left
      have hv : regV (dataL v ++ zerosL n) = v := by
        have : regV (dataL v ++ zerosL n) = onlyReg v := by
          unfold regV onlyReg
          have ht' : (regS (dataL v ++ zerosL n)).take (regZ (dataL v ++ zerosL n)) = v.text := by rw [e4, s4, List.take_left]
          unfold regS regZ at ht'
          rw [e1, e2, e3, ht', Int.toNat_of_nonneg ht.1, Int.toNat_of_nonneg hn'.1]
          congr 1
          unfold bitN; cases v.dead <;> simp
        rw [this, ← ho]
      refine ⟨n - (8 - v.text.length), ?_⟩
      unfold rdVal
      rw [hk, if_pos (show Int.toNat 1 = 1 from rfl), if_pos ok, hv, hr]
    · simp at h
  · split at h
    · rename_i hk
      split at h
      · rename_i hi
        simp only [inCount, okRow, Bool.and_eq_true, decide_eq_true_eq] at hi
        obtain ⟨⟨⟨l1, a1⟩, ⟨l2, a2⟩⟩, ho⟩ := hi
        have hlen := hL.2.2 hk
        obtain ⟨p1, p2⟩ := nums_put v.plus (numsL v.minus ++ zerosL n) a1
        obtain ⟨m1, m2⟩ := nums_put v.minus (zerosL n) a2
        rw [l1] at p1 p2
        rw [l2] at m1 m2
        refine ⟨n, ?_⟩
        unfold rdVal
        rw [hk, if_neg (by decide), if_pos (show Int.toNat 2 = 2 from rfl), data_count hk, List.append_assoc]
        unfold countV
        rw [p1, p2, m1, m2]
        exact congrArg (fun x => some (x, zerosL n)) ho.symm
      · simp at h
    · split at h
      · rename_i hk
        split at h
        · rename_i ho
          simp only [decide_eq_true_eq] at ho
          refine ⟨n, ?_⟩
          have hf : v.flags.toNat < 18446744073709551616 := v.flags.toNat_lt
          unfold rdVal
          rw [hk, if_neg (by decide), if_neg (by decide), if_pos (show Int.toNat 3 = 3 from rfl), data_flags hk, List.append_assoc]
          unfold flagsV
          rw [get_put _ _ _ (by omega), drop_put, get_put _ _ _ (by omega), drop_put, show v.flags.toNat % 4294967296 + 4294967296 * (v.flags.toNat / 4294967296) = v.flags.toNat by omega, UInt64.ofNat_toNat]
          exact congrArg (fun x => some (x, zerosL n)) ho.symm
        · simp at h
      · simp at h

theorem length_head {E : En} (h : okE E = true) : (headL E).length = 10 := by
  simp only [okE, Bool.and_eq_true, decide_eq_true_eq] at h
  simp only [headL, List.length_append, length_putL, length_zeros]
  omega
theorem length_putEn {E : En} (h : okE E = true) : (putEn E).length = 42 := by
  have h1 := length_head h
  simp only [okE, Bool.and_eq_true, decide_eq_true_eq] at h
  have h2 := (length_data_le h.2).1
  simp only [putEn, List.length_append, length_zeros, h1]
  omega
theorem kind_lt {v : Va} (h : okV v = true) : 1 ≤ v.kind ∧ v.kind ≤ 3 := by
  unfold okV kindN at h
  split at h
  · omega
  · split at h
    · omega
    · split at h
      · omega
      · simp at h

/-- What is put is got again. -/
theorem rd_putEn {E : En} (h : okE E = true) : rdEn (putEn E) = some E := by
  have hL := length_putEn h
  have hh := h
  simp only [okE, Bool.and_eq_true, decide_eq_true_eq] at hh
  obtain ⟨⟨h1, h8⟩, hv⟩ := hh
  have hk := kind_lt hv
  have e0 : getN ((putEn E).take 1) = E.val.kind.toNat := by unfold putEn headL; rw [List.append_assoc, get_put _ _ _ (by omega)]
  have s1 : (putEn E).drop 1 = putL E.key.length 1 ++ (E.key ++ (zerosL (8 - E.key.length) ++ (dataL E.val ++ zerosL (32 - (dataL E.val).length)))) := by unfold putEn headL; rw [List.append_assoc, drop_put]; simp only [List.append_assoc]
  have e1 : keyZ (putEn E) = E.key.length := by unfold keyZ; rw [s1, get_put _ _ _ (by omega)]
  have s2 : keyS (putEn E) = E.key ++ (zerosL (8 - E.key.length) ++ (dataL E.val ++ zerosL (32 - (dataL E.val).length))) := by unfold keyS; rw [s1, drop_put]
  have hp : padOk (keyZ (putEn E)) 8 (keyS (putEn E)) := by
    rw [e1, s2]
    refine ⟨h8, ?_⟩
    rw [List.drop_left, List.take_append_of_le_length (by rw [length_zeros]; exact Nat.le_refl _), List.take_of_length_le (by rw [length_zeros]; exact Nat.le_refl _)]
  have hkey : keyOf (putEn E) = E.key := by unfold keyOf; rw [e1, s2, List.take_left]
  have hvs : valS (putEn E) = dataL E.val ++ zerosL (32 - (dataL E.val).length) := by
    unfold valS
    rw [e1, s2, List.drop_left]
    have := length_zeros (8 - E.key.length)
    conv => lhs; arg 1; rw [← this]
    exact List.drop_left
  obtain ⟨m, hm⟩ := val_get hv (32 - (dataL E.val).length) (by have := (length_data_le hv).1; omega)
  unfold rdEn
  rw [if_pos ⟨hL, hp⟩, e0, hvs, hm]
  show (if zerosL m = zerosL (zerosL m).length ∧ okE ⟨keyOf (putEn E), E.val⟩ = true then some (⟨keyOf (putEn E), E.val⟩ : En) else none) = some E
  rw [hkey, length_zeros, if_pos ⟨rfl, h⟩]

/-- What is got is put just so. -/
theorem put_rdEn {s : List UInt8} {E : En} (h : rdEn s = some E) : okE E = true ∧ putEn E = s := by
  unfold rdEn at h
  split at h
  · rename_i hs
    obtain ⟨hl, hp⟩ := hs
    split at h
    · cases h
    · rename_i v r hr
      split at h
      · rename_i hz
        injection h with h
        subst h
        refine ⟨hz.2, ?_⟩
        have h8 := hp.1
        have lS : (keyS s).length = 40 := by simp [keyS]; omega
        have lV : (valS s).length = 32 := by simp only [valS, List.length_drop, lS]; omega
        have lK : (keyOf s).length = keyZ s := by unfold keyOf; rw [List.length_take, lS]; omega
        obtain ⟨⟨a, ha⟩, hk⟩ := val_put hr (by omega)
        have hz1 := hz.1
        rw [hz1, zeros_add] at ha
        have hA : a + r.length = 32 - (dataL v).length := by
          have := congrArg List.length ha
          rw [List.length_append, length_zeros, lV] at this
          omega
        rw [hA] at ha
        unfold putEn headL
        simp only [List.append_assoc]
        show putL v.kind.toNat 1 ++ (putL (keyOf s).length 1 ++ (keyOf s ++ (zerosL (8 - (keyOf s).length) ++ (dataL v ++ zerosL (32 - (dataL v).length))))) = s
        rw [← ha, lK, hk, Int.toNat_natCast]
        have e3 : keyS s = keyOf s ++ (zerosL (8 - keyZ s) ++ valS s) := pad_cut hp
        rw [← e3]
        have e2 : s.drop 1 = putL (keyZ s) 1 ++ keyS s := num_cut 1 _ (by simp; omega)
        rw [← e2]
        exact (num_cut 1 s (by omega)).symm
      · cases h
  · cases h

/-! ### The document's reading -/
def atN (s : List UInt8) (at_ w : Nat) : Nat := getN ((s.drop at_).take w)
def getsL (s : List UInt8) (at_ : Nat) : Nat → List Int
  | 0 => []
  | n + 1 => getsL s at_ n ++ [(atN s (at_ + 2 * n) 2 : Int)]
def readV (s : List UInt8) : Va :=
  if atN s 0 1 = 1 then ⟨1, atN s 10 4, atN s 14 1, decide (atN s 15 1 = 1), (s.drop 17).take (min (atN s 16 1) 8), [], [], 0⟩
  else if atN s 0 1 = 2 then ⟨2, 0, 0, false, [], getsL s 10 8, getsL s 26 8, 0⟩
  else if atN s 0 1 = 3 then ⟨3, 0, 0, false, [], [], [], UInt64.ofNat (atN s 10 4 + 4294967296 * atN s 14 4)⟩
  else ⟨atN s 0 1, 0, 0, false, [], [], [], 0⟩
def readE (s : List UInt8) : En := ⟨(s.drop 2).take (min (atN s 1 1) 8), readV s⟩
theorem gets_front : ∀ (n : Nat) (s : List UInt8) (at_ : Nat), getsL s at_ (n + 1) = (atN s at_ 2 : Int) :: getsL s (at_ + 2) n
  | 0, s, at_ => rfl
  | n + 1, s, at_ => by
    rw [getsL, gets_front n s at_, getsL, List.cons_append, show at_ + 2 + 2 * n = at_ + 2 * (n + 1) by omega]
theorem gets_nums : ∀ (n : Nat) (s : List UInt8) (at_ : Nat), getsL s at_ n = numsOf n (s.drop at_)
  | 0, s, at_ => rfl
  | n + 1, s, at_ => by
    rw [gets_front, gets_nums n s (at_ + 2), numsOf, List.drop_drop]
    rfl
theorem rest_drop : ∀ (n : Nat) (s : List UInt8), restOf n s = s.drop (2 * n)
  | 0, s => by simp [restOf]
  | n + 1, s => by rw [restOf, rest_drop n, List.drop_drop]; congr 1; omega
theorem readE_rd {s : List UInt8} {E : En} (h : rdEn s = some E) : readE s = E := by
  unfold rdEn at h
  split at h
  · rename_i hs
    obtain ⟨hl, hp⟩ := hs
    have h8 := hp.1
    split at h
    · cases h
    · rename_i v r hr
      split at h
      · injection h with h
        subst h
        have e1 : atN s 1 1 = keyZ s := rfl
        have e2 : s.drop 2 = keyS s := by unfold keyS; rw [List.drop_drop]
        have ev : valS s = s.drop 10 := by unfold valS; rw [← e2, List.drop_drop, List.drop_drop]; congr 1; omega
        have e0 : atN s 0 1 = getN (s.take 1) := by unfold atN; rw [List.drop_zero]
        unfold readE
        rw [e1, Nat.min_eq_left h8, e2]
        congr 1
        rw [ev] at hr
        unfold readV
        rw [e0]
        unfold rdVal at hr
        split at hr
        · rename_i hk
          rw [if_pos hk]
          split at hr
          · rename_i hok
            injection hr with hr
            injection hr with h1 h2
            subst h1
            have hz := hok.2.1
            unfold regZ at hz
            simp only [List.drop_drop] at hz
            simp only [regV, atN, List.drop_drop]
            rw [Nat.min_eq_left hz]
            rfl
          · cases hr
        · rename_i hk
          rw [if_neg hk]
          split at hr
          · rename_i hk2
            rw [if_pos hk2]
            injection hr with hr
            injection hr with h1 h2
            subst h1
            unfold countV
            rw [gets_nums, gets_nums, rest_drop, List.drop_drop]
          · rename_i hk2
            rw [if_neg hk2]
            split at hr
            · rename_i hk3
              rw [if_pos hk3]
              injection hr with hr
              injection hr with h1 h2
              subst h1
              simp only [flagsV, atN, List.drop_drop]
            · cases hr
      · cases h
  · cases h

def getOk (s : List UInt8) : Bool := (rdEn s).isSome
def getEF (s : List UInt8) : En := (rdEn s).getD zeroE
def getEE (s : List UInt8) : Int := if getOk s = true then 0 else 2
theorem getOk_iff (s : List UInt8) : getOk s = true ↔ s.length = 42 ∧ okE (readE s) = true ∧ putEn (readE s) = s := by
  unfold getOk
  constructor
  · intro h
    obtain ⟨E, hE⟩ := Option.isSome_iff_exists.1 h
    have h1 := put_rdEn hE
    have h2 := readE_rd hE
    rw [h2]
    exact ⟨by rw [← h1.2]; exact length_putEn h1.1, h1⟩
  · rintro ⟨_, h1, h2⟩
    have := rd_putEn h1
    rw [h2] at this
    rw [this]; rfl
theorem getEF_read {s : List UInt8} (h : getOk s = true) : getEF s = readE s := by
  obtain ⟨E, hE⟩ := Option.isSome_iff_exists.1 h
  unfold getEF
  rw [hE, readE_rd hE]; rfl
theorem getEF_none {s : List UInt8} (h : getOk s = false) : getEF s = zeroE := by
  unfold getEF
  unfold getOk at h
  cases hr : rdEn s with
  | none => rfl
  | some E => rw [hr] at h; cases h
end Go.Proofs.YtebjljiklacolaaGreat
end
section
namespace Go.Proofs.YtebjljiklacolaaGreat
open Go.RowKit
set_option linter.unusedVariables false
set_option linter.unusedSimpArgs false

theorem repeatL_zeros (n : Nat) : Lib.repeatL [0] n = zerosL n := by
  induction n with
  | zero => rfl
  | succ n ih => simp [Lib.repeatL, zerosL, List.replicate_succ] at ih ⊢; try rw [ih]
set_option maxHeartbeats 800000 in
theorem zeros_any (n : Nat) (w : World) (hn : n ≤ 1000) : Calls Tryz.prog 41 #[.int .i64 (n : Int)] w fun e w' => e = .returned (txt (zerosL n)) ∧ Below w.heap.size w w' := by
  have E0 := Lib.hid (repeatL_zeros n)
  go_enter Tryz.func41, Tryz.ntmps41
  go_wp2_with fail
  refine (Tryz.strings_Repeat ⟨#[0]⟩ n _ (by omega) (by show 1 * n ≤ _; omega)).mono ?_
  rintro e w' ⟨rfl, hb⟩
  go_wp2
  go_ret
  exact ⟨ret_str E0.out, hb⟩
set_option maxHeartbeats 800000 in
theorem fill_any (g : Nat) (t : List UInt8) (n : Nat) (w : World) (h : At w g (txt t)) (ht : t.length ≤ n) (hn : n ≤ 1000) :
    Calls Tryz.prog 23 #[ptr g, .int .i64 (n : Int)] w fun e w' => e = .returned unitV ∧ Wr g (txt (t ++ zerosL (n - t.length))) w w' := by
  have hc := h.cell
  have hs : (⟨t.toArray⟩ : ByteArray).size = t.length := by simp [ByteArray.size]
  go_enter Tryz.func23, Tryz.ntmps23
  go_wp2_with fail
  have e : (n : Int) - (t.length : Int) = ((n - t.length : Nat) : Int) := by omega
  rw [e]
  refine (zeros_any (n - t.length) w (by omega)).mono ?_
  rintro e w1 ⟨rfl, hb⟩
  clear hc
  go_wp2_with fail
  refine (add_any g t (zerosL (n - t.length)) w1 (h.keep hb) (by omega) (by rw [length_zeros]; omega)).mono ?_
  rintro e w2 ⟨rfl, hw2⟩
  replace hw2 := Kept.mk (Wr.behind hb hw2)
  clear hb
  go_wp2
  go_end0
  exact ⟨rfl, hw2.out⟩
set_option maxHeartbeats 800000 in
theorem skip_any (g : Nat) (l : List UInt8) (n : Nat) (w : World) (h : At w g (txt l)) (hn : n ≤ l.length) (hl : l.length ≤ 1000) :
    Calls Tryz.prog 57 #[ptr g, .int .i64 (n : Int)] w fun e w' => (l.take n = zerosL n ∧ e = .returned unitV ∧ Wr g (txt (l.drop n)) w w') ∨ (¬ l.take n = zerosL n ∧ e = Gave ∧ ∃ x, Wr g x w w') := by
  go_enter Tryz.func57, Tryz.ntmps57
  go_wp2_with fail
  refine (take_any g l n w h hn hl).mono ?_
  rintro e w1 ⟨rfl, hw1⟩
  have HW := Kept.mk hw1
  clear hw1
  go_wp2_with fail
  refine (zeros_any n w1 (by omega)).mono ?_
  rintro e w2 ⟨rfl, hb⟩
  replace HW := Kept.mk (HW.out.then_ hb)
  clear hb
  by_cases hz : l.take n = zerosL n
  · have HZ := Kept.mk hz
    clear hz
    go_wp2_with fail
    refine (insist_yes _ (by simpa using HZ.out) _).mono ?_
    rintro e w3 ⟨rfl, rfl⟩
    go_wp2
    go_end0
    exact .inl ⟨HZ.out, rfl, HW.out⟩
  · have HZ := Kept.mk hz
    clear hz
    go_wp2_with fail
    refine (insist_no _ (by simpa using HZ.out) _).mono ?_
    rintro e w3 ⟨rfl, rfl⟩
    go_wp2
    exact ⟨rfl, .inr ⟨HZ.out, rfl, _, HW.out⟩⟩
set_option maxHeartbeats 800000 in
theorem padded_any (g : Nat) (l : List UInt8) (z : Nat) (w : World) (h : At w g (txt l)) (h8 : 8 ≤ l.length) (hl : l.length ≤ 1000) (hz : z ≤ 1000) :
    Calls Tryz.prog 55 #[ptr g, .int .i64 (z : Int), .int .i64 8] w fun e w' => (padOk z 8 l ∧ e = .returned (txt (l.take z)) ∧ Wr g (txt ((l.drop z).drop (8 - z))) w w') ∨ (¬ padOk z 8 l ∧ e = Gave ∧ ∃ x, Wr g x w w') := by
  go_enter Tryz.func55, Tryz.ntmps55
  by_cases hr : (z : Int) ≤ 8
  · go_wp2_with fail
    refine (insist_yes _ (by first | rfl | simpa using hr) _).mono ?_
    rintro e w3 ⟨rfl, rfl⟩
    go_wp2_with fail
    refine (take_any g l z w h (by omega) hl).mono ?_
    rintro e w1 ⟨rfl, hw1⟩
    have HW := Kept.mk hw1
    clear hw1
    go_wp2_with fail
    have e : (8 : Int) - (z : Int) = ((8 - z : Nat) : Int) := by omega
    rw [e]
    refine (skip_any g (l.drop z) (8 - z) w1 HW.out.at_ (by rw [List.length_drop]; omega) (by rw [List.length_drop]; omega)).mono ?_
    rintro e w2 (⟨hp, rfl, hw2⟩ | ⟨hp, rfl, x, hw2⟩)
    · replace HW := Kept.mk (HW.out.trans hw2)
      have HP := Kept.mk hp
      clear hp hw2
      go_wp2
      go_ret
      exact .inl ⟨⟨by omega, HP.out⟩, rfl, HW.out⟩
    · replace HW := Kept.mk (HW.out.trans hw2)
      have HP := Kept.mk hp
      clear hp hw2
      go_wp2
      exact ⟨rfl, .inr ⟨fun k => HP.out k.2, rfl, _, HW.out⟩⟩
  · go_wp2_with fail
    refine (insist_no _ (by first | rfl | simpa using hr) _).mono ?_
    rintro e w3 ⟨rfl, rfl⟩
    go_wp2
    exact ⟨rfl, .inr ⟨fun k => by have := k.1; omega, rfl, _, Wr.refl h⟩⟩
end Go.Proofs.YtebjljiklacolaaGreat
end
section
namespace Go.Proofs.YtebjljiklacolaaGreat
open Go.RowKit
set_option linter.unusedVariables false
set_option linter.unusedSimpArgs false

theorem ret_bool {a b : Bool} (h : a = b) : Ending.returned (.bool a) = .returned (.bool b) := by rw [h]
theorem within_any (n most : Int) (w : World) : Calls Tryz.prog 109 #[.int .i64 n, .int .i64 most] w fun e w' => e = .returned (.bool (decide (0 ≤ n) && decide (n ≤ most))) ∧ w = w' := by
  by_cases h1 : 0 ≤ n
  · have h1' : decide (0 ≤ n) = true := by simpa using h1
    go_enter Tryz.func109, Tryz.ntmps109
    go_wp2
    go_ret
    exact ⟨by simp [h1], rfl⟩
  · have h1' : decide (0 ≤ n) = false := by simpa using h1
    go_enter Tryz.func109, Tryz.ntmps109
    go_wp2
    go_ret
    exact ⟨by simp [h1], rfl⟩
theorem isNaN_i (x : Int) (w : World) : Calls Tryz.prog 114 #[.int .i64 x] w fun e w' => e = .returned (.bool false) ∧ w = w' := by
  go_enter Tryz.func114, Tryz.ntmps114
  go_wp2
  go_ret
  exact ⟨by simp, rfl⟩
theorem isNaN_s (x : List UInt8) (w : World) : Calls Tryz.prog 115 #[.string ⟨x.toArray⟩] w fun e w' => e = .returned (.bool false) ∧ w = w' := by
  go_enter Tryz.func115, Tryz.ntmps115
  go_wp2
  go_ret
  exact ⟨by simp, rfl⟩
theorem compare_i (x y : Int) (w : World) : Calls Tryz.prog 111 #[.int .i64 x, .int .i64 y] w fun e w' => e = .returned (.int .i64 (cmpI x y)) ∧ w = w' := by
  have HC := Kept.mk (show cmpI x y = if x < y then -1 else if y < x then 1 else 0 from rfl)
  by_cases h1 : x < y
  · have d1 : decide (x < y) = true := by simpa using h1
    have HR := Kept.mk (show cmpI x y = -1 by rw [HC.out, if_pos h1])
    clear h1
    go_enter Tryz.func111, Tryz.ntmps111
    go_wp2_with fail
    refine (isNaN_i x _).mono ?_; rintro e w' ⟨rfl, rfl⟩
    go_wp2_with fail
    refine (isNaN_i y _).mono ?_; rintro e w' ⟨rfl, rfl⟩
    go_wp2
    go_ret
    exact ⟨by rw [HR.out]; rfl, rfl⟩
  · have d1 : decide (x < y) = false := by simpa using h1
    by_cases h2 : y < x
    · have d2 : decide (y < x) = true := by simpa using h2
      have HR := Kept.mk (show cmpI x y = 1 by rw [HC.out, if_neg h1, if_pos h2])
      clear h1 h2
      go_enter Tryz.func111, Tryz.ntmps111
      go_wp2_with fail
      refine (isNaN_i x _).mono ?_; rintro e w' ⟨rfl, rfl⟩
      go_wp2_with fail
      refine (isNaN_i y _).mono ?_; rintro e w' ⟨rfl, rfl⟩
      go_wp2
      go_ret
      exact ⟨by rw [HR.out]; rfl, rfl⟩
    · have d2 : decide (y < x) = false := by simpa using h2
      have HR := Kept.mk (show cmpI x y = 0 by rw [HC.out, if_neg h1, if_neg h2])
      clear h1 h2
      go_enter Tryz.func111, Tryz.ntmps111
      go_wp2_with fail
      refine (isNaN_i x _).mono ?_; rintro e w' ⟨rfl, rfl⟩
      go_wp2_with fail
      refine (isNaN_i y _).mono ?_; rintro e w' ⟨rfl, rfl⟩
      go_wp2
      go_ret
      exact ⟨by rw [HR.out]; rfl, rfl⟩
theorem rank_any (b : Bool) (w : World) : Calls Tryz.prog 112 #[.bool b] w fun e w' => e = .returned (.int .i64 (rankI b)) ∧ w = w' := by
  cases b
  · go_enter Tryz.func112, Tryz.ntmps112
    go_wp2
    go_ret
    exact ⟨rfl, rfl⟩
  · go_enter Tryz.func112, Tryz.ntmps112
    go_wp2
    go_ret
    exact ⟨rfl, rfl⟩
theorem text_eq (x y : List UInt8) : (x == y) = decide (x = y) := by by_cases h : x = y <;> simp [h]
set_option maxHeartbeats 400000 in
theorem compare_s (x y : List UInt8) (w : World) : Calls Tryz.prog 113 #[.string ⟨x.toArray⟩, .string ⟨y.toArray⟩] w fun e w' => e = .returned (.int .i64 (cmpT x y)) ∧ w = w' := by
  have HC := Kept.mk (show cmpT x y = if Op.bytesLess x y = true then -1 else if x = y then 0 else 1 from rfl)
  cases h1 : Op.bytesLess x y with
  | true =>
    have HR := Kept.mk (show cmpT x y = -1 by rw [HC.out, if_pos h1])
    go_enter Tryz.func113, Tryz.ntmps113
    go_wp2_with fail
    refine (isNaN_s x _).mono ?_; rintro e w' ⟨rfl, rfl⟩
    go_wp2_with fail
    refine (isNaN_s y _).mono ?_; rintro e w' ⟨rfl, rfl⟩
    go_wp2
    go_ret
    exact ⟨by rw [HR.out]; rfl, rfl⟩
  | false =>
    cases h2 : x == y with
    | true =>
      have HR := Kept.mk (show cmpT x y = 0 by rw [HC.out, h1, if_neg (by simp), if_pos (by simpa using h2)])
      go_enter Tryz.func113, Tryz.ntmps113
      go_wp2_with fail
      refine (isNaN_s x _).mono ?_; rintro e w' ⟨rfl, rfl⟩
      go_wp2_with fail
      refine (isNaN_s y _).mono ?_; rintro e w' ⟨rfl, rfl⟩
      go_wp2
      go_ret
      exact ⟨by rw [HR.out]; rfl, rfl⟩
    | false =>
      have HR := Kept.mk (show cmpT x y = 1 by rw [HC.out, h1, if_neg (by simp), if_neg (by simpa using h2)])
      go_enter Tryz.func113, Tryz.ntmps113
      go_wp2_with fail
      refine (isNaN_s x _).mono ?_; rintro e w' ⟨rfl, rfl⟩
      go_wp2_with fail
      refine (isNaN_s y _).mono ?_; rintro e w' ⟨rfl, rfl⟩
      go_wp2
      go_ret
      exact ⟨by rw [HR.out]; rfl, rfl⟩

theorem behindL_nil : behindL [] = false := rfl
theorem behindL_cons (x : Int) (r : List Int) : behindL (x :: r) = if x = 0 then behindL r else decide (0 < x) := rfl
set_option maxHeartbeats 400000 in
theorem isBehind_any (l : List Int) (v : Value) (w : World) (hv : isCells (l.map intC) v w) (hl : l.length ≤ 1000000) :
    Calls Tryz.prog 110 #[v] w fun e w' => e = .returned (.bool (behindL l)) ∧ w = w' := by
  obtain ⟨a, cap, hva⟩ := hv.len
  rw [List.length_map] at hva
  subst hva
  have HV := Kept.mk hv
  clear hv
  go_enter Tryz.func110, Tryz.ntmps110
  go_wp2
  go_loop [7] (fun i => ∃ k : Nat, k ≤ l.length ∧ i = .int .i64 (k : Int) ∧ Kept (behindL l = behindL (l.drop k))) (fun i => l.length - (intOf i).toNat)
  case atStart => exact ⟨0, Nat.zero_le _, rfl, ⟨rfl⟩⟩
  case round =>
    obtain ⟨k, hk, rfl, HB⟩ := hrel
    by_cases hlt : k < l.length
    · obtain ⟨b, off, cap', hs, hb, hc⟩ := HV.out.some_ (by rw [List.length_map]; omega)
      rw [List.length_map] at hs
      injection hs with h1 h2 h3
      subst h1 h3
      have hcell := hc k _ (get_map intC l k hlt)
      have HD := Kept.mk (show l.drop k = l[k] :: l.drop (k + 1) from List.drop_eq_getElem_cons hlt)
      obtain ⟨x, hx⟩ : ∃ x, x = l[k] := ⟨_, rfl⟩
      rw [← hx] at hcell HD
      unfold intC at hcell
      clear hc hx
      by_cases hz : x = 0
      · have d : (x == 0) = true := by simpa using hz
        have HR := Kept.mk (show behindL l = behindL (l.drop (k + 1)) by rw [HB.out, HD.out, behindL_cons, if_pos hz])
        clear hz
        go_wp2
        go_round
        case rel => exact ⟨k + 1, by omega, by go_num, HR⟩
        case measure => simp [intOf]; omega
      · have d : (x == 0) = false := by simpa using hz
        have HR := Kept.mk (show behindL l = decide (0 < x) by rw [HB.out, HD.out, behindL_cons, if_neg hz])
        clear hz
        go_wp2
        go_ret
        exact ⟨by rw [HR.out]; rfl, rfl⟩
    · have HR := Kept.mk (show behindL l = false by rw [HB.out, List.drop_eq_nil_of_le (by omega)]; rfl)
      go_wp2
      go_ret
      exact ⟨by rw [HR.out]; rfl, rfl⟩

theorem isRow1_any (x : Int) (w : World) : Calls Tryz.prog 127 #[.int .i64 x] w fun e w' => e = .returned (.bool (!okNum x)) ∧ w = w' := by
  have HO := Kept.mk (show okNum x = (decide (0 ≤ x) && decide (x ≤ 65535)) from rfl)
  go_enter Tryz.func127, Tryz.ntmps127
  go_wp2_with fail
  refine (within_any x 65535 _).mono ?_; rintro e w' ⟨rfl, rfl⟩
  obtain ⟨z, hz⟩ : ∃ z, z = (decide (0 ≤ x) && decide (x ≤ 65535)) := ⟨_, rfl⟩
  rw [← hz] at HO ⊢
  clear hz
  go_wp2
  go_ret
  exact ⟨by rw [HO.out]; rfl, rfl⟩
def badNum : Value → Bool
  | .int .i64 x => !okNum x
  | _ => false
theorem badNum_int (x : Int) : badNum (intC x) = !okNum x := rfl
theorem okNum_eq (l : List Int) : l.all okNum = !(l.map intC).any badNum := by
  induction l with
  | nil => rfl
  | cons x r ih => rw [List.all_cons, List.map_cons, List.any_cons, badNum_int, ih, Bool.not_or, Bool.not_not]
attribute [irreducible] badNum
set_option maxRecDepth 20000 in
theorem isRow_any (l : List Int) (v : Value) (w : World) (hv : isCells (l.map intC) v w) (hl : l.length ≤ 140737488355328) :
    Calls Tryz.prog 121 #[v] w fun e w' => e = .returned (.bool (okRow l)) ∧ w = w' := by
  have hen : Enters Tryz.prog 127 := enters_of Tryz.func127 (by kernel_rfl) rfl
  obtain ⟨a, cap, hva⟩ := hv.len
  rw [List.length_map] at hva
  subst hva
  have HV := Kept.mk hv
  clear hv
  by_cases h : l.length = 8
  · have h' : ((l.length : Int) == 8) = true := by simp; omega
    have HE := Kept.mk (show okRow l = !(l.map intC).any badNum by
      unfold okRow
      rw [decide_eq_true h, Bool.true_and, okNum_eq])
    clear h
    go_enter Tryz.func121, Tryz.ntmps121
    go_wp2_with fail
    refine (contains_i badNum 127 #[] hen (l.map intC) _ _ HV.out (by simpa using hl) ?_).mono ?_
    · intro x hx
      obtain ⟨y, _, rfl⟩ := List.mem_map.1 hx
      rw [badNum_int]
      exact isRow1_any y _
    rintro e w' ⟨rfl, rfl⟩
    generalize (l.map intC).any badNum = z at *
    go_wp2
    go_ret
    exact ⟨by rw [HE.out]; rfl, rfl⟩
  · have h' : ((l.length : Int) == 8) = false := by simp; omega
    have HE := Kept.mk (show okRow l = false by unfold okRow; rw [decide_eq_false h]; rfl)
    go_enter Tryz.func121, Tryz.ntmps121
    go_wp2
    go_ret
    exact ⟨by rw [HE.out]; rfl, rfl⟩
theorem sum_take (l : List Int) (k : Nat) (h : k < l.length) : (l.take (k + 1)).sum = (l.take k).sum + l[k] := by
  rw [List.take_succ_eq_append_getElem h, List.sum_append]; simp
theorem sum_bound : ∀ (l : List Int), l.all okNum = true → 0 ≤ l.sum ∧ l.sum ≤ 65535 * l.length
  | [], _ => by simp
  | x :: r, h => by
    rw [List.all_cons, Bool.and_eq_true] at h
    have := sum_bound r h.2
    have hx := h.1
    unfold okNum at hx
    simp only [Bool.and_eq_true, decide_eq_true_eq] at hx
    rw [List.sum_cons, List.length_cons]
    omega
end Go.Proofs.YtebjljiklacolaaGreat
end
section
namespace Go.Proofs.YtebjljiklacolaaGreat
open Go.RowKit
set_option linter.unusedVariables false
set_option linter.unusedSimpArgs false

theorem own_of_row {w : World} {B g n : Nat} {f : Nat → Value} {t : TypeId} (h : w.rowIs g t n f) (hB : B ≤ g) (hm : n ≤ maxLen) : isOwn B t ((List.range n).map f) (.slice (some ⟨g, 0, none⟩) n n) w := by
  obtain ⟨c, hb, hn, hc⟩ := h
  unfold isOwn World.ownsRow
  rw [List.length_map, List.length_range]
  refine ⟨by simp, .inr ⟨g, n, c, rfl, hB, hb, Nat.le_refl _, hm, by simpa using hn, ?_⟩⟩
  rw [Nat.mul_one]
  apply List.ext_getElem?
  intro j
  by_cases hj : j < n
  · rw [List.getElem?_take, if_pos hj, Array.getElem?_toList, hc j hj]
    simp [hj]
  · rw [List.getElem?_eq_none (by simp; omega), List.getElem?_eq_none (by simp; omega)]
theorem Tryz.infoInt : (Tryz.prog.info? 3).map (fun i => (i.zero, i.size, i.bytes)) = some (some (.int .i64 0), 1, 8) := by kernel_rfl
set_option maxRecDepth 20000 in
set_option maxHeartbeats 400000 in
theorem row_any (f : Nat → Int) (g : Nat) (caps : Array Value) (hent : Enters Tryz.prog g) (w : World)
    (hf : ∀ (k : Nat) (w' : World), k < 8 → Below w.heap.size w w' → Calls Tryz.prog g (#[.int .i64 (k : Int)] ++ caps) w' fun e w'' => e = .returned (.int .i64 (f k)) ∧ Below w'.heap.size w' w'') :
    Calls Tryz.prog 122 #[.func (.func g) #[] caps] w fun e w' => e = .returned (.slice (some ⟨w.heap.size, 0, none⟩) 8 8) ∧ w'.rowIs w.heap.size 3 8 (fun j => intC (f j)) ∧ Below w.heap.size w w' := by
  have HF := Kept.mk hf
  clear hf
  have hmk : ∀ W : World, (Instr.makeSlice 22 (.int .i64 8) (.int .i64 8)).run Tryz.prog W = .ok (.slice (some ⟨W.heap.size, 0, none⟩) 8 8) (W.alloc (.cells (madeCells #[Value.int .i64 0] 8) 3)) := fun W => run_make_row' (P := Tryz.prog) 22 3 (.int .i64 0) 8 Tryz.underlying22 Tryz.infoInt rfl .i64 .i64 8 (by omega) (by omega) W
  have HB0 := Kept.mk (show Below w.heap.size w (w.alloc (.cells (madeCells #[Value.int .i64 0] 8) 3)) from (Below.refl _ _).alloc (Nat.le_refl _) _)
  have HR0 := Kept.mk (World.rowIs_made w (.int .i64 0) 8 3)
  go_enter Tryz.func122, Tryz.ntmps122
  go_wp2
  clear hmk
  generalize w.alloc (.cells (madeCells #[Value.int .i64 0] 8) 3) = w0 at *
  go_loopw [8] (fun i wr => ∃ k : Nat, k ≤ 8 ∧ i = .int .i64 (k : Int) ∧ Kept (wr.rowIs w.heap.size 3 8 (fun j => if j < k then intC (f j) else intC 0)) ∧ Kept (Below w.heap.size w wr)) (fun i _ => 8 - (intOf i).toNat)
  case atStart => exact ⟨0, by omega, rfl, ⟨HR0.out.congr (fun i _ => by simp [intC])⟩, HB0⟩
  case round =>
    clear HR0 HB0
    obtain ⟨k, hk, rfl, HR, HB⟩ := hrel
    by_cases hlt : k < 8
    · have d1 : decide ((k : Int) < 8) = true := by simp; omega
      go_wp2_with fail
      rw [hent]
      simp only [Oper.upon]
      refine (HF.out k _ hlt HB.out).mono ?_
      rintro e w2 ⟨rfl, hb2⟩
      have HR2 := HR.out.of_block (hb2.block _ HR.out.lt)
      have hcell := HR2.cell hlt
      have hfz := HR2.frozen k
      have HR3 := Kept.mk (HR2.set k (.int .i64 (f k)))
      have HB3 := Kept.mk ((HB.out.trans (hb2.mono HB.out.size)).setCell (p := ⟨w.heap.size, k, none⟩) (Nat.le_refl _) (.int .i64 (f k)))
      clear HR2 hb2
      rewrite [if_neg (by omega)] at hcell
      unfold intC at hcell
      go_wp2
      go_roundw
      case rel =>
        refine ⟨k + 1, by omega, by go_num, ⟨HR3.out.congr (fun j hj => ?_)⟩, HB3⟩
        by_cases e : j = k
        · subst e; simp [intC]
        · rw [if_neg e]
          by_cases l : j < k
          · rw [if_pos l, if_pos (by omega)]
          · rw [if_neg l, if_neg (by omega)]
      case measure => simp [intOf]; omega
    · have d1 : decide ((k : Int) < 8) = false := by simp; omega
      obtain rfl : k = 8 := by omega
      have HO := Kept.mk (HR.out.congr (g := fun j => intC (f j)) (fun j hj => by rw [if_pos hj]))
      go_wp2
      go_ret
      exact ⟨rfl, HO.out, HB.out⟩
theorem cells_of_row {w : World} {g n : Nat} {f : Nat → Value} {t : TypeId} (h : w.rowIs g t n f) : isCells ((List.range n).map f) (.slice (some ⟨g, 0, none⟩) n n) w := by
  have e : ((List.range n).map f).length = n := by simp
  have := (show isCells ((List.range n).map f) (.slice (some ⟨g, 0, none⟩) ((List.range n).map f).length n) w from .inr (.inr ⟨g, 0, n, rfl, h.lt, fun j x hx => by
    have hj : j < n := by have := (List.getElem?_eq_some_iff.1 hx).1; simpa using this
    rw [Nat.zero_add, h.cell hj]
    simpa [hj] using hx⟩))
  rwa [e] at this
end Go.Proofs.YtebjljiklacolaaGreat
end
section
namespace Go.Proofs.YtebjljiklacolaaGreat
open Go.RowKit
set_option linter.unusedVariables false
set_option linter.unusedSimpArgs false

def isVa (A : Va) : VP := fun v w => ∃ vp vm, v = .agg #[.int .i64 A.kind, .int .i64 A.time, .int .i64 A.node, .bool A.dead, .string ⟨A.text.toArray⟩, vp, vm, .int .u64 (A.flags.toNat : Int)] ∧ isCells (A.plus.map intC) vp w ∧ isCells (A.minus.map intC) vm w
theorem stable_va (A : Va) : Stable (isVa A) := fun v w w' ⟨vp, vm, e, hp, hm⟩ hb => ⟨vp, vm, e, stable_cells _ _ _ _ hp hb, stable_cells _ _ _ _ hm hb⟩
theorem va_grow {A : Va} {v : Value} {w w' : World} (h : isVa A v w) (hb : Below w.heap.size w w') : isVa A v w' := stable_va A v w w' h hb
theorem isCells.one {cs : List Value} {v : Value} {w : World} (h : isCells cs v w) : v.oneCell' = true := by
  obtain ⟨a, cap, rfl⟩ := h.len
  rfl
/-- Block g holds the value A. -/
def VarV (w : World) (g : Nat) (A : Va) : Prop := ∃ vp vm, CellsN w g [.int .i64 A.kind, .int .i64 A.time, .int .i64 A.node, .bool A.dead, .string ⟨A.text.toArray⟩, vp, vm, .int .u64 (A.flags.toNat : Int)] ∧ isCells (A.plus.map intC) vp w ∧ isCells (A.minus.map intC) vm w
theorem VarV.keep {w w' : World} {g : Nat} {A : Va} (h : VarV w g A) (hb : Below w.heap.size w w') : VarV w' g A := by
  obtain ⟨vp, vm, hc, hp, hm⟩ := h
  exact ⟨vp, vm, hc.keep hb hc.1, stable_cells _ _ _ _ hp hb, stable_cells _ _ _ _ hm hb⟩
theorem VarV.lt {w : World} {g : Nat} {A : Va} (h : VarV w g A) : g < w.heap.size := by obtain ⟨_, _, hc, _⟩ := h; exact hc.1
theorem VarV.open_ {w : World} {g : Nat} {A : Va} (h : VarV w g A) : ∃ vp vm, isVa A (.agg #[.int .i64 A.kind, .int .i64 A.time, .int .i64 A.node, .bool A.dead, .string ⟨A.text.toArray⟩, vp, vm, .int .u64 (A.flags.toNat : Int)]) w ∧ Kept (isCells (A.plus.map intC) vp w) ∧ Kept (isCells (A.minus.map intC) vm w) ∧
    w.cell? ⟨g, 0, none⟩ = some (.int .i64 A.kind) ∧ w.cell? ⟨g, 1, none⟩ = some (.int .i64 A.time) ∧ w.cell? ⟨g, 2, none⟩ = some (.int .i64 A.node) ∧ w.cell? ⟨g, 3, none⟩ = some (.bool A.dead) ∧ w.cell? ⟨g, 4, none⟩ = some (.string ⟨A.text.toArray⟩) ∧
    w.cell? ⟨g, 5, none⟩ = some vp ∧ w.cell? ⟨g, 6, none⟩ = some vm ∧ w.cell? ⟨g, 7, none⟩ = some (.int .u64 (A.flags.toNat : Int)) := by
  obtain ⟨vp, vm, hc, hp, hm⟩ := h
  exact ⟨vp, vm, ⟨vp, vm, rfl, hp, hm⟩, ⟨hp⟩, ⟨hm⟩, hc.2 0 _ rfl, hc.2 1 _ rfl, hc.2 2 _ rfl, hc.2 3 _ rfl, hc.2 4 _ rfl, hc.2 5 _ rfl, hc.2 6 _ rfl, hc.2 7 _ rfl⟩
/-- .. with just these rows. -/
def VarE (w : World) (g : Nat) (A : Va) (vp vm : Value) : Prop := CellsN w g [.int .i64 A.kind, .int .i64 A.time, .int .i64 A.node, .bool A.dead, .string ⟨A.text.toArray⟩, vp, vm, .int .u64 (A.flags.toNat : Int)] ∧ isCells (A.plus.map intC) vp w ∧ isCells (A.minus.map intC) vm w
theorem VarE.var {w : World} {g : Nat} {A : Va} {vp vm : Value} (h : VarE w g A vp vm) : VarV w g A := ⟨vp, vm, h⟩
def blk : Value → Option Nat
  | .slice (some a) _ _ => some a.block
  | _ => none
/-- It stands in a block that is no older than B, or in none. -/
def NewB (B : Nat) (v : Value) : Prop := ∀ b, blk v = some b → B ≤ b
theorem NewB.low {B B' : Nat} {v : Value} (h : NewB B v) (hB : B' ≤ B) : NewB B' v := fun b hb => Nat.le_trans hB (h b hb)
theorem newB_nil (B : Nat) : NewB B (.slice none 0 0) := fun b h => by cases h
theorem newB_row {B g : Nat} (h : B ≤ g) (o n c : Nat) : NewB B (.slice (some ⟨g, o, none⟩) n c) := fun b hb => by cases hb; exact h
theorem NewB.ne {B g : Nat} {v : Value} (h : NewB B v) (hg : g < B) : blk v ≠ some g := fun e => by have := h g e; omega
/-- A value whose rows are new. -/
def isVaN (B : Nat) (A : Va) : VP := fun v w => ∃ vp vm, v = .agg #[.int .i64 A.kind, .int .i64 A.time, .int .i64 A.node, .bool A.dead, .string ⟨A.text.toArray⟩, vp, vm, .int .u64 (A.flags.toNat : Int)] ∧ isCells (A.plus.map intC) vp w ∧ isCells (A.minus.map intC) vm w ∧ NewB B vp ∧ NewB B vm
theorem isVaN.va {B : Nat} {A : Va} {v : Value} {w : World} (h : isVaN B A v w) : isVa A v w := by obtain ⟨vp, vm, e, hp, hm, _⟩ := h; exact ⟨vp, vm, e, hp, hm⟩
theorem isVaN.low {B B' : Nat} {A : Va} {v : Value} {w : World} (h : isVaN B A v w) (hB : B' ≤ B) : isVaN B' A v w := by obtain ⟨vp, vm, e, hp, hm, np, nm⟩ := h; exact ⟨vp, vm, e, hp, hm, np.low hB, nm.low hB⟩
/-- A parameter's box. -/
theorem vbox (w : World) (A : Va) (vp vm : Value) (hp : isCells (A.plus.map intC) vp w) (hm : isCells (A.minus.map intC) vm w) (n : Nat) (hn : n = w.heap.size) :
    Kept (Below w.heap.size w (w.alloc (.cells #[.int .i64 A.kind, .int .i64 A.time, .int .i64 A.node, .bool A.dead, .string ⟨A.text.toArray⟩, vp, vm, .int .u64 (A.flags.toNat : Int)] 25))) ∧
    Kept (VarV (w.alloc (.cells #[.int .i64 A.kind, .int .i64 A.time, .int .i64 A.node, .bool A.dead, .string ⟨A.text.toArray⟩, vp, vm, .int .u64 (A.flags.toNat : Int)] 25)) n A) := by
  subst hn
  have hb : Below w.heap.size w (w.alloc (.cells #[.int .i64 A.kind, .int .i64 A.time, .int .i64 A.node, .bool A.dead, .string ⟨A.text.toArray⟩, vp, vm, .int .u64 (A.flags.toNat : Int)] 25)) := (Below.refl _ _).alloc (Nat.le_refl _) _
  exact ⟨⟨hb⟩, ⟨⟨vp, vm, cellsN_new w 25 _, stable_cells _ _ _ _ hp hb, stable_cells _ _ _ _ hm hb⟩⟩⟩
theorem lit_below (W : World) (o : Obj) : Below W.heap.size W (W.alloc o) := (Below.refl _ _).alloc (Nat.le_refl _) _
theorem size_va : (Tryz.prog.info? 25).map (·.size) = some 8 := by kernel_rfl
theorem agg_va (w : World) : (isAgg 25).run Tryz.prog w = .ok true w := by simp [isAgg, run_underlying Tryz.underlying25]
theorem field_va (g k : Nat) (hk : k < 8) (w : World) : (Instr.fieldAt 25 (.pointer (some ⟨g, 0, none⟩)) k).run Tryz.prog w = .ok (.pointer (some ⟨g, k, none⟩)) w := by
  have h : k = 0 ∨ k = 1 ∨ k = 2 ∨ k = 3 ∨ k = 4 ∨ k = 5 ∨ k = 6 ∨ k = 7 := by omega
  rcases h with rfl | rfl | rfl | rfl | rfl | rfl | rfl | rfl <;> simp [Instr.fieldAt, run_underlying Tryz.underlying25, Instr.sureAddr, fieldPlace, Addr.add]
/-- A result's or a variable's new block, in which a value is laid down. -/
theorem vnew (w : World) (A : Va) (vp vm : Value) (hp : isCells (A.plus.map intC) vp w) (hm : isCells (A.minus.map intC) vm w) (n : Nat) (hn : n = w.heap.size) :
    Kept (CellsN (w.alloc (.cells #[.int .i64 0, .int .i64 0, .int .i64 0, .bool false, .string ⟨#[]⟩, .slice none 0 0, .slice none 0 0, .int .u64 0] 25)) n [.int .i64 0, .int .i64 0, .int .i64 0, .bool false, .string ⟨#[]⟩, .slice none 0 0, .slice none 0 0, .int .u64 0]) ∧
    Kept (Free5 (w.alloc (.cells #[.int .i64 0, .int .i64 0, .int .i64 0, .bool false, .string ⟨#[]⟩, .slice none 0 0, .slice none 0 0, .int .u64 0] 25)) n) ∧
    Kept (Below w.heap.size w (setN (w.alloc (.cells #[.int .i64 0, .int .i64 0, .int .i64 0, .bool false, .string ⟨#[]⟩, .slice none 0 0, .slice none 0 0, .int .u64 0] 25)) n 0 [.int .i64 A.kind, .int .i64 A.time, .int .i64 A.node, .bool A.dead, .string ⟨A.text.toArray⟩, vp, vm, .int .u64 (A.flags.toNat : Int)])) ∧
    Kept (VarE (setN (w.alloc (.cells #[.int .i64 0, .int .i64 0, .int .i64 0, .bool false, .string ⟨#[]⟩, .slice none 0 0, .slice none 0 0, .int .u64 0] 25)) n 0 [.int .i64 A.kind, .int .i64 A.time, .int .i64 A.node, .bool A.dead, .string ⟨A.text.toArray⟩, vp, vm, .int .u64 (A.flags.toNat : Int)]) n A vp vm) ∧ Kept (Ones [.int .i64 A.kind, .int .i64 A.time, .int .i64 A.node, .bool A.dead, .string ⟨A.text.toArray⟩, vp, vm, .int .u64 (A.flags.toNat : Int)]) := by
  subst hn
  have hb := lit_below w (.cells #[.int .i64 0, .int .i64 0, .int .i64 0, .bool false, .string ⟨#[]⟩, .slice none 0 0, .slice none 0 0, .int .u64 0] 25)
  have hc := cellsN_new w 25 [.int .i64 0, .int .i64 0, .int .i64 0, .bool false, .string ⟨#[]⟩, .slice none 0 0, .slice none 0 0, .int .u64 0]
  have hb5 := below_setN (Nat.le_refl _) [.int .i64 A.kind, .int .i64 A.time, .int .i64 A.node, .bool A.dead, .string ⟨A.text.toArray⟩, vp, vm, .int .u64 (A.flags.toNat : Int)] 0 _ hb
  exact ⟨⟨hc⟩, ⟨free5_new w _ _⟩, ⟨hb5⟩, ⟨⟨hc.setN_ _ rfl, stable_cells _ _ _ _ hp hb5, stable_cells _ _ _ _ hm hb5⟩⟩, ⟨⟨rfl, rfl, rfl, rfl, rfl, hp.one, hm.one, rfl, trivial⟩⟩⟩
/-- A row stands as it stood, where another block is written. -/
theorem cells_apart {cs : List Value} {v : Value} {w : World} (h : isCells cs v w) {g : Nat} (hg : ∀ b off cap, v = .slice (some ⟨b, off, none⟩) cs.length cap → cs ≠ [] → b ≠ g) (k : Nat) (l : List Value) : isCells cs v (setN w g k l) := by
  rcases h with h | h | ⟨b, off, cap, e, hlt, hc⟩
  · exact .inl h
  · exact .inr (.inl h)
  · by_cases h0 : cs = []
    · subst h0; exact .inr (.inl ⟨_, _, e, rfl⟩)
    · exact .inr (.inr ⟨b, off, cap, e, by rw [size_setN]; exact hlt, fun j x hx => (setN_other g l k w _ (.inl (hg b off cap e h0))).trans (hc j x hx)⟩)
/-- .. in a block that is there already. -/
theorem vset {B g : Nat} {w0 w : World} (A : Va) (vp vm : Value) (hB : B ≤ g) (hb : Below B w0 w) {old : List Value} (hc : CellsN w g old) (h8 : old.length = 8) (hp : isCells (A.plus.map intC) vp w) (hm : isCells (A.minus.map intC) vm w) (np : blk vp ≠ some g) (nm : blk vm ≠ some g) :
    Kept (Below B w0 (setN w g 0 [.int .i64 A.kind, .int .i64 A.time, .int .i64 A.node, .bool A.dead, .string ⟨A.text.toArray⟩, vp, vm, .int .u64 (A.flags.toNat : Int)])) ∧
    Kept (VarE (setN w g 0 [.int .i64 A.kind, .int .i64 A.time, .int .i64 A.node, .bool A.dead, .string ⟨A.text.toArray⟩, vp, vm, .int .u64 (A.flags.toNat : Int)]) g A vp vm) ∧ Kept (Ones [.int .i64 A.kind, .int .i64 A.time, .int .i64 A.node, .bool A.dead, .string ⟨A.text.toArray⟩, vp, vm, .int .u64 (A.flags.toNat : Int)]) := by
  have ap : ∀ (v : Value) (cs : List Value), blk v ≠ some g → ∀ b off cap, v = .slice (some ⟨b, off, none⟩) cs.length cap → cs ≠ [] → b ≠ g := by
    rintro v cs h b off cap rfl _ rfl
    exact h rfl
  exact ⟨⟨below_setN hB _ 0 _ hb⟩, ⟨⟨hc.setN_ _ h8, cells_apart hp (ap vp _ np) _ _, cells_apart hm (ap vm _ nm) _ _⟩⟩, ⟨⟨rfl, rfl, rfl, rfl, rfl, hp.one, hm.one, rfl, trivial⟩⟩⟩
/-- A row that stood ahead of a block stands, where that block is written. -/
theorem cells_old {cs : List Value} {v : Value} {w0 w : World} (h : isCells cs v w0) (hb : Below w0.heap.size w0 w) {g : Nat} (hg : w0.heap.size ≤ g) (k : Nat) (l : List Value) : isCells cs v (setN w g k l) :=
  stable_cells _ _ _ _ h (below_setN hg l k _ hb)
end Go.Proofs.YtebjljiklacolaaGreat
end
section
namespace Go.Proofs.YtebjljiklacolaaGreat
open Go.RowKit
set_option linter.unusedVariables false
set_option linter.unusedSimpArgs false

/-- Block b holds just these cells, and may be written. -/
structure Blk (W : World) (b : Nat) (cs : List Value) : Prop where
  cells : CellsN W b cs
  free : Free5 W b
theorem Blk.lt {W : World} {b : Nat} {cs : List Value} (h : Blk W b cs) : b < W.heap.size := h.cells.1
theorem Blk.wr {W W' : World} {b g : Nat} {cs : List Value} {x : Value} (h : Blk W b cs) (k : Wr g x W W') (hne : b ≠ g) : Blk W' b cs :=
  ⟨⟨Nat.lt_of_lt_of_le h.lt k.size, fun j x hx => (k.cell (p := ⟨b, j, none⟩) h.lt hne).trans (h.cells.2 j x hx)⟩, fun j => (k.frozen (p := ⟨b, j, none⟩) h.lt hne).trans (h.free j)⟩
theorem Blk.keep {W W' : World} {b : Nat} {cs : List Value} (h : Blk W b cs) (k : Below W.heap.size W W') : Blk W' b cs := ⟨h.cells.keep k h.lt, h.free.keep k h.lt⟩
theorem Blk.set {W : World} {b : Nat} {cs : List Value} (h : Blk W b cs) (k : Nat) (x : Value) (hk : k < cs.length) : Blk (W.setCell ⟨b, k, none⟩ x) b (cs.set k x) := by
  refine ⟨⟨by simpa using h.lt, fun j y hy => ?_⟩, fun j => by rw [World.frozen?_setCell]; exact h.free j⟩
  by_cases e : k = j
  · subst e
    rw [World.cell?_setCell_same W _ _ (h.cells.2 k _ (List.getElem?_eq_getElem hk))]
    rw [List.getElem?_set_self hk] at hy
    exact hy
  · rw [World.cell?_setCell_other W _ _ _ (by intro h; injection h; contradiction)]
    rw [List.getElem?_set_ne e] at hy
    exact h.cells.2 j y hy
theorem Blk.apart {W : World} {b b' : Nat} {cs : List Value} (h : Blk W b cs) (hne : b ≠ b') (k : Nat) (x : Value) : Blk (W.setCell ⟨b', k, none⟩ x) b cs :=
  ⟨⟨by simpa using h.lt, fun j y hy => by rw [World.cell?_setCell_other W _ _ _ (by intro h; injection h with h1; exact hne h1.symm)]; exact h.cells.2 j y hy⟩, fun j => by rw [World.frozen?_setCell]; exact h.free j⟩
theorem Blk.all_ {W : World} {b : Nat} {cs l : List Value} (h : Blk W b cs) (hl : cs.length = l.length) : Blk (setN W b 0 l) b l := ⟨h.cells.setN_ l hl, h.free.setN_ b 0 l⟩
theorem Blk.apartN {W : World} {b b' : Nat} {cs : List Value} (h : Blk W b cs) (hne : b ≠ b') (k : Nat) (l : List Value) : Blk (setN W b' k l) b cs := ⟨h.cells.apartN k l (fun e => hne e.symm), h.free.setN_ b' k l⟩
theorem Blk.new (W : World) (t : TypeId) (l : List Value) (n : Nat) (hn : n = W.heap.size) : Blk (W.alloc (.cells l.toArray t)) n l := ⟨cellsN_at W t l n hn, free5_at W l.toArray t n hn⟩
theorem Blk.alloc {W : World} {b : Nat} {cs : List Value} (h : Blk W b cs) (o : Obj) : Blk (W.alloc o) b cs := h.keep ((Below.refl _ _).alloc (Nat.le_refl _) _)

theorem Wr.setCell_new {g b : Nat} {x : Value} {w W : World} (h : Wr g x w W) (hb : w.heap.size ≤ b) (hne : b ≠ g) (k : Nat) (y : Value) : Wr g x w (W.setCell ⟨b, k, none⟩ y) where
  os := h.os
  tape := h.tape
  output := h.output
  size := by simpa using h.size
  block i hi hig := (Below.heap_setCell W _ y i (by show i ≠ b; omega)).trans (h.block i hi hig)
  at_ := ⟨by rw [World.cell?_setCell_other W _ _ _ (by intro e; injection e with e1; exact hne e1)]; exact h.at_.cell, by rw [World.frozen?_setCell]; exact h.at_.free, by simpa using h.at_.lt⟩
theorem Wr.setN_new {g b : Nat} {x : Value} {w : World} (hb : w.heap.size ≤ b) (hne : b ≠ g) : ∀ (l : List Value) (k : Nat) (W : World), Wr g x w W → Wr g x w (setN W b k l)
  | [], k, W, h => h
  | y :: r, k, W, h => by
    show Wr g x w (setN (W.setCell ⟨b, k, none⟩ y) b (k + 1) r)
    exact Wr.setN_new hb hne r (k + 1) _ (h.setCell_new hb hne k y)
theorem Wr.alloc {g : Nat} {x : Value} {w W : World} (h : Wr g x w W) (o : Obj) : Wr g x w (W.alloc o) := h.then_ ((Below.refl _ _).alloc (Nat.le_refl _) _)
/-- A row that stands elsewhere. -/
theorem isCells.wr {cs : List Value} {v : Value} {g : Nat} {x : Value} {w w' : World} (h : isCells cs v w) (k : Wr g x w w') (hg : blk v ≠ some g) : isCells cs v w' := by
  rcases h with h | h | ⟨b, off, cap, e, hlt, hc⟩
  · exact .inl h
  · exact .inr (.inl h)
  · have hne : b ≠ g := by rintro rfl; exact hg (by rw [e]; rfl)
    exact .inr (.inr ⟨b, off, cap, e, Nat.lt_of_lt_of_le hlt k.size, fun j x hx => (k.cell (p := ⟨b, off + j, none⟩) hlt hne).trans (hc j x hx)⟩)
theorem isCells.setCell_apart {cs : List Value} {v : Value} {w : World} (h : isCells cs v w) (g k : Nat) (x : Value) (hg : blk v ≠ some g) : isCells cs v (w.setCell ⟨g, k, none⟩ x) := by
  rcases h with h | h | ⟨b, off, cap, e, hlt, hc⟩
  · exact .inl h
  · exact .inr (.inl h)
  · have hne : b ≠ g := by rintro rfl; exact hg (by rw [e]; rfl)
    exact .inr (.inr ⟨b, off, cap, e, by simpa using hlt, fun j y hy => by rw [World.cell?_setCell_other w _ _ _ (by intro e; injection e with e1; exact hne e1.symm)]; exact hc j y hy⟩)
end Go.Proofs.YtebjljiklacolaaGreat
end
section
namespace Go.Proofs.YtebjljiklacolaaGreat
open Go.RowKit
set_option linter.unusedVariables false
set_option linter.unusedSimpArgs false
attribute [local irreducible] setN

/-- Behind a call of the reader. -/
theorem step3 {w W W' : World} {g r v : Nat} {x y : Value} {cr cv : List Value} (HW : Kept (Wr g x w W)) (HR : Kept (Blk W r cr)) (HV : Kept (Blk W v cv)) (h : Wr g y W W') (hr : r ≠ g) (hv : v ≠ g) : Kept (Wr g y w W') ∧ Kept (Blk W' r cr) ∧ Kept (Blk W' v cv) :=
  ⟨⟨HW.out.trans h⟩, ⟨HR.out.wr h hr⟩, ⟨HV.out.wr h hv⟩⟩
/-- Behind a store into the variable. -/
theorem set3 {w W : World} {g r v : Nat} {x : Value} {cr cv : List Value} (HW : Kept (Wr g x w W)) (HR : Kept (Blk W r cr)) (HV : Kept (Blk W v cv)) (k : Nat) (y : Value) (hk : k < cv.length) (hw : w.heap.size ≤ v) (hr : r ≠ v) (hv : v ≠ g) : Kept (Wr g x w (W.setCell ⟨v, k, none⟩ y)) ∧ Kept (Blk (W.setCell ⟨v, k, none⟩ y) r cr) ∧ Kept (Blk (W.setCell ⟨v, k, none⟩ y) v (cv.set k y)) :=
  ⟨⟨HW.out.setCell_new hw hv k y⟩, ⟨HR.out.apart hr k y⟩, ⟨HV.out.set k y hk⟩⟩
/-- A result's block and a variable's, in which a literal is laid down. -/
theorem lay3 (w : World) (g : Nat) (x : Value) (h : At w g x) (l : List Value) (hl : l.length = 8) (n m : Nat) (hn : n = w.heap.size) (hm : m = w.heap.size + 1) :
    Kept (Blk ((w.alloc (.cells #[.int .i64 0, .int .i64 0, .int .i64 0, .bool false, .string ⟨#[]⟩, .slice none 0 0, .slice none 0 0, .int .u64 0] 25)).alloc (.cells #[.int .i64 0, .int .i64 0, .int .i64 0, .bool false, .string ⟨#[]⟩, .slice none 0 0, .slice none 0 0, .int .u64 0] 25)) m [.int .i64 0, .int .i64 0, .int .i64 0, .bool false, .string ⟨#[]⟩, .slice none 0 0, .slice none 0 0, .int .u64 0]) ∧ Kept (Wr g x w (setN ((w.alloc (.cells #[.int .i64 0, .int .i64 0, .int .i64 0, .bool false, .string ⟨#[]⟩, .slice none 0 0, .slice none 0 0, .int .u64 0] 25)).alloc (.cells #[.int .i64 0, .int .i64 0, .int .i64 0, .bool false, .string ⟨#[]⟩, .slice none 0 0, .slice none 0 0, .int .u64 0] 25)) m 0 l)) ∧ Kept (Blk (setN ((w.alloc (.cells #[.int .i64 0, .int .i64 0, .int .i64 0, .bool false, .string ⟨#[]⟩, .slice none 0 0, .slice none 0 0, .int .u64 0] 25)).alloc (.cells #[.int .i64 0, .int .i64 0, .int .i64 0, .bool false, .string ⟨#[]⟩, .slice none 0 0, .slice none 0 0, .int .u64 0] 25)) m 0 l) n [.int .i64 0, .int .i64 0, .int .i64 0, .bool false, .string ⟨#[]⟩, .slice none 0 0, .slice none 0 0, .int .u64 0]) ∧ Kept (Blk (setN ((w.alloc (.cells #[.int .i64 0, .int .i64 0, .int .i64 0, .bool false, .string ⟨#[]⟩, .slice none 0 0, .slice none 0 0, .int .u64 0] 25)).alloc (.cells #[.int .i64 0, .int .i64 0, .int .i64 0, .bool false, .string ⟨#[]⟩, .slice none 0 0, .slice none 0 0, .int .u64 0] 25)) m 0 l) m l) := by
  subst hn hm
  have hg := h.lt
  have b1 := Blk.new w 25 [.int .i64 0, .int .i64 0, .int .i64 0, .bool false, .string ⟨#[]⟩, .slice none 0 0, .slice none 0 0, .int .u64 0] w.heap.size rfl
  have b2 := Blk.new (w.alloc (.cells #[.int .i64 0, .int .i64 0, .int .i64 0, .bool false, .string ⟨#[]⟩, .slice none 0 0, .slice none 0 0, .int .u64 0] 25)) 25 [.int .i64 0, .int .i64 0, .int .i64 0, .bool false, .string ⟨#[]⟩, .slice none 0 0, .slice none 0 0, .int .u64 0] (w.heap.size + 1) (by simp)
  exact ⟨⟨b2⟩, ⟨Wr.setN_new (by omega) (by omega) l 0 _ (((Wr.refl h).alloc _).alloc _)⟩, ⟨(b1.alloc _).apartN (by omega) 0 l⟩, ⟨b2.all_ hl.symm⟩⟩
set_option maxRecDepth 100000 in
set_option maxHeartbeats 2000000 in
theorem rreg_any (g : Nat) (l : List UInt8) (w : World) (h : At w g (txt l)) (hl : 32 ≤ l.length) (hl2 : l.length ≤ 1000) :
    Calls Tryz.prog 67 #[ptr g] w fun e w' => (regOk l ∧ (∃ v', e = .returned v' ∧ isVaN w.heap.size (regV l) v' w') ∧ Wr g (txt (regR l)) w w') ∨ (¬ regOk l ∧ e = Gave ∧ ∃ x, Wr g x w w') := by
  obtain ⟨K1, HW, HR, HV⟩ := lay3 w g (txt l) h [.int .i64 1, .int .i64 0, .int .i64 0, .bool false, .string ⟨#[]⟩, .slice none 0 0, .slice none 0 0, .int .u64 0] rfl w.heap.size (w.heap.size + 1) rfl rfl
  have hg := h.lt
  have K5 : Kept (Ones [.int .i64 1, .int .i64 0, .int .i64 0, .bool false, .string ⟨#[]⟩, .slice none 0 0, .slice none 0 0, .int .u64 0]) := ⟨⟨rfl, rfl, rfl, rfl, rfl, rfl, rfl, rfl, trivial⟩⟩
  go_enter Tryz.func67, Tryz.ntmps67
  go_wp2_with (refine wpList_storeN 25 rfl (.tmp 3) (.tmp 6) rfl (w.heap.size + 1) [.int .i64 1, .int .i64 0, .int .i64 0, .bool false, .string ⟨#[]⟩, .slice none 0 0, .slice none 0 0, .int .u64 0] size_va rfl rfl K1.out.cells rfl K1.out.free K5.out ?_)
  generalize setN ((w.alloc (.cells #[.int .i64 0, .int .i64 0, .int .i64 0, .bool false, .string ⟨#[]⟩, .slice none 0 0, .slice none 0 0, .int .u64 0] 25)).alloc (.cells #[.int .i64 0, .int .i64 0, .int .i64 0, .bool false, .string ⟨#[]⟩, .slice none 0 0, .slice none 0 0, .int .u64 0] 25)) (w.heap.size + 1) 0 [.int .i64 1, .int .i64 0, .int .i64 0, .bool false, .string ⟨#[]⟩, .slice none 0 0, .slice none 0 0, .int .u64 0] = W1 at *
  clear K1 K5
  refine (rnumber_any g l 4 W1 HW.out.at_ (by omega) (by omega) (by omega) (by first | omega | (simp only [List.length_drop]; omega))).mono ?_
  rintro e W2 ⟨rfl, hw⟩
  replace ⟨HW, HR, HV⟩ := step3 HW HR HV hw (by omega) (by omega)
  clear hw
  generalize hT : getN (l.take 4) = tm
  have HT := Kept.mk hT
  clear hT
  have c1 := HV.out.cells.2 1 _ rfl
  have f1 := HV.out.free 1
  go_wp2_with fail
  clear c1 f1
  replace ⟨HW, HR, HV⟩ := set3 HW HR HV 1 (.int .i64 (tm : Int)) (by simp) (by omega) (by omega) (by omega)
  generalize W2.setCell ⟨w.heap.size + 1, 1, none⟩ (.int .i64 (tm : Int)) = W3 at *
  refine (rnumber_any g (l.drop 4) 1 W3 HW.out.at_ (by omega) (by omega) (by first | omega | (simp only [List.length_drop]; omega)) (by first | omega | (simp only [List.length_drop]; omega))).mono ?_
  rintro e W4 ⟨rfl, hw⟩
  replace ⟨HW, HR, HV⟩ := step3 HW HR HV hw (by omega) (by omega)
  clear hw
  generalize hN : getN ((l.drop 4).take 1) = nd
  have HN := Kept.mk hN
  clear hN
  have c2 := HV.out.cells.2 2 _ rfl
  have f2 := HV.out.free 2
  go_wp2_with fail
  clear c2 f2
  replace ⟨HW, HR, HV⟩ := set3 HW HR HV 2 (.int .i64 (nd : Int)) (by simp) (by omega) (by omega) (by omega)
  generalize W4.setCell ⟨w.heap.size + 1, 2, none⟩ (.int .i64 (nd : Int)) = W5 at *
  refine (rnumber_any g ((l.drop 4).drop 1) 1 W5 HW.out.at_ (by omega) (by omega) (by first | omega | (simp only [List.length_drop]; omega)) (by first | omega | (simp only [List.length_drop]; omega))).mono ?_
  rintro e W6 ⟨rfl, hw⟩
  replace ⟨HW, HR, HV⟩ := step3 HW HR HV hw (by omega) (by omega)
  clear hw
  generalize hD : getN (((l.drop 4).drop 1).take 1) = dd
  have HD := Kept.mk hD
  clear hD
  go_wp2_with fail
  by_cases hd1 : (dd : Int) ≤ 1
  · refine (insist_yes _ (by first | rfl | simpa using hd1) _).mono ?_
    rintro e w9 ⟨rfl, rfl⟩
    have HD1 := Kept.mk hd1
    clear hd1
    have c3 := HV.out.cells.2 3 _ rfl
    have f3 := HV.out.free 3
    go_wp2_with fail
    clear c3 f3
    generalize hQ : ((dd : Int) == 1) = qd
    have HQ := Kept.mk hQ
    clear hQ
    replace ⟨HW, HR, HV⟩ := set3 HW HR HV 3 (.bool qd) (by simp) (by omega) (by omega) (by omega)
    generalize W6.setCell ⟨w.heap.size + 1, 3, none⟩ (.bool qd) = W7 at *
    refine (rnumber_any g (((l.drop 4).drop 1).drop 1) 1 W7 HW.out.at_ (by omega) (by omega) (by first | omega | (simp only [List.length_drop]; omega)) (by first | omega | (simp only [List.length_drop]; omega))).mono ?_
    rintro e W8 ⟨rfl, hw⟩
    replace ⟨HW, HR, HV⟩ := step3 HW HR HV hw (by omega) (by omega)
    clear hw
    have hz : getN ((((l.drop 4).drop 1).drop 1).take 1) < 256 := by have := getN_lt ((((l.drop 4).drop 1).drop 1).take 1); rw [List.length_take, Nat.min_eq_left (by first | omega | (simp only [List.length_drop]; omega))] at this; exact this
    generalize hZ : getN ((((l.drop 4).drop 1).drop 1).take 1) = z at hz ⊢
    have HZ := Kept.mk hZ
    clear hZ
    go_wp2_with fail
    refine (padded_any g ((((l.drop 4).drop 1).drop 1).drop 1) z W8 HW.out.at_ (by first | omega | (simp only [List.length_drop]; omega)) (by first | omega | (simp only [List.length_drop]; omega)) (by omega)).mono ?_
    rintro e W9 (⟨hp, rfl, hw⟩ | ⟨hp, rfl, x, hw⟩)
    · replace ⟨HW, HR, HV⟩ := step3 HW HR HV hw (by omega) (by omega)
      clear hw
      have HP := Kept.mk hp
      clear hp
      generalize hX : ((((l.drop 4).drop 1).drop 1).drop 1).take z = tx
      have HX := Kept.mk hX
      clear hX
      have c0 : W9.cell? ⟨w.heap.size + 1, 0, none⟩ = some (.int .i64 1) := HV.out.cells.2 0 _ rfl
      have c1 : W9.cell? ⟨w.heap.size + 1, 1, none⟩ = some (.int .i64 (tm : Int)) := HV.out.cells.2 1 _ rfl
      have c2 : W9.cell? ⟨w.heap.size + 1, 2, none⟩ = some (.int .i64 (nd : Int)) := HV.out.cells.2 2 _ rfl
      have c3 : W9.cell? ⟨w.heap.size + 1, 3, none⟩ = some (.bool qd) := HV.out.cells.2 3 _ rfl
      have c4 : W9.cell? ⟨w.heap.size + 1, 4, none⟩ = some (.string ⟨#[]⟩) := HV.out.cells.2 4 _ rfl
      have c5 : W9.cell? ⟨w.heap.size + 1, 5, none⟩ = some (.slice none 0 0) := HV.out.cells.2 5 _ rfl
      have c6 : W9.cell? ⟨w.heap.size + 1, 6, none⟩ = some (.slice none 0 0) := HV.out.cells.2 6 _ rfl
      have c7 : W9.cell? ⟨w.heap.size + 1, 7, none⟩ = some (.int .u64 0) := HV.out.cells.2 7 _ rfl
      have f4 := HV.out.free 4
      have K5 : Kept (Ones [.int .i64 1, .int .i64 (tm : Int), .int .i64 (nd : Int), .bool qd, .string ⟨tx.toArray⟩, .slice none 0 0, .slice none 0 0, .int .u64 0]) := ⟨⟨rfl, rfl, rfl, rfl, rfl, rfl, rfl, rfl, trivial⟩⟩
      replace ⟨HW, HR, HV⟩ := set3 HW HR HV 4 (.string ⟨tx.toArray⟩) (by simp) (by omega) (by omega) (by omega)
      have HE := Kept.mk (Wr.setN_new (Nat.le_refl _) (by omega) [.int .i64 1, .int .i64 (tm : Int), .int .i64 (nd : Int), .bool qd, .string ⟨tx.toArray⟩, .slice none 0 0, .slice none 0 0, .int .u64 0] 0 _ HW.out)
      have HC := Kept.mk (HR.out.all_ (l := [.int .i64 1, .int .i64 (tm : Int), .int .i64 (nd : Int), .bool qd, .string ⟨tx.toArray⟩, .slice none 0 0, .slice none 0 0, .int .u64 0]) rfl).cells
      clear HV HW
      go_wp2_with (refine wpList_storeN 25 rfl (.tmp 2) (.tmp 27) rfl w.heap.size [.int .i64 1, .int .i64 (tm : Int), .int .i64 (nd : Int), .bool qd, .string ⟨tx.toArray⟩, .slice none 0 0, .slice none 0 0, .int .u64 0] size_va rfl rfl HR.out.cells rfl HR.out.free K5.out ?_)
      have ev : regV l = ⟨1, (tm : Int), (nd : Int), qd, tx, [], [], 0⟩ := by
        unfold regV
        rw [HT.out, HN.out, HD.out, HZ.out, HX.out, ← HQ.out]
        congr 1
        rw [Bool.eq_iff_iff]; simp; omega
      rw [ev]
      refine bodyPost_ret (resultsN1 rfl _ _ w.heap.size _ size_va agg_va rfl HC.out) rfl (.inl ⟨⟨by rw [HD.out]; have := HD1.out; omega, by unfold regZ regS; rw [HZ.out]; exact HP.out⟩, ⟨_, rfl, .slice none 0 0, .slice none 0 0, rfl, .inl ⟨rfl, rfl⟩, .inl ⟨rfl, rfl⟩, newB_nil _, newB_nil _⟩, ?_⟩)
      unfold regR regZ regS
      rw [HZ.out]
      exact HE.out
    · replace ⟨HW, HR, HV⟩ := step3 HW HR HV hw (by omega) (by omega)
      clear hw
      have HP := Kept.mk hp
      clear hp
      go_wp2
      exact ⟨rfl, .inr ⟨fun k => HP.out (by have := k.2; unfold regZ regS at this; rwa [HZ.out] at this), rfl, _, HW.out⟩⟩
  · refine (insist_no _ (by first | rfl | simpa using hd1) _).mono ?_
    rintro e w9 ⟨rfl, rfl⟩
    go_wp2
    exact ⟨rfl, .inr ⟨fun k => by have := k.1; rw [HD.out] at this; omega, rfl, _, HW.out⟩⟩
end Go.Proofs.YtebjljiklacolaaGreat
end
section
namespace Go.Proofs.YtebjljiklacolaaGreat
open Go.RowKit
set_option linter.unusedVariables false
set_option linter.unusedSimpArgs false

theorem same_split (A B : Va) : decide (A = B) = ((A.kind == B.kind) && (A.time == B.time) && (A.node == B.node) && (A.dead == B.dead) && (A.text == B.text) && decide (A.plus = B.plus) && decide (A.minus = B.minus) && ((A.flags.toNat : Int) == (B.flags.toNat : Int))) := by
  obtain ⟨a0, a1, a2, a3, a4, a5, a6, a7⟩ := A
  obtain ⟨b0, b1, b2, b3, b4, b5, b6, b7⟩ := B
  rw [Bool.eq_iff_iff]
  simp only [decide_eq_true_eq, Bool.and_eq_true, beq_iff_eq, Va.mk.injEq]
  have h7 : a7 = b7 ↔ (a7.toNat : Int) = (b7.toNat : Int) := by rw [← UInt64.toNat_inj]; omega
  rw [h7]
  constructor
  · rintro ⟨h0, h1, h2, h3, h4, h5, h6, h7⟩; exact ⟨⟨⟨⟨⟨⟨⟨h0, h1⟩, h2⟩, h3⟩, h4⟩, h5⟩, h6⟩, h7⟩
  · rintro ⟨⟨⟨⟨⟨⟨⟨h0, h1⟩, h2⟩, h3⟩, h4⟩, h5⟩, h6⟩, h7⟩; exact ⟨h0, h1, h2, h3, h4, h5, h6, h7⟩
set_option maxRecDepth 20000 in
set_option maxHeartbeats 2000000 in
theorem vsame_any (A B : Va) (v u : Value) (w : World) (hv : isVa A v w) (hu : isVa B u w) (h1 : A.plus.length ≤ 1000000000) (h2 : A.minus.length ≤ 1000000000) (h3 : B.plus.length ≤ 1000000000) (h4 : B.minus.length ≤ 1000000000) :
    Calls Tryz.prog 33 #[v, u] w fun e w' => e = .returned (.bool (decide (A = B))) ∧ Below w.heap.size w w' := by
  obtain ⟨vp, vm, rfl, hp, hm⟩ := hv
  obtain ⟨up, um, rfl, gp, gm⟩ := hu
  obtain ⟨hB0, hV0⟩ := vbox w A vp vm hp hm w.heap.size rfl
  obtain ⟨hB1, hU⟩ := vbox _ B up um (stable_cells _ _ _ _ gp hB0.out) (stable_cells _ _ _ _ gm hB0.out) (w.heap.size + 1) (by simp)
  have hV := Kept.mk (hV0.out.keep hB1.out)
  have hB := Kept.mk (hB0.out.trans (hB1.out.mono hB0.out.size))
  have HP := Kept.mk hp
  have HM := Kept.mk hm
  have GP := Kept.mk gp
  have GM := Kept.mk gm
  have HS := Kept.mk (same_split A B)
  clear hp hm gp gm hV0 hB0 hB1
  cases d0 : (A.kind == B.kind) with
  | false =>
    go_enter Tryz.func33, Tryz.ntmps33
    go_wp2
    go_ret
    exact ⟨by rw [HS.out, d0]; rfl, hB.out⟩
  | true =>
    cases d1 : (A.time == B.time) with
    | false =>
      go_enter Tryz.func33, Tryz.ntmps33
      go_wp2
      go_ret
      exact ⟨by rw [HS.out, d0, d1]; rfl, hB.out⟩
    | true =>
      cases d2 : (A.node == B.node) with
      | false =>
        go_enter Tryz.func33, Tryz.ntmps33
        go_wp2
        go_ret
        exact ⟨by rw [HS.out, d0, d1, d2]; rfl, hB.out⟩
      | true =>
        cases d3 : (A.dead == B.dead) with
        | false =>
          go_enter Tryz.func33, Tryz.ntmps33
          go_wp2
          go_ret
          exact ⟨by rw [HS.out, d0, d1, d2, d3]; rfl, hB.out⟩
        | true =>
          cases d4 : (A.text == B.text) with
          | false =>
            go_enter Tryz.func33, Tryz.ntmps33
            go_wp2
            go_ret
            exact ⟨by rw [HS.out, d0, d1, d2, d3, d4]; rfl, hB.out⟩
          | true =>
            go_enter Tryz.func33, Tryz.ntmps33
            go_wp2_with fail
            refine (equal_i A.plus B.plus _ _ _ (stable_cells _ _ _ _ HP.out hB.out) (stable_cells _ _ _ _ GP.out hB.out) (by omega) (by omega)).mono ?_
            rintro e w5 ⟨rfl, hb⟩
            replace hV := Kept.mk (hV.out.keep hb)
            replace hU := Kept.mk (hU.out.keep hb)
            replace hB := Kept.mk (hB.out.trans (hb.mono hB.out.size))
            clear hb
            obtain ⟨qA5, rA5, _, _, hmA, kA0, kA1, kA2, kA3, kA4, kA5, kA6, kA7⟩ := hV.out.open_
            obtain ⟨qB5, rB5, _, _, hmB, kB0, kB1, kB2, kB3, kB4, kB5, kB6, kB7⟩ := hU.out.open_
            cases d5 : decide (A.plus = B.plus) with
            | false =>
              go_wp2
              go_ret
              exact ⟨by rw [HS.out, d0, d1, d2, d3, d4, d5]; rfl, hB.out⟩
            | true =>
              have HP2 := Kept.mk (show True from trivial)
              go_wp2_with fail
              refine (equal_i A.minus B.minus _ _ _ hmA.out hmB.out (by omega) (by omega)).mono ?_
              rintro e w6 ⟨rfl, hb⟩
              replace hV := Kept.mk (hV.out.keep hb)
              replace hU := Kept.mk (hU.out.keep hb)
              replace hB := Kept.mk (hB.out.trans (hb.mono hB.out.size))
              clear hb
              clear hmA hmB kA0 kA1 kA2 kA3 kA4 kA5 kA6 kA7 kB0 kB1 kB2 kB3 kB4 kB5 kB6 kB7
              obtain ⟨qA6, rA6, _, _, hmA, kA0, kA1, kA2, kA3, kA4, kA5, kA6, kA7⟩ := hV.out.open_
              obtain ⟨qB6, rB6, _, _, hmB, kB0, kB1, kB2, kB3, kB4, kB5, kB6, kB7⟩ := hU.out.open_
              cases d6 : decide (A.minus = B.minus) with
              | false =>
                go_wp2
                go_ret
                exact ⟨by rw [HS.out, d0, d1, d2, d3, d4, d5, d6]; rfl, hB.out⟩
              | true =>
                cases d7 : ((A.flags.toNat : Int) == (B.flags.toNat : Int)) with
                | false =>
                  go_wp2
                  go_ret
                  exact ⟨by rw [HS.out, d0, d1, d2, d3, d4, d5, d6, d7]; rfl, hB.out⟩
                | true =>
                  go_wp2
                  go_ret
                  exact ⟨by rw [HS.out, d0, d1, d2, d3, d4, d5, d6, d7]; rfl, hB.out⟩
end Go.Proofs.YtebjljiklacolaaGreat
end
section
namespace Go.Proofs.YtebjljiklacolaaGreat
open Go.RowKit
set_option linter.unusedVariables false
set_option linter.unusedSimpArgs false
attribute [local irreducible] setN

set_option maxRecDepth 20000 in
set_option maxHeartbeats 1000000 in
theorem flagsInrange_any (A : Va) (v : Value) (w : World) (hv : isVa A v w) :
    Calls Tryz.prog 129 #[.agg #[], v] w fun e w' => e = .returned (.bool true) ∧ Below w.heap.size w w' := by
  obtain ⟨vp, vm, rfl, hp, hm⟩ := hv
  have hB0 := lit_below w (.cells #[] 104)
  obtain ⟨hB1, hV⟩ := vbox _ A vp vm (stable_cells _ _ _ _ hp hB0) (stable_cells _ _ _ _ hm hB0) (w.heap.size + 1) (by simp)
  have hB := Kept.mk (hB0.trans (hB1.out.mono hB0.size))
  clear hp hm hB0 hB1 hV
  go_enter Tryz.func129, Tryz.ntmps129
  go_wp2
  go_ret
  exact ⟨rfl, hB.out⟩
set_option maxRecDepth 20000 in
set_option maxHeartbeats 1000000 in
theorem regIn_any (A : Va) (v : Value) (w : World) (hv : isVa A v w) (hl : A.text.length ≤ 1000000000) :
    Calls Tryz.prog 104 #[.agg #[], v] w fun e w' => e = .returned (.bool (inReg A)) ∧ Below w.heap.size w w' := by
  obtain ⟨vp, vm, rfl, hp, hm⟩ := hv
  have hB0 := lit_below w (.cells #[] 102)
  obtain ⟨hB1, hV⟩ := vbox _ A vp vm (stable_cells _ _ _ _ hp hB0) (stable_cells _ _ _ _ hm hB0) (w.heap.size + 1) (by simp)
  have hB := Kept.mk (hB0.trans (hB1.out.mono hB0.size))
  clear hp hm hB0 hB1 hV
  have HI := Kept.mk (show inReg A = ((decide (0 ≤ A.time) && decide (A.time ≤ 2147483647)) && (decide (0 ≤ A.node) && decide (A.node ≤ 7)) && decide ((A.text.length : Int) ≤ 8) && (!A.dead || A.text.isEmpty)) by unfold inReg; cases A.text <;> rfl)
  have hsz : (⟨A.text.toArray⟩ : ByteArray).size = A.text.length := size_mk _
  go_enter Tryz.func104, Tryz.ntmps104
  go_wp2_with fail
  refine (within_any _ _ _).mono ?_; rintro e w' ⟨rfl, rfl⟩
  cases d1 : (decide (0 ≤ A.time) && decide (A.time ≤ 2147483647)) with
  | false =>
    go_wp2
    go_ret
    exact ⟨by rw [HI.out, d1]; rfl, hB.out⟩
  | true =>
    go_wp2_with fail
    refine (within_any _ _ _).mono ?_; rintro e w' ⟨rfl, rfl⟩
    cases d2 : (decide (0 ≤ A.node) && decide (A.node ≤ 7)) with
    | false =>
      go_wp2
      go_ret
      exact ⟨by rw [HI.out, d1, d2]; rfl, hB.out⟩
    | true =>
      cases d3 : decide ((A.text.length : Int) ≤ 8) with
      | false =>
        go_wp2
        go_ret
        exact ⟨by rw [HI.out, d1, d2, d3]; rfl, hB.out⟩
      | true =>
        cases d4 : A.dead with
        | false =>
          rw [d4] at hB
          go_wp2
          go_ret
          exact ⟨by rw [HI.out, d1, d2, d3, d4]; rfl, hB.out⟩
        | true =>
          rw [d4] at hB
          go_wp2
          go_ret
          exact ⟨by rw [HI.out, d1, d2, d3, d4]; rfl, hB.out⟩
set_option maxRecDepth 20000 in
set_option maxHeartbeats 1000000 in
theorem countIn_any (A : Va) (v : Value) (w : World) (hv : isVa A v w) (h1 : A.plus.length ≤ 1000000000) (h2 : A.minus.length ≤ 1000000000) :
    Calls Tryz.prog 116 #[.agg #[], v] w fun e w' => e = .returned (.bool (inCount A)) ∧ Below w.heap.size w w' := by
  obtain ⟨vp, vm, rfl, hp, hm⟩ := hv
  have hB0 := lit_below w (.cells #[] 103)
  obtain ⟨hB1, hV⟩ := vbox _ A vp vm (stable_cells _ _ _ _ hp hB0) (stable_cells _ _ _ _ hm hB0) (w.heap.size + 1) (by simp)
  have hB := Kept.mk (hB0.trans (hB1.out.mono hB0.size))
  have HP := Kept.mk (stable_cells _ _ _ _ hp hB.out)
  have HM := Kept.mk (stable_cells _ _ _ _ hm hB.out)
  clear hp hm hB0 hB1 hV
  have HI := Kept.mk (show inCount A = (okRow A.plus && okRow A.minus) from rfl)
  go_enter Tryz.func116, Tryz.ntmps116
  go_wp2_with fail
  refine (isRow_any A.plus _ _ HP.out (by omega)).mono ?_; rintro e w' ⟨rfl, rfl⟩
  cases d1 : okRow A.plus with
  | false =>
    go_wp2
    go_ret
    exact ⟨by rw [HI.out, d1]; rfl, hB.out⟩
  | true =>
    go_wp2_with fail
    refine (isRow_any A.minus _ _ HM.out (by omega)).mono ?_; rintro e w' ⟨rfl, rfl⟩
    cases d2 : okRow A.minus with
    | false =>
      go_wp2
      go_ret
      exact ⟨by rw [HI.out, d1, d2]; rfl, hB.out⟩
    | true =>
      go_wp2
      go_ret
      exact ⟨by rw [HI.out, d1, d2]; rfl, hB.out⟩
set_option maxRecDepth 20000 in
set_option maxHeartbeats 1000000 in
theorem regOnly_any (A : Va) (v : Value) (w : World) (hv : isVa A v w) :
    Calls Tryz.prog 107 #[.agg #[], v] w fun e w' => ∃ v', e = .returned v' ∧ isVaN w.heap.size (onlyReg A) v' w' ∧ Below w.heap.size w w' := by
  obtain ⟨vp, vm, rfl, hp, hm⟩ := hv
  have hB0 := lit_below w (.cells #[] 102)
  obtain ⟨hB1, hV⟩ := vbox _ A vp vm (stable_cells _ _ _ _ hp hB0) (stable_cells _ _ _ _ hm hB0) (w.heap.size + 1) (by simp)
  have hB := Kept.mk (hB0.trans (hB1.out.mono hB0.size))
  obtain ⟨K1, K2, K3, K4, K5⟩ := vnew ((w.alloc (.cells #[] 102)).alloc (.cells #[.int .i64 A.kind, .int .i64 A.time, .int .i64 A.node, .bool A.dead, .string ⟨A.text.toArray⟩, vp, vm, .int .u64 (A.flags.toNat : Int)] 25)) (onlyReg A) (.slice none 0 0) (.slice none 0 0) (.inl ⟨rfl, rfl⟩) (.inl ⟨rfl, rfl⟩) (w.heap.size + 2) (by simp)
  obtain ⟨hc', hp', hm'⟩ := K4.out
  have hBK := Kept.mk (hB.out.trans (K3.out.mono hB.out.size))
  clear hB0 hB1 hV hB K3 K4 hp hm
  go_enter Tryz.func107, Tryz.ntmps107
  go_wp2_with (refine wpList_storeN 25 rfl (.tmp 4) (.tmp 13) rfl (w.heap.size + 2) [.int .i64 1, .int .i64 A.time, .int .i64 A.node, .bool A.dead, .string ⟨A.text.toArray⟩, .slice none 0 0, .slice none 0 0, .int .u64 0] size_va rfl rfl K1.out rfl K2.out K5.out ?_)
  exact bodyPost_ret (resultsN1 rfl _ _ (w.heap.size + 2) _ size_va agg_va rfl hc') rfl ⟨_, rfl, ⟨_, _, rfl, hp', hm', newB_nil _, newB_nil _⟩, hBK.out⟩
set_option maxRecDepth 20000 in
set_option maxHeartbeats 1000000 in
theorem flagsOnly_any (A : Va) (v : Value) (w : World) (hv : isVa A v w) :
    Calls Tryz.prog 132 #[.agg #[], v] w fun e w' => ∃ v', e = .returned v' ∧ isVaN w.heap.size (onlyFlags A) v' w' ∧ Below w.heap.size w w' := by
  obtain ⟨vp, vm, rfl, hp, hm⟩ := hv
  have hB0 := lit_below w (.cells #[] 104)
  obtain ⟨hB1, hV⟩ := vbox _ A vp vm (stable_cells _ _ _ _ hp hB0) (stable_cells _ _ _ _ hm hB0) (w.heap.size + 1) (by simp)
  have hB := Kept.mk (hB0.trans (hB1.out.mono hB0.size))
  obtain ⟨K1, K2, K3, K4, K5⟩ := vnew ((w.alloc (.cells #[] 104)).alloc (.cells #[.int .i64 A.kind, .int .i64 A.time, .int .i64 A.node, .bool A.dead, .string ⟨A.text.toArray⟩, vp, vm, .int .u64 (A.flags.toNat : Int)] 25)) (onlyFlags A) (.slice none 0 0) (.slice none 0 0) (.inl ⟨rfl, rfl⟩) (.inl ⟨rfl, rfl⟩) (w.heap.size + 2) (by simp)
  obtain ⟨hc', hp', hm'⟩ := K4.out
  have hBK := Kept.mk (hB.out.trans (K3.out.mono hB.out.size))
  clear hB0 hB1 hV hB K3 K4 hp hm
  go_enter Tryz.func132, Tryz.ntmps132
  go_wp2_with (refine wpList_storeN 25 rfl (.tmp 4) (.tmp 7) rfl (w.heap.size + 2) [.int .i64 3, .int .i64 0, .int .i64 0, .bool false, .string ⟨#[]⟩, .slice none 0 0, .slice none 0 0, .int .u64 (A.flags.toNat : Int)] size_va rfl rfl K1.out rfl K2.out K5.out ?_)
  exact bodyPost_ret (resultsN1 rfl _ _ (w.heap.size + 2) _ size_va agg_va rfl hc') rfl ⟨_, rfl, ⟨_, _, rfl, hp', hm', newB_nil _, newB_nil _⟩, hBK.out⟩
theorem or_u64 (x y : UInt64) : bits .or .u64 (x.toNat : Int) (y.toNat : Int) = ((x ||| y).toNat : Int) := by
  rw [u64_or_nat _ _ x.toNat_lt y.toNat_lt, UInt64.toNat_or]
set_option maxRecDepth 20000 in
set_option maxHeartbeats 1000000 in
theorem flagsJoin_any (A B : Va) (v u : Value) (w : World) (hv : isVa A v w) (hu : isVa B u w) :
    Calls Tryz.prog 130 #[.agg #[], v, u] w fun e w' => ∃ v', e = .returned v' ∧ isVaN w.heap.size (joinFlags A B) v' w' ∧ Below w.heap.size w w' := by
  obtain ⟨up, um, rfl, gp, gm⟩ := hu
  obtain ⟨vp, vm, rfl, hp, hm⟩ := hv
  have hB0 := lit_below w (.cells #[] 104)
  obtain ⟨hB1, hV⟩ := vbox _ A vp vm (stable_cells _ _ _ _ hp hB0) (stable_cells _ _ _ _ hm hB0) (w.heap.size + 1) (by simp)
  have hB := Kept.mk (hB0.trans (hB1.out.mono hB0.size))
  obtain ⟨hB2, hU⟩ := vbox ((w.alloc (.cells #[] 104)).alloc (.cells #[.int .i64 A.kind, .int .i64 A.time, .int .i64 A.node, .bool A.dead, .string ⟨A.text.toArray⟩, vp, vm, .int .u64 (A.flags.toNat : Int)] 25)) B up um (stable_cells _ _ _ _ gp hB.out) (stable_cells _ _ _ _ gm hB.out) (w.heap.size + 2) (by simp)
  replace hB := Kept.mk (hB.out.trans (hB2.out.mono hB.out.size))
  obtain ⟨K1, K2, K3, K4, K5⟩ := vnew (((w.alloc (.cells #[] 104)).alloc (.cells #[.int .i64 A.kind, .int .i64 A.time, .int .i64 A.node, .bool A.dead, .string ⟨A.text.toArray⟩, vp, vm, .int .u64 (A.flags.toNat : Int)] 25)).alloc (.cells #[.int .i64 B.kind, .int .i64 B.time, .int .i64 B.node, .bool B.dead, .string ⟨B.text.toArray⟩, up, um, .int .u64 (B.flags.toNat : Int)] 25)) (joinFlags A B) (.slice none 0 0) (.slice none 0 0) (.inl ⟨rfl, rfl⟩) (.inl ⟨rfl, rfl⟩) (w.heap.size + 3) (by simp)
  obtain ⟨hc', hp', hm'⟩ := K4.out
  have hBK := Kept.mk (hB.out.trans (K3.out.mono hB.out.size))
  have hor := or_u64 A.flags B.flags
  clear hB0 hB1 hB2 hV hU hB K3 K4 hp hm gp gm
  go_enter Tryz.func130, Tryz.ntmps130
  go_wp2_with (refine wpList_storeN 25 rfl (.tmp 6) (.tmp 12) rfl (w.heap.size + 3) [.int .i64 3, .int .i64 0, .int .i64 0, .bool false, .string ⟨#[]⟩, .slice none 0 0, .slice none 0 0, .int .u64 ((A.flags ||| B.flags).toNat : Int)] size_va rfl (by rw [UInt64.toNat_or]; rfl) K1.out rfl K2.out K5.out ?_)
  exact bodyPost_ret (resultsN1 rfl _ _ (w.heap.size + 3) _ size_va agg_va rfl hc') rfl ⟨_, rfl, ⟨_, _, rfl, hp', hm', newB_nil _, newB_nil _⟩, hBK.out⟩
end Go.Proofs.YtebjljiklacolaaGreat
end
section
namespace Go.Proofs.YtebjljiklacolaaGreat
open Go.RowKit
set_option linter.unusedVariables false
set_option linter.unusedSimpArgs false
attribute [local irreducible] setN

theorem nums_snoc : ∀ (k : Nat) (l : List UInt8), numsOf (k + 1) l = numsOf k l ++ [(getN ((restOf k l).take 2) : Int)]
  | 0, l => rfl
  | k + 1, l => by
    rw [numsOf, nums_snoc k (l.drop 2), numsOf, restOf, List.cons_append]
theorem rest_snoc : ∀ (k : Nat) (l : List UInt8), restOf (k + 1) l = (restOf k l).drop 2
  | 0, l => rfl
  | k + 1, l => by
    rw [restOf, rest_snoc k (l.drop 2), restOf]
theorem flags_or (lo hi : Nat) (h1 : lo < 4294967296) (h2 : hi < 4294967296) : bits .or .u64 (lo : Int) ((hi : Int) * 4294967296) = ((UInt64.ofNat (lo + 4294967296 * hi)).toNat : Int) := by
  have e : (hi : Int) * 4294967296 = ((4294967296 * hi : Nat) : Int) := by omega
  have e2 : 4294967296 * hi ||| lo = 4294967296 * hi + lo := (Nat.two_pow_add_eq_or_of_lt (i := 32) h1 hi).symm
  rw [e, u64_or_nat _ _ (by omega) (by omega), Nat.or_comm, e2, UInt64.toNat_ofNat', Nat.mod_eq_of_lt (by omega)]
  congr 1
  omega
def rowL (k : Nat) (l : List UInt8) : List Value := (numsOf k l).map intC ++ List.replicate (8 - k) (intC 0)
theorem rowL_len (k : Nat) (l : List UInt8) (h : k ≤ 8) : (rowL k l).length = 8 := by
  simp only [rowL, List.length_append, List.length_map, length_numsOf, List.length_replicate]; omega
theorem rowL_set (k : Nat) (l : List UInt8) (h : k < 8) : (rowL k l).set k (intC (getN ((restOf k l).take 2) : Int)) = rowL (k + 1) l := by
  unfold rowL
  rw [nums_snoc, List.map_append, show 8 - k = (8 - (k + 1)) + 1 by omega, List.replicate_succ, List.set_append_right _ _ (by simp [length_numsOf])]
  simp [length_numsOf]
theorem rowL_at (k : Nat) (l : List UInt8) (h : k < 8) : (rowL k l)[k]? = some (intC 0) := by
  unfold rowL
  rw [List.getElem?_append_right (by simp [length_numsOf])]
  rw [List.length_map, length_numsOf, Nat.sub_self, List.getElem?_replicate, if_pos (by omega)]
theorem rowL_zero (l : List UInt8) : (rowL 0 l).toArray = madeCells #[Value.int .i64 0] 8 := by
  apply Array.ext'
  simp [rowL, numsOf, madeCells, intC, List.replicate]
  rfl
theorem rowL_all (l : List UInt8) : rowL 8 l = (numsOf 8 l).map intC := by simp [rowL]
set_option maxRecDepth 100000 in
set_option maxHeartbeats 2000000 in
theorem rrow_any (g : Nat) (l : List UInt8) (w : World) (h : At w g (txt l)) (hl : 16 ≤ l.length) (hl2 : l.length ≤ 1000) :
    Calls Tryz.prog 78 #[ptr g] w fun e w' => ∃ v', e = .returned v' ∧ isCells ((numsOf 8 l).map intC) v' w' ∧ NewB w.heap.size v' ∧ Wr g (txt (restOf 8 l)) w w' := by
  have hg := h.lt
  have hmk : ∀ W : World, (Instr.makeSlice 22 (.int .i64 8) (.int .i64 8)).run Tryz.prog W = .ok (.slice (some ⟨W.heap.size, 0, none⟩) 8 8) (W.alloc (.cells (madeCells #[Value.int .i64 0] 8) 3)) := fun W => run_make_row' (P := Tryz.prog) 22 3 (.int .i64 0) 8 Tryz.underlying22 Tryz.infoInt rfl .i64 .i64 8 (by omega) (by omega) W
  have HW := Kept.mk ((Wr.refl h).alloc (.cells (madeCells #[Value.int .i64 0] 8) 3))
  have HR := Kept.mk (show Blk (w.alloc (.cells (madeCells #[Value.int .i64 0] 8) 3)) w.heap.size (rowL 0 l) by rw [← rowL_zero l]; exact Blk.new w 3 (rowL 0 l) w.heap.size rfl)
  go_enter Tryz.func78, Tryz.ntmps78
  go_wp2
  clear hmk
  generalize w.alloc (.cells (madeCells #[Value.int .i64 0] 8) 3) = w0 at *
  go_loopw [8] (fun i wr => ∃ k : Nat, k ≤ 8 ∧ i = .int .i64 (k : Int) ∧ Kept (Wr g (txt (restOf k l)) w wr) ∧ Kept (Blk wr w.heap.size (rowL k l))) (fun i _ => 8 - (intOf i).toNat)
  case atStart => exact ⟨0, by omega, rfl, HW, HR⟩
  case round =>
    clear HW HR
    obtain ⟨k, hk, rfl, HW, HR⟩ := hrel
    have hrl := length_rest k l
    by_cases hlt : k < 8
    · have d1 : decide ((k : Int) < 8) = true := by simp; omega
      go_wp2_with fail
      refine (rnumber_any g (restOf k l) 2 _ HW.out.at_ (by omega) (by omega) (by omega) (by omega)).mono ?_
      rintro e w2 ⟨rfl, hw⟩
      replace HW := Kept.mk (HW.out.trans hw)
      replace HR := Kept.mk (HR.out.wr hw (by omega))
      have HT := Kept.mk (rowL_set k l hlt)
      generalize getN ((restOf k l).take 2) = x at *
      have hcell : w2.cell? ⟨w.heap.size, k, none⟩ = some (.int .i64 0) := HR.out.cells.2 k _ (rowL_at k l hlt)
      have hfz := HR.out.free k
      have HR3 := Kept.mk (HR.out.set k (.int .i64 (x : Int)) (by rw [rowL_len k l hk]; omega))
      have HW3 := Kept.mk (HW.out.setCell_new (Nat.le_refl _) (by omega) k (.int .i64 (x : Int)))
      clear hw HR HW
      go_wp2
      go_roundw
      case rel => exact ⟨k + 1, by omega, by go_num, ⟨by rw [rest_snoc]; exact HW3.out⟩, ⟨by rw [← HT.out]; exact HR3.out⟩⟩
      case measure => simp [intOf]; omega
    · have d1 : decide ((k : Int) < 8) = false := by simp; omega
      obtain rfl : k = 8 := by omega
      go_wp2
      go_ret
      refine ⟨_, rfl, ?_, newB_row (Nat.le_refl _) _ _ _, HW.out⟩
      have e : (rowL 8 l).length = 8 := rowL_len 8 l (by omega)
      have hr := HR.out
      rw [← rowL_all]
      have := (show isCells (rowL 8 l) (.slice (some ⟨w.heap.size, 0, none⟩) (rowL 8 l).length 8) _ from .inr (.inr ⟨w.heap.size, 0, 8, rfl, hr.lt, fun j x hx => by rw [Nat.zero_add]; exact hr.cells.2 j x hx⟩))
      rwa [e] at this
set_option maxRecDepth 100000 in
set_option maxHeartbeats 2000000 in
theorem rcount_any (g : Nat) (l : List UInt8) (w : World) (h : At w g (txt l)) (hl : 32 ≤ l.length) (hl2 : l.length ≤ 1000) :
    Calls Tryz.prog 68 #[ptr g] w fun e w' => ∃ v', e = .returned v' ∧ isVaN w.heap.size (countV l) v' w' ∧ Wr g (txt (restOf 8 (restOf 8 l))) w w' := by
  obtain ⟨K1, HW, HR, HV⟩ := lay3 w g (txt l) h [.int .i64 2, .int .i64 0, .int .i64 0, .bool false, .string ⟨#[]⟩, .slice none 0 0, .slice none 0 0, .int .u64 0] rfl w.heap.size (w.heap.size + 1) rfl rfl
  have hg := h.lt
  have K5 : Kept (Ones [.int .i64 2, .int .i64 0, .int .i64 0, .bool false, .string ⟨#[]⟩, .slice none 0 0, .slice none 0 0, .int .u64 0]) := ⟨⟨rfl, rfl, rfl, rfl, rfl, rfl, rfl, rfl, trivial⟩⟩
  go_enter Tryz.func68, Tryz.ntmps68
  go_wp2_with (refine wpList_storeN 25 rfl (.tmp 3) (.tmp 4) rfl (w.heap.size + 1) [.int .i64 2, .int .i64 0, .int .i64 0, .bool false, .string ⟨#[]⟩, .slice none 0 0, .slice none 0 0, .int .u64 0] size_va rfl rfl K1.out.cells rfl K1.out.free K5.out ?_)
  generalize setN ((w.alloc (.cells #[.int .i64 0, .int .i64 0, .int .i64 0, .bool false, .string ⟨#[]⟩, .slice none 0 0, .slice none 0 0, .int .u64 0] 25)).alloc (.cells #[.int .i64 0, .int .i64 0, .int .i64 0, .bool false, .string ⟨#[]⟩, .slice none 0 0, .slice none 0 0, .int .u64 0] 25)) (w.heap.size + 1) 0 [.int .i64 2, .int .i64 0, .int .i64 0, .bool false, .string ⟨#[]⟩, .slice none 0 0, .slice none 0 0, .int .u64 0] = W1 at *
  clear K1 K5
  have hv1 : w.heap.size + 1 < W1.heap.size := HV.out.lt
  refine (rrow_any g l W1 HW.out.at_ (by omega) hl2).mono ?_
  rintro e W2 ⟨vp, rfl, hp, np, hw⟩
  replace ⟨HW, HR, HV⟩ := step3 HW HR HV hw (by omega) (by omega)
  have lp : ((numsOf 8 l).map intC).length = 8 := by rw [List.length_map, length_numsOf]
  obtain ⟨ap, kp, rfl⟩ := hp.len
  rw [lp] at hp np ⊢
  have HP := Kept.mk hp
  have NP := Kept.mk np
  clear hw hp np lp
  have c5 : W2.cell? ⟨w.heap.size + 1, 5, none⟩ = some (.slice none 0 0) := HV.out.cells.2 5 _ rfl
  have f5 := HV.out.free 5
  go_wp2_with fail
  clear c5 f5
  have hW2 := HW.out.size
  have hV2 := HV.out.lt
  have HP2 := Kept.mk (HP.out.setCell_apart (w.heap.size + 1) 5 (.slice ap 8 kp) (NP.out.ne (by omega)))
  replace ⟨HW, HR, HV⟩ := set3 HW HR HV 5 (.slice ap 8 kp) (by simp) (by omega) (by omega) (by omega)
  generalize W2.setCell ⟨w.heap.size + 1, 5, none⟩ (.slice ap 8 kp) = W3 at *
  clear HP
  have hr8 := length_rest 8 l
  refine (rrow_any g (restOf 8 l) W3 HW.out.at_ (by omega) (by omega)).mono ?_
  rintro e W4 ⟨vm, rfl, hm, nm, hw⟩
  have HP3 := Kept.mk (HP2.out.wr hw (NP.out.ne (by omega)))
  have hV3 := HV.out.lt
  replace ⟨HW, HR, HV⟩ := step3 HW HR HV hw (by omega) (by omega)
  have lm : ((numsOf 8 (restOf 8 l)).map intC).length = 8 := by rw [List.length_map, length_numsOf]
  obtain ⟨am, km, rfl⟩ := hm.len
  rw [lm] at hm nm ⊢
  have HM := Kept.mk hm
  have NM := Kept.mk nm
  clear hw hm nm lm HP2
  have HM2 := Kept.mk (HM.out.setCell_apart (w.heap.size + 1) 6 (.slice am 8 km) (NM.out.ne (by omega)))
  have HP4 := Kept.mk (HP3.out.setCell_apart (w.heap.size + 1) 6 (.slice am 8 km) (NP.out.ne (by omega)))
  clear HM HP3
  have c0 : W4.cell? ⟨w.heap.size + 1, 0, none⟩ = some (.int .i64 2) := HV.out.cells.2 0 _ rfl
  have c1 : W4.cell? ⟨w.heap.size + 1, 1, none⟩ = some (.int .i64 0) := HV.out.cells.2 1 _ rfl
  have c2 : W4.cell? ⟨w.heap.size + 1, 2, none⟩ = some (.int .i64 0) := HV.out.cells.2 2 _ rfl
  have c3 : W4.cell? ⟨w.heap.size + 1, 3, none⟩ = some (.bool false) := HV.out.cells.2 3 _ rfl
  have c4 : W4.cell? ⟨w.heap.size + 1, 4, none⟩ = some (.string ⟨#[]⟩) := HV.out.cells.2 4 _ rfl
  have c5 : W4.cell? ⟨w.heap.size + 1, 5, none⟩ = some (.slice ap 8 kp) := HV.out.cells.2 5 _ rfl
  have c6 : W4.cell? ⟨w.heap.size + 1, 6, none⟩ = some (.slice none 0 0) := HV.out.cells.2 6 _ rfl
  have c7 : W4.cell? ⟨w.heap.size + 1, 7, none⟩ = some (.int .u64 0) := HV.out.cells.2 7 _ rfl
  have f6 := HV.out.free 6
  have K5 : Kept (Ones [.int .i64 2, .int .i64 0, .int .i64 0, .bool false, .string ⟨#[]⟩, .slice ap 8 kp, .slice am 8 km, .int .u64 0]) := ⟨⟨rfl, rfl, rfl, rfl, rfl, rfl, rfl, rfl, trivial⟩⟩
  replace ⟨HW, HR, HV⟩ := set3 HW HR HV 6 (.slice am 8 km) (by simp) (by omega) (by omega) (by omega)
  have HE := Kept.mk (Wr.setN_new (Nat.le_refl _) (by omega) [.int .i64 2, .int .i64 0, .int .i64 0, .bool false, .string ⟨#[]⟩, .slice ap 8 kp, .slice am 8 km, .int .u64 0] 0 _ HW.out)
  have HC := Kept.mk (HR.out.all_ (l := [.int .i64 2, .int .i64 0, .int .i64 0, .bool false, .string ⟨#[]⟩, .slice ap 8 kp, .slice am 8 km, .int .u64 0]) rfl).cells
  have EP := Kept.mk (cells_apart HP4.out (g := w.heap.size) (fun b off cap e _ => by have := NP.out b (by rw [e]; rfl); omega) 0 [.int .i64 2, .int .i64 0, .int .i64 0, .bool false, .string ⟨#[]⟩, .slice ap 8 kp, .slice am 8 km, .int .u64 0])
  have EM := Kept.mk (cells_apart HM2.out (g := w.heap.size) (fun b off cap e _ => by have := NM.out b (by rw [e]; rfl); omega) 0 [.int .i64 2, .int .i64 0, .int .i64 0, .bool false, .string ⟨#[]⟩, .slice ap 8 kp, .slice am 8 km, .int .u64 0])
  clear HV HW HM2 HP4
  go_wp2_with (refine wpList_storeN 25 rfl (.tmp 2) (.tmp 11) rfl w.heap.size [.int .i64 2, .int .i64 0, .int .i64 0, .bool false, .string ⟨#[]⟩, .slice ap 8 kp, .slice am 8 km, .int .u64 0] size_va rfl rfl HR.out.cells rfl HR.out.free K5.out ?_)
  exact bodyPost_ret (resultsN1 rfl _ _ w.heap.size _ size_va agg_va rfl HC.out) rfl ⟨_, rfl, ⟨_, _, rfl, EP.out, EM.out, NP.out.low (by omega), NM.out.low (by omega)⟩, HE.out⟩
set_option maxRecDepth 100000 in
set_option maxHeartbeats 2000000 in
theorem rflags_any (g : Nat) (l : List UInt8) (w : World) (h : At w g (txt l)) (hl : 8 ≤ l.length) (hl2 : l.length ≤ 1000) :
    Calls Tryz.prog 69 #[ptr g] w fun e w' => ∃ v', e = .returned v' ∧ isVaN w.heap.size (flagsV l) v' w' ∧ Wr g (txt ((l.drop 4).drop 4)) w w' := by
  have hg := h.lt
  have HW := Kept.mk ((Wr.refl h).alloc (.cells #[.int .i64 0, .int .i64 0, .int .i64 0, .bool false, .string ⟨#[]⟩, .slice none 0 0, .slice none 0 0, .int .u64 0] 25))
  have HR := Kept.mk (Blk.new w 25 [.int .i64 0, .int .i64 0, .int .i64 0, .bool false, .string ⟨#[]⟩, .slice none 0 0, .slice none 0 0, .int .u64 0] w.heap.size rfl)
  go_enter Tryz.func69, Tryz.ntmps69
  go_wp2_with fail
  generalize w.alloc (.cells #[.int .i64 0, .int .i64 0, .int .i64 0, .bool false, .string ⟨#[]⟩, .slice none 0 0, .slice none 0 0, .int .u64 0] 25) = W0 at *
  refine (rnumber_any g l 4 W0 HW.out.at_ (by omega) (by omega) (by omega) (by omega)).mono ?_
  rintro e W1 ⟨rfl, hw⟩
  replace HW := Kept.mk (HW.out.trans hw)
  replace HR := Kept.mk (HR.out.wr hw (by omega))
  clear hw
  have h1 : getN (l.take 4) < 4294967296 := by have := getN_lt (l.take 4); rw [List.length_take, Nat.min_eq_left (by omega)] at this; exact this
  generalize hL : getN (l.take 4) = lo at *
  go_wp2_with fail
  refine (rnumber_any g (l.drop 4) 4 W1 HW.out.at_ (by omega) (by omega) (by rw [List.length_drop]; omega) (by rw [List.length_drop]; omega)).mono ?_
  rintro e W2 ⟨rfl, hw⟩
  replace HW := Kept.mk (HW.out.trans hw)
  replace HR := Kept.mk (HR.out.wr hw (by omega))
  clear hw
  have h2 : getN ((l.drop 4).take 4) < 4294967296 := by have := getN_lt ((l.drop 4).take 4); rw [List.length_take, Nat.min_eq_left (by rw [List.length_drop]; omega)] at this; exact this
  generalize hH : getN ((l.drop 4).take 4) = hi at *
  have HL := Kept.mk hL
  have HH := Kept.mk hH
  clear hL hH
  have FB := Kept.mk (flags_or lo hi h1 h2)
  have K5 : Kept (Ones [.int .i64 3, .int .i64 0, .int .i64 0, .bool false, .string ⟨#[]⟩, .slice none 0 0, .slice none 0 0, .int .u64 (bits .or .u64 (lo : Int) ((hi : Int) * 4294967296))]) := ⟨⟨rfl, rfl, rfl, rfl, rfl, rfl, rfl, rfl, trivial⟩⟩
  have HE := Kept.mk (Wr.setN_new (Nat.le_refl _) (by omega) [.int .i64 3, .int .i64 0, .int .i64 0, .bool false, .string ⟨#[]⟩, .slice none 0 0, .slice none 0 0, .int .u64 (bits .or .u64 (lo : Int) ((hi : Int) * 4294967296))] 0 _ HW.out)
  have HC := Kept.mk (HR.out.all_ (l := [.int .i64 3, .int .i64 0, .int .i64 0, .bool false, .string ⟨#[]⟩, .slice none 0 0, .slice none 0 0, .int .u64 (bits .or .u64 (lo : Int) ((hi : Int) * 4294967296))]) rfl).cells
  clear HW
  go_wp2_with (refine wpList_storeN 25 rfl (.tmp 2) (.tmp 15) rfl w.heap.size [.int .i64 3, .int .i64 0, .int .i64 0, .bool false, .string ⟨#[]⟩, .slice none 0 0, .slice none 0 0, .int .u64 (bits .or .u64 (lo : Int) ((hi : Int) * 4294967296))] size_va rfl rfl HR.out.cells rfl HR.out.free K5.out ?_)
  have ev : flagsV l = ⟨3, 0, 0, false, [], [], [], UInt64.ofNat (lo + 4294967296 * hi)⟩ := by unfold flagsV; rw [HL.out, HH.out]
  rw [ev]
  refine bodyPost_ret (resultsN1 rfl _ _ w.heap.size _ size_va agg_va rfl HC.out) rfl ⟨_, rfl, ⟨.slice none 0 0, .slice none 0 0, ?_, .inl ⟨rfl, rfl⟩, .inl ⟨rfl, rfl⟩, newB_nil _, newB_nil _⟩, HE.out⟩
  rw [FB.out]
set_option maxRecDepth 100000 in
set_option maxHeartbeats 2000000 in
theorem rval_count (g : Nat) (l : List UInt8) (w : World) (h : At w g (txt l)) (hl : 32 ≤ l.length) (hl2 : l.length ≤ 1000) :
    Calls Tryz.prog 56 #[ptr g, .int .i64 2] w fun e w' => ∃ v', e = .returned v' ∧ isVaN w.heap.size (countV l) v' w' ∧ Wr g (txt (restOf 8 (restOf 8 l))) w w' := by
  have hg := h.lt
  have HW := Kept.mk ((Wr.refl h).alloc (.cells #[.int .i64 0, .int .i64 0, .int .i64 0, .bool false, .string ⟨#[]⟩, .slice none 0 0, .slice none 0 0, .int .u64 0] 25))
  have HR := Kept.mk (Blk.new w 25 [.int .i64 0, .int .i64 0, .int .i64 0, .bool false, .string ⟨#[]⟩, .slice none 0 0, .slice none 0 0, .int .u64 0] w.heap.size rfl)
  go_enter Tryz.func56, Tryz.ntmps56
  go_wp2_with fail
  generalize w.alloc (.cells #[.int .i64 0, .int .i64 0, .int .i64 0, .bool false, .string ⟨#[]⟩, .slice none 0 0, .slice none 0 0, .int .u64 0] 25) = W0 at *
  have h0 := HR.out.lt
  refine (rcount_any g l W0 HW.out.at_ hl hl2).mono ?_
  rintro e W1 ⟨v', rfl, hv, hw⟩
  replace HW := Kept.mk (HW.out.trans hw)
  replace HR := Kept.mk (HR.out.wr hw (by omega))
  obtain ⟨vp, vm, rfl, hp, hm, np, nm⟩ := hv
  have K5 : Kept (Ones [.int .i64 (countV l).kind, .int .i64 (countV l).time, .int .i64 (countV l).node, .bool (countV l).dead, .string ⟨(countV l).text.toArray⟩, vp, vm, .int .u64 ((countV l).flags.toNat : Int)]) := ⟨⟨rfl, rfl, rfl, rfl, rfl, hp.one, hm.one, rfl, trivial⟩⟩
  have HE := Kept.mk (Wr.setN_new (Nat.le_refl _) (by omega) [.int .i64 (countV l).kind, .int .i64 (countV l).time, .int .i64 (countV l).node, .bool (countV l).dead, .string ⟨(countV l).text.toArray⟩, vp, vm, .int .u64 ((countV l).flags.toNat : Int)] 0 _ HW.out)
  have HC := Kept.mk (HR.out.all_ (l := [.int .i64 (countV l).kind, .int .i64 (countV l).time, .int .i64 (countV l).node, .bool (countV l).dead, .string ⟨(countV l).text.toArray⟩, vp, vm, .int .u64 ((countV l).flags.toNat : Int)]) rfl).cells
  have EP := Kept.mk (cells_apart hp (g := w.heap.size) (fun b off cap e _ => by have := np b (by rw [e]; rfl); omega) 0 [.int .i64 (countV l).kind, .int .i64 (countV l).time, .int .i64 (countV l).node, .bool (countV l).dead, .string ⟨(countV l).text.toArray⟩, vp, vm, .int .u64 ((countV l).flags.toNat : Int)])
  have EM := Kept.mk (cells_apart hm (g := w.heap.size) (fun b off cap e _ => by have := nm b (by rw [e]; rfl); omega) 0 [.int .i64 (countV l).kind, .int .i64 (countV l).time, .int .i64 (countV l).node, .bool (countV l).dead, .string ⟨(countV l).text.toArray⟩, vp, vm, .int .u64 ((countV l).flags.toNat : Int)])
  have NP := Kept.mk (np.low (B' := w.heap.size) (by omega))
  have NM := Kept.mk (nm.low (B' := w.heap.size) (by omega))
  clear hw HW hp hm np nm
  go_wp2_with (refine wpList_storeN 25 rfl (.tmp 4) (.tmp 13) rfl w.heap.size [.int .i64 (countV l).kind, .int .i64 (countV l).time, .int .i64 (countV l).node, .bool (countV l).dead, .string ⟨(countV l).text.toArray⟩, vp, vm, .int .u64 ((countV l).flags.toNat : Int)] size_va rfl rfl HR.out.cells rfl HR.out.free K5.out ?_)
  exact bodyPost_ret (resultsN1 rfl _ _ w.heap.size _ size_va agg_va rfl HC.out) rfl ⟨_, rfl, ⟨_, _, rfl, EP.out, EM.out, NP.out, NM.out⟩, HE.out⟩
set_option maxRecDepth 100000 in
set_option maxHeartbeats 2000000 in
theorem rval_flags (g : Nat) (l : List UInt8) (w : World) (h : At w g (txt l)) (hl : 32 ≤ l.length) (hl2 : l.length ≤ 1000) :
    Calls Tryz.prog 56 #[ptr g, .int .i64 3] w fun e w' => ∃ v', e = .returned v' ∧ isVaN w.heap.size (flagsV l) v' w' ∧ Wr g (txt ((l.drop 4).drop 4)) w w' := by
  have hg := h.lt
  have HW := Kept.mk ((Wr.refl h).alloc (.cells #[.int .i64 0, .int .i64 0, .int .i64 0, .bool false, .string ⟨#[]⟩, .slice none 0 0, .slice none 0 0, .int .u64 0] 25))
  have HR := Kept.mk (Blk.new w 25 [.int .i64 0, .int .i64 0, .int .i64 0, .bool false, .string ⟨#[]⟩, .slice none 0 0, .slice none 0 0, .int .u64 0] w.heap.size rfl)
  go_enter Tryz.func56, Tryz.ntmps56
  go_wp2_with fail
  generalize w.alloc (.cells #[.int .i64 0, .int .i64 0, .int .i64 0, .bool false, .string ⟨#[]⟩, .slice none 0 0, .slice none 0 0, .int .u64 0] 25) = W0 at *
  have h0 := HR.out.lt
  refine (rflags_any g l W0 HW.out.at_ (by omega) hl2).mono ?_
  rintro e W1 ⟨v', rfl, hv, hw⟩
  replace HW := Kept.mk (HW.out.trans hw)
  replace HR := Kept.mk (HR.out.wr hw (by omega))
  obtain ⟨vp, vm, rfl, hp, hm, np, nm⟩ := hv
  have K5 : Kept (Ones [.int .i64 (flagsV l).kind, .int .i64 (flagsV l).time, .int .i64 (flagsV l).node, .bool (flagsV l).dead, .string ⟨(flagsV l).text.toArray⟩, vp, vm, .int .u64 ((flagsV l).flags.toNat : Int)]) := ⟨⟨rfl, rfl, rfl, rfl, rfl, hp.one, hm.one, rfl, trivial⟩⟩
  have HE := Kept.mk (Wr.setN_new (Nat.le_refl _) (by omega) [.int .i64 (flagsV l).kind, .int .i64 (flagsV l).time, .int .i64 (flagsV l).node, .bool (flagsV l).dead, .string ⟨(flagsV l).text.toArray⟩, vp, vm, .int .u64 ((flagsV l).flags.toNat : Int)] 0 _ HW.out)
  have HC := Kept.mk (HR.out.all_ (l := [.int .i64 (flagsV l).kind, .int .i64 (flagsV l).time, .int .i64 (flagsV l).node, .bool (flagsV l).dead, .string ⟨(flagsV l).text.toArray⟩, vp, vm, .int .u64 ((flagsV l).flags.toNat : Int)]) rfl).cells
  have EP := Kept.mk (cells_apart hp (g := w.heap.size) (fun b off cap e _ => by have := np b (by rw [e]; rfl); omega) 0 [.int .i64 (flagsV l).kind, .int .i64 (flagsV l).time, .int .i64 (flagsV l).node, .bool (flagsV l).dead, .string ⟨(flagsV l).text.toArray⟩, vp, vm, .int .u64 ((flagsV l).flags.toNat : Int)])
  have EM := Kept.mk (cells_apart hm (g := w.heap.size) (fun b off cap e _ => by have := nm b (by rw [e]; rfl); omega) 0 [.int .i64 (flagsV l).kind, .int .i64 (flagsV l).time, .int .i64 (flagsV l).node, .bool (flagsV l).dead, .string ⟨(flagsV l).text.toArray⟩, vp, vm, .int .u64 ((flagsV l).flags.toNat : Int)])
  have NP := Kept.mk (np.low (B' := w.heap.size) (by omega))
  have NM := Kept.mk (nm.low (B' := w.heap.size) (by omega))
  clear hw HW hp hm np nm
  go_wp2_with (refine wpList_storeN 25 rfl (.tmp 4) (.tmp 17) rfl w.heap.size [.int .i64 (flagsV l).kind, .int .i64 (flagsV l).time, .int .i64 (flagsV l).node, .bool (flagsV l).dead, .string ⟨(flagsV l).text.toArray⟩, vp, vm, .int .u64 ((flagsV l).flags.toNat : Int)] size_va rfl rfl HR.out.cells rfl HR.out.free K5.out ?_)
  exact bodyPost_ret (resultsN1 rfl _ _ w.heap.size _ size_va agg_va rfl HC.out) rfl ⟨_, rfl, ⟨_, _, rfl, EP.out, EM.out, NP.out, NM.out⟩, HE.out⟩
set_option maxRecDepth 100000 in
set_option maxHeartbeats 2000000 in
theorem rval_reg (g : Nat) (l : List UInt8) (w : World) (h : At w g (txt l)) (hl : 32 ≤ l.length) (hl2 : l.length ≤ 1000) :
    Calls Tryz.prog 56 #[ptr g, .int .i64 1] w fun e w' => (regOk l ∧ (∃ v', e = .returned v' ∧ isVaN w.heap.size (regV l) v' w') ∧ Wr g (txt (regR l)) w w') ∨ (¬ regOk l ∧ e = Gave ∧ ∃ x, Wr g x w w') := by
  have hg := h.lt
  have HW := Kept.mk ((Wr.refl h).alloc (.cells #[.int .i64 0, .int .i64 0, .int .i64 0, .bool false, .string ⟨#[]⟩, .slice none 0 0, .slice none 0 0, .int .u64 0] 25))
  have HR := Kept.mk (Blk.new w 25 [.int .i64 0, .int .i64 0, .int .i64 0, .bool false, .string ⟨#[]⟩, .slice none 0 0, .slice none 0 0, .int .u64 0] w.heap.size rfl)
  go_enter Tryz.func56, Tryz.ntmps56
  go_wp2_with fail
  generalize w.alloc (.cells #[.int .i64 0, .int .i64 0, .int .i64 0, .bool false, .string ⟨#[]⟩, .slice none 0 0, .slice none 0 0, .int .u64 0] 25) = W0 at *
  have h0 := HR.out.lt
  refine (rreg_any g l W0 HW.out.at_ hl hl2).mono ?_
  rintro e W1 (⟨hok, ⟨v', rfl, hv⟩, hw⟩ | ⟨hok, rfl, x, hw⟩)
  · have HK := Kept.mk hok
    clear hok
    replace HW := Kept.mk (HW.out.trans hw)
    replace HR := Kept.mk (HR.out.wr hw (by omega))
    obtain ⟨vp, vm, rfl, hp, hm, np, nm⟩ := hv
    have K5 : Kept (Ones [.int .i64 (regV l).kind, .int .i64 (regV l).time, .int .i64 (regV l).node, .bool (regV l).dead, .string ⟨(regV l).text.toArray⟩, vp, vm, .int .u64 ((regV l).flags.toNat : Int)]) := ⟨⟨rfl, rfl, rfl, rfl, rfl, hp.one, hm.one, rfl, trivial⟩⟩
    have HE := Kept.mk (Wr.setN_new (Nat.le_refl _) (by omega) [.int .i64 (regV l).kind, .int .i64 (regV l).time, .int .i64 (regV l).node, .bool (regV l).dead, .string ⟨(regV l).text.toArray⟩, vp, vm, .int .u64 ((regV l).flags.toNat : Int)] 0 _ HW.out)
    have HC := Kept.mk (HR.out.all_ (l := [.int .i64 (regV l).kind, .int .i64 (regV l).time, .int .i64 (regV l).node, .bool (regV l).dead, .string ⟨(regV l).text.toArray⟩, vp, vm, .int .u64 ((regV l).flags.toNat : Int)]) rfl).cells
    have EP := Kept.mk (cells_apart hp (g := w.heap.size) (fun b off cap e _ => by have := np b (by rw [e]; rfl); omega) 0 [.int .i64 (regV l).kind, .int .i64 (regV l).time, .int .i64 (regV l).node, .bool (regV l).dead, .string ⟨(regV l).text.toArray⟩, vp, vm, .int .u64 ((regV l).flags.toNat : Int)])
    have EM := Kept.mk (cells_apart hm (g := w.heap.size) (fun b off cap e _ => by have := nm b (by rw [e]; rfl); omega) 0 [.int .i64 (regV l).kind, .int .i64 (regV l).time, .int .i64 (regV l).node, .bool (regV l).dead, .string ⟨(regV l).text.toArray⟩, vp, vm, .int .u64 ((regV l).flags.toNat : Int)])
    have NP := Kept.mk (np.low (B' := w.heap.size) (by omega))
    have NM := Kept.mk (nm.low (B' := w.heap.size) (by omega))
    clear hw HW hp hm np nm
    go_wp2_with (refine wpList_storeN 25 rfl (.tmp 4) (.tmp 9) rfl w.heap.size [.int .i64 (regV l).kind, .int .i64 (regV l).time, .int .i64 (regV l).node, .bool (regV l).dead, .string ⟨(regV l).text.toArray⟩, vp, vm, .int .u64 ((regV l).flags.toNat : Int)] size_va rfl rfl HR.out.cells rfl HR.out.free K5.out ?_)
    exact bodyPost_ret (resultsN1 rfl _ _ w.heap.size _ size_va agg_va rfl HC.out) rfl (.inl ⟨HK.out, ⟨_, rfl, ⟨_, _, rfl, EP.out, EM.out, NP.out, NM.out⟩⟩, HE.out⟩)
  · have HK := Kept.mk hok
    replace HW := Kept.mk (HW.out.trans hw)
    clear hok hw
    go_wp2
    exact ⟨rfl, .inr ⟨HK.out, rfl, _, HW.out⟩⟩
set_option maxRecDepth 100000 in
set_option maxHeartbeats 2000000 in
theorem rval_none (g : Nat) (l : List UInt8) (k : Nat) (w : World) (h : At w g (txt l)) (h1 : ¬ k = 1) (h2 : ¬ k = 2) (h3 : ¬ k = 3) :
    Calls Tryz.prog 56 #[ptr g, .int .i64 (k : Int)] w fun e w' => e = Gave ∧ ∃ x, Wr g x w w' := by
  have HW := Kept.mk ((Wr.refl h).alloc (.cells #[.int .i64 0, .int .i64 0, .int .i64 0, .bool false, .string ⟨#[]⟩, .slice none 0 0, .slice none 0 0, .int .u64 0] 25))
  have e1 : ((k : Int) == 1) = false := by simp; omega
  have e2 : ((k : Int) == 2) = false := by simp; omega
  have e3 : ((k : Int) == 3) = false := by simp; omega
  go_enter Tryz.func56, Tryz.ntmps56
  go_wp2
  exact ⟨rfl, rfl, _, HW.out⟩
theorem rval_any (g : Nat) (l : List UInt8) (k : Nat) (w : World) (h : At w g (txt l)) (hl : 32 ≤ l.length) (hl2 : l.length ≤ 1000) :
    Calls Tryz.prog 56 #[ptr g, .int .i64 (k : Int)] w fun e w' => (∃ A r, rdVal k l = some (A, r) ∧ (∃ v', e = .returned v' ∧ isVaN w.heap.size A v' w') ∧ Wr g (txt r) w w') ∨ (rdVal k l = none ∧ e = Gave ∧ ∃ x, Wr g x w w') := by
  unfold rdVal
  by_cases h1 : k = 1
  · subst h1
    refine (rval_reg g l w h hl hl2).mono ?_
    rintro e w' (⟨hok, hv, hw⟩ | ⟨hok, rfl, hx⟩)
    · rw [if_pos rfl, if_pos hok]; exact .inl ⟨_, _, rfl, hv, hw⟩
    · rw [if_pos rfl, if_neg hok]; exact .inr ⟨rfl, rfl, hx⟩
  · rw [if_neg h1]
    by_cases h2 : k = 2
    · subst h2
      refine (rval_count g l w h hl hl2).mono ?_
      rintro e w' ⟨v', rfl, hv, hw⟩
      rw [if_pos rfl]; exact .inl ⟨_, _, rfl, ⟨_, rfl, hv⟩, hw⟩
    · rw [if_neg h2]
      by_cases h3 : k = 3
      · subst h3
        refine (rval_flags g l w h hl hl2).mono ?_
        rintro e w' ⟨v', rfl, hv, hw⟩
        rw [if_pos rfl]; exact .inl ⟨_, _, rfl, ⟨_, rfl, hv⟩, hw⟩
      · rw [if_neg h3]
        refine (rval_none g l k w h h1 h2 h3).mono ?_
        rintro e w' ⟨rfl, hx⟩
        exact .inr ⟨rfl, rfl, hx⟩
end Go.Proofs.YtebjljiklacolaaGreat
end
section
namespace Go.Proofs.YtebjljiklacolaaGreat
open Go.RowKit
set_option linter.unusedVariables false
set_option linter.unusedSimpArgs false
attribute [local irreducible] setN

set_option maxRecDepth 20000 in
set_option maxHeartbeats 1000000 in
theorem join1_any (A B : Va) (k ga gb : Nat) (w : World) (hA : VarV w ga A) (hB : VarV w gb B) (ha : A.plus.length = 8) (hb : B.plus.length = 8) (hk : k < 8) :
    Calls Tryz.prog 123 #[.int .i64 (k : Int), .pointer (some ⟨ga, 0, none⟩), .pointer (some ⟨gb, 0, none⟩)] w fun e w' => e = .returned (.int .i64 (maxI (A.plus.getD k 0) (B.plus.getD k 0))) ∧ Below w.heap.size w w' := by
  obtain ⟨vp, vm, hc, hp, hm⟩ := hA
  obtain ⟨up, um, gc, gp, gm⟩ := hB
  obtain ⟨b, off, cap, rfl, hlt, hcell⟩ := hp.some_ (by rw [List.length_map]; omega)
  obtain ⟨b2, off2, cap2, rfl, hlt2, hcell2⟩ := gp.some_ (by rw [List.length_map]; omega)
  rw [List.length_map, ha] at hc
  rw [List.length_map, hb] at gc
  have k1 := hc.2 5 _ rfl
  have k2 := gc.2 5 _ rfl
  have c1 : w.cell? ⟨b, off + k, none⟩ = some (.int .i64 (A.plus.getD k 0)) := by rw [hcell k _ (get_map intC _ k (by omega))]; simp [intC, List.getD_eq_getElem?_getD, show k < A.plus.length by omega]
  have c2 : w.cell? ⟨b2, off2 + k, none⟩ = some (.int .i64 (B.plus.getD k 0)) := by rw [hcell2 k _ (get_map intC _ k (by omega))]; simp [intC, List.getD_eq_getElem?_getD, show k < B.plus.length by omega]
  have HM := Kept.mk (show maxI (A.plus.getD k 0) (B.plus.getD k 0) = max (A.plus.getD k 0) (B.plus.getD k 0) by unfold maxI; split <;> omega)
  generalize A.plus.getD k 0 = x at *
  generalize B.plus.getD k 0 = y at *
  clear hc hp hm gc gp gm hcell hcell2
  go_enter Tryz.func123, Tryz.ntmps123
  go_wp2
  go_region
  all_goals go_wp2
  all_goals go_ret
  all_goals exact ⟨by rw [HM.out]; rfl, by exact below_drewN _ 1⟩
set_option maxRecDepth 20000 in
set_option maxHeartbeats 1000000 in
theorem join2_any (A B : Va) (k ga gb : Nat) (w : World) (hA : VarV w ga A) (hB : VarV w gb B) (ha : A.minus.length = 8) (hb : B.minus.length = 8) (hk : k < 8) :
    Calls Tryz.prog 124 #[.int .i64 (k : Int), .pointer (some ⟨ga, 0, none⟩), .pointer (some ⟨gb, 0, none⟩)] w fun e w' => e = .returned (.int .i64 (maxI (A.minus.getD k 0) (B.minus.getD k 0))) ∧ Below w.heap.size w w' := by
  obtain ⟨vp, vm, hc, hp, hm⟩ := hA
  obtain ⟨up, um, gc, gp, gm⟩ := hB
  obtain ⟨b, off, cap, rfl, hlt, hcell⟩ := hm.some_ (by rw [List.length_map]; omega)
  obtain ⟨b2, off2, cap2, rfl, hlt2, hcell2⟩ := gm.some_ (by rw [List.length_map]; omega)
  rw [List.length_map, ha] at hc
  rw [List.length_map, hb] at gc
  have k1 := hc.2 6 _ rfl
  have k2 := gc.2 6 _ rfl
  have c1 : w.cell? ⟨b, off + k, none⟩ = some (.int .i64 (A.minus.getD k 0)) := by rw [hcell k _ (get_map intC _ k (by omega))]; simp [intC, List.getD_eq_getElem?_getD, show k < A.minus.length by omega]
  have c2 : w.cell? ⟨b2, off2 + k, none⟩ = some (.int .i64 (B.minus.getD k 0)) := by rw [hcell2 k _ (get_map intC _ k (by omega))]; simp [intC, List.getD_eq_getElem?_getD, show k < B.minus.length by omega]
  have HM := Kept.mk (show maxI (A.minus.getD k 0) (B.minus.getD k 0) = max (A.minus.getD k 0) (B.minus.getD k 0) by unfold maxI; split <;> omega)
  generalize A.minus.getD k 0 = x at *
  generalize B.minus.getD k 0 = y at *
  clear hc hp hm gc gp gm hcell hcell2
  go_enter Tryz.func124, Tryz.ntmps124
  go_wp2
  go_region
  all_goals go_wp2
  all_goals go_ret
  all_goals exact ⟨by rw [HM.out]; rfl, by exact below_drewN _ 1⟩
theorem zip_range : ∀ (n : Nat) (l m : List Int), l.length = n → m.length = n → (List.range n).map (fun j => maxI (l.getD j 0) (m.getD j 0)) = List.zipWith maxI l m := by
  intro n l m h1 h2
  apply List.ext_getElem?
  intro j
  by_cases hj : j < n
  · rw [List.getElem?_map, List.getElem?_range hj, List.getElem?_zipWith, List.getElem?_eq_getElem (by omega : j < l.length), List.getElem?_eq_getElem (by omega : j < m.length)]
    simp [List.getD_eq_getElem?_getD, show j < l.length by omega, show j < m.length by omega]
  · rw [List.getElem?_eq_none (by simp; omega), List.getElem?_eq_none (by simp; omega)]
theorem cells_row8 {w : World} {g : Nat} {f : Nat → Int} {l : List Int} (h : w.rowIs g 3 8 (fun j => intC (f j))) (e : (List.range 8).map f = l) : isCells (l.map intC) (.slice (some ⟨g, 0, none⟩) 8 8) w := by
  have := cells_of_row h
  rw [← e, List.map_map]
  exact this
set_option maxRecDepth 20000 in
set_option maxHeartbeats 1000000 in
theorem countJoin_any (A B : Va) (v u : Value) (w : World) (hv : isVa A v w) (hu : isVa B u w) (a1 : A.plus.length = 8) (a2 : A.minus.length = 8) (b1 : B.plus.length = 8) (b2 : B.minus.length = 8) :
    Calls Tryz.prog 117 #[.agg #[], v, u] w fun e w' => ∃ v', e = .returned v' ∧ isVaN w.heap.size (joinCount A B) v' w' ∧ Below w.heap.size w w' := by
  have hen1 : Enters Tryz.prog 123 := enters_of Tryz.func123 (by kernel_rfl) rfl
  have hen2 : Enters Tryz.prog 124 := enters_of Tryz.func124 (by kernel_rfl) rfl
  obtain ⟨up, um, rfl, gp, gm⟩ := hu
  obtain ⟨vp, vm, rfl, hp, hm⟩ := hv
  have hB0 := lit_below w (.cells #[] 103)
  obtain ⟨hB1, hV⟩ := vbox _ A vp vm (stable_cells _ _ _ _ hp hB0) (stable_cells _ _ _ _ hm hB0) (w.heap.size + 1) (by simp)
  have hB := Kept.mk (hB0.trans (hB1.out.mono hB0.size))
  obtain ⟨hB2, hU⟩ := vbox ((w.alloc (.cells #[] 103)).alloc (.cells #[.int .i64 A.kind, .int .i64 A.time, .int .i64 A.node, .bool A.dead, .string ⟨A.text.toArray⟩, vp, vm, .int .u64 (A.flags.toNat : Int)] 25)) B up um (stable_cells _ _ _ _ gp hB.out) (stable_cells _ _ _ _ gm hB.out) (w.heap.size + 2) (by simp)
  replace hB := Kept.mk (hB.out.trans (hB2.out.mono hB.out.size))
  have hB3 := lit_below (((w.alloc (.cells #[] 103)).alloc (.cells #[.int .i64 A.kind, .int .i64 A.time, .int .i64 A.node, .bool A.dead, .string ⟨A.text.toArray⟩, vp, vm, .int .u64 (A.flags.toNat : Int)] 25)).alloc (.cells #[.int .i64 B.kind, .int .i64 B.time, .int .i64 B.node, .bool B.dead, .string ⟨B.text.toArray⟩, up, um, .int .u64 (B.flags.toNat : Int)] 25)) (.cells #[.int .i64 0, .int .i64 0, .int .i64 0, .bool false, .string ⟨#[]⟩, .slice none 0 0, .slice none 0 0, .int .u64 0] 25)
  have HZ := Kept.mk (cellsN_at (((w.alloc (.cells #[] 103)).alloc (.cells #[.int .i64 A.kind, .int .i64 A.time, .int .i64 A.node, .bool A.dead, .string ⟨A.text.toArray⟩, vp, vm, .int .u64 (A.flags.toNat : Int)] 25)).alloc (.cells #[.int .i64 B.kind, .int .i64 B.time, .int .i64 B.node, .bool B.dead, .string ⟨B.text.toArray⟩, up, um, .int .u64 (B.flags.toNat : Int)] 25)) 25 [.int .i64 0, .int .i64 0, .int .i64 0, .bool false, .string ⟨#[]⟩, .slice none 0 0, .slice none 0 0, .int .u64 0] (w.heap.size + 3) (by simp))
  have HF := Kept.mk (free5_at (((w.alloc (.cells #[] 103)).alloc (.cells #[.int .i64 A.kind, .int .i64 A.time, .int .i64 A.node, .bool A.dead, .string ⟨A.text.toArray⟩, vp, vm, .int .u64 (A.flags.toNat : Int)] 25)).alloc (.cells #[.int .i64 B.kind, .int .i64 B.time, .int .i64 B.node, .bool B.dead, .string ⟨B.text.toArray⟩, up, um, .int .u64 (B.flags.toNat : Int)] 25)) #[.int .i64 0, .int .i64 0, .int .i64 0, .bool false, .string ⟨#[]⟩, .slice none 0 0, .slice none 0 0, .int .u64 0] 25 (w.heap.size + 3) (by simp))
  replace hV := Kept.mk ((hV.out.keep hB2.out).keep hB3)
  replace hU := Kept.mk (hU.out.keep hB3)
  replace hB := Kept.mk (hB.out.trans (hB3.mono hB.out.size))
  have hS : Kept (w.heap.size + 4 = ((((w.alloc (.cells #[] 103)).alloc (.cells #[.int .i64 A.kind, .int .i64 A.time, .int .i64 A.node, .bool A.dead, .string ⟨A.text.toArray⟩, vp, vm, .int .u64 (A.flags.toNat : Int)] 25)).alloc (.cells #[.int .i64 B.kind, .int .i64 B.time, .int .i64 B.node, .bool B.dead, .string ⟨B.text.toArray⟩, up, um, .int .u64 (B.flags.toNat : Int)] 25)).alloc (.cells #[.int .i64 0, .int .i64 0, .int .i64 0, .bool false, .string ⟨#[]⟩, .slice none 0 0, .slice none 0 0, .int .u64 0] 25)).heap.size) := ⟨by simp⟩
  clear hp hm gp gm hB0 hB1 hB2 hB3
  go_enter Tryz.func117, Tryz.ntmps117
  go_wp2_with fail
  generalize ((((w.alloc (.cells #[] 103)).alloc (.cells #[.int .i64 A.kind, .int .i64 A.time, .int .i64 A.node, .bool A.dead, .string ⟨A.text.toArray⟩, vp, vm, .int .u64 (A.flags.toNat : Int)] 25)).alloc (.cells #[.int .i64 B.kind, .int .i64 B.time, .int .i64 B.node, .bool B.dead, .string ⟨B.text.toArray⟩, up, um, .int .u64 (B.flags.toNat : Int)] 25)).alloc (.cells #[.int .i64 0, .int .i64 0, .int .i64 0, .bool false, .string ⟨#[]⟩, .slice none 0 0, .slice none 0 0, .int .u64 0] 25)) = W0 at *
  refine (row_any (fun j => maxI (A.plus.getD j 0) (B.plus.getD j 0)) 123 _ hen1 W0 ?_).mono ?_
  · intro k w' hk hb
    exact join1_any A B k _ _ w' (hV.out.keep hb) (hU.out.keep hb) a1 b1 hk
  rintro e w1 ⟨rfl, hr1, hb1⟩
  have HR1 := Kept.mk hr1
  have HB1 := Kept.mk hb1
  clear hr1 hb1
  go_wp2_with fail
  refine (row_any (fun j => maxI (A.minus.getD j 0) (B.minus.getD j 0)) 124 _ hen2 w1 ?_).mono ?_
  · intro k w' hk hb
    exact join2_any A B k _ _ w' ((hV.out.keep HB1.out).keep hb) ((hU.out.keep HB1.out).keep hb) a2 b2 hk
  rintro e w2 ⟨rfl, hr2, hb2⟩
  have hlt1 := HR1.out.lt
  have hp2 := cells_row8 (HR1.out.of_block (hb2.block _ hlt1)) (zip_range 8 A.plus B.plus a1 b1)
  have hm2 := cells_row8 hr2 (zip_range 8 A.minus B.minus a2 b2)
  have hBB := hB.out.trans ((HB1.out.trans (hb2.mono HB1.out.size)).mono hB.out.size)
  have hZ := (HZ.out.keep HB1.out HZ.out.1).keep hb2 (Nat.lt_of_lt_of_le HZ.out.1 HB1.out.size)
  have K2 := Kept.mk ((HF.out.keep HB1.out HZ.out.1).keep hb2 (Nat.lt_of_lt_of_le HZ.out.1 HB1.out.size))
  have hs := hS.out
  obtain ⟨hBK, K4, K5⟩ := vset (joinCount A B) (.slice (some ⟨W0.heap.size, 0, none⟩) 8 8) (.slice (some ⟨w1.heap.size, 0, none⟩) 8 8) (g := w.heap.size + 3) (by omega) hBB hZ rfl hp2 hm2 (by simp [blk]; omega) (by simp [blk]; omega)
  have K1 := Kept.mk hZ
  obtain ⟨hc', hp', hm'⟩ := K4.out
  have np := newB_row (B := w.heap.size) (show w.heap.size ≤ W0.heap.size by omega) 0 8 8
  have nm := newB_row (B := w.heap.size) (show w.heap.size ≤ w1.heap.size by omega) 0 8 8
  clear hp2 hm2 hBB hZ hb2 hr2 HR1 HB1 K4
  go_wp2_with (refine wpList_storeN 25 rfl (.tmp 6) (.tmp 11) rfl (w.heap.size + 3) [.int .i64 2, .int .i64 0, .int .i64 0, .bool false, .string ⟨#[]⟩, .slice (some ⟨W0.heap.size, 0, none⟩) 8 8, .slice (some ⟨w1.heap.size, 0, none⟩) 8 8, .int .u64 0] size_va rfl rfl K1.out rfl K2.out K5.out ?_)
  exact bodyPost_ret (resultsN1 rfl _ _ (w.heap.size + 3) _ size_va agg_va rfl hc') rfl ⟨_, rfl, ⟨_, _, rfl, hp', hm', np, nm⟩, hBK.out⟩
end Go.Proofs.YtebjljiklacolaaGreat
end
section
namespace Go.Proofs.YtebjljiklacolaaGreat
open Go.RowKit
set_option linter.unusedVariables false
set_option linter.unusedSimpArgs false
attribute [local irreducible] setN

theorem agg_u64 (w : World) : (isAgg 23).run Tryz.prog w = .ok false w := by simp [isAgg, run_underlying Tryz.underlying23]
theorem sub_small (t : TypeId) (a b : Int) (h1 : -1000000000000 ≤ a - b) (h2 : a - b ≤ 1000000000000) (w : World) : (binOp .sub t (.int .i64 a) (.int .i64 b)).run Tryz.prog w = .ok (.int .i64 (a - b)) w := by
  simp [go_sem]
  rw [IntKind.wrap_i64]
  omega
theorem call_cmp (x y : Int) (w : World) : Calls Tryz.prog 111 #[.int .i64 x, .int .i64 y] w fun e w' => ∃ v, e = .returned v ∧ isVal (.int .i64 (cmpI x y)) v w' ∧ Below w.heap.size w w' :=
  (compare_i x y w).mono (by rintro e w' ⟨rfl, rfl⟩; exact ⟨_, rfl, rfl, Below.refl _ _⟩)
theorem call_cmpT (x y : List UInt8) (w : World) : Calls Tryz.prog 113 #[.string ⟨x.toArray⟩, .string ⟨y.toArray⟩] w fun e w' => ∃ v, e = .returned v ∧ isVal (.int .i64 (cmpT x y)) v w' ∧ Below w.heap.size w w' :=
  (compare_s x y w).mono (by rintro e w' ⟨rfl, rfl⟩; exact ⟨_, rfl, rfl, Below.refl _ _⟩)
theorem call_rank (b : Bool) (w : World) : Calls Tryz.prog 112 #[.bool b] w fun e w' => ∃ v, e = .returned v ∧ isVal (.int .i64 (rankI b)) v w' ∧ Below w.heap.size w w' :=
  (rank_any b w).mono (by rintro e w' ⟨rfl, rfl⟩; exact ⟨_, rfl, rfl, Below.refl _ _⟩)
theorem call_behind (A B : Va) (u : Value) (w : World) (hu : isCells [intC (cmpI A.time B.time), intC (cmpI A.node B.node), intC (cmpI (rankI A.dead) (rankI B.dead)), intC (cmpT A.text B.text)] u w) :
    Calls Tryz.prog 110 #[u] w fun e w' => ∃ v, e = .returned v ∧ isVal (.bool (behindB A B)) v w' ∧ Below w.heap.size w w' :=
  (isBehind_any (ordL A B) u w hu (by show 4 ≤ _; omega)).mono (by rintro e w' ⟨rfl, rfl⟩; exact ⟨_, rfl, rfl, Below.refl _ _⟩)
noncomputable def rjoinOps : Array Oper := regionOf Tryz.f105 1
set_option maxRecDepth 100000 in
set_option maxHeartbeats 2000000 in
theorem rjoin_region (Q : Exit → Act → World → Prop) (a0 : Act) (w0 : World) (hsz : a0.tmps.size = 37) (A B : Va) (ga gb : Nat) (vp vm up um : Value) (e4 : a0.tmps.getD 4 undef = .pointer (some ⟨ga, 0, none⟩)) (e5 : a0.tmps.getD 5 undef = .pointer (some ⟨gb, 0, none⟩)) (hc : CellsN w0 ga [.int .i64 A.kind, .int .i64 A.time, .int .i64 A.node, .bool A.dead, .string ⟨A.text.toArray⟩, vp, vm, .int .u64 (A.flags.toNat : Int)]) (gc : CellsN w0 gb [.int .i64 B.kind, .int .i64 B.time, .int .i64 B.node, .bool B.dead, .string ⟨B.text.toArray⟩, up, um, .int .u64 (B.flags.toNat : Int)])
    (hQ : ∀ (g : Nat → Value) (w : World), g 30 = .bool (behindB A B) → Below w0.heap.size w0 w → Q .normal { tmps := [7, 8, 9, 10, 11, 12, 13, 14, 15, 16, 17, 18, 19, 20, 21, 22, 23, 24, 25, 26, 27, 28, 29, 30].foldl (fun t s => t.setIfInBounds s (g s)) a0.tmps, defers := a0.defers } w) :
    (Code.region 1 rjoinOps true).wp Tryz.prog Q a0 w0 := by
  obtain ⟨iint, hiint, hzint, hsint, _⟩ := info_parts Tryz.infoInt
  refine wp_region_flow mixed (by rw [hsz]; kernel_rfl) ?_
  rw [show rjoinOps.size = 24 by kernel_rfl]
  refine ⟨isVal (.pointer (some ⟨ga, 1, none⟩)), step_field 25 (.tmp 4) 1 ⟨ga, 0, none⟩ ⟨ga, 1, none⟩ (by kernel_rfl) (wanted_none (by kernel_rfl)) (knows_old 4 (.pointer (some ⟨ga, 0, none⟩)) (by kernel_rfl) e4) (field_va ga 1 (by omega)), ?_⟩
  refine ⟨isVal (.int .i64 A.time), step_read 3 (.tmp 7) ⟨ga, 1, none⟩ (.int .i64 A.time) (by kernel_rfl) (wanted_none (by kernel_rfl)) (knows_new (V := isVal (.pointer (some ⟨ga, 1, none⟩))) 7 0 (by kernel_rfl) (by kernel_rfl) (by kernel_rfl)) (hc.2 1 _ rfl) hc.1 agg_int, ?_⟩
  refine ⟨isVal (.pointer (some ⟨gb, 1, none⟩)), step_field 25 (.tmp 5) 1 ⟨gb, 0, none⟩ ⟨gb, 1, none⟩ (by kernel_rfl) (wanted_none (by kernel_rfl)) (knows_old 5 (.pointer (some ⟨gb, 0, none⟩)) (by kernel_rfl) e5) (field_va gb 1 (by omega)), ?_⟩
  refine ⟨isVal (.int .i64 B.time), step_read 3 (.tmp 9) ⟨gb, 1, none⟩ (.int .i64 B.time) (by kernel_rfl) (wanted_none (by kernel_rfl)) (knows_new (V := isVal (.pointer (some ⟨gb, 1, none⟩))) 9 2 (by kernel_rfl) (by kernel_rfl) (by kernel_rfl)) (gc.2 1 _ rfl) gc.1 agg_int, ?_⟩
  refine ⟨isVal (.int .i64 (cmpI A.time B.time)), step_call 111 #[.tmp 8, .tmp 10] #[3, 3] #[.int .i64 A.time, .int .i64 B.time] (by kernel_rfl) (wanted_none (by kernel_rfl)) (stable_val _) (args2 (.tmp 8) (.tmp 10) (.int .i64 A.time) (.int .i64 B.time) (knows_new (V := isVal (.int .i64 A.time)) 8 1 (by kernel_rfl) (by kernel_rfl) (by kernel_rfl)) (knows_new (V := isVal (.int .i64 B.time)) 10 3 (by kernel_rfl) (by kernel_rfl) (by kernel_rfl))) (enters_of Tryz.func111 (by kernel_rfl) rfl) (by intro w hb; exact call_cmp A.time B.time w), ?_⟩
  refine ⟨isVal (.pointer (some ⟨ga, 2, none⟩)), step_field 25 (.tmp 4) 2 ⟨ga, 0, none⟩ ⟨ga, 2, none⟩ (by kernel_rfl) (wanted_none (by kernel_rfl)) (knows_old 4 (.pointer (some ⟨ga, 0, none⟩)) (by kernel_rfl) e4) (field_va ga 2 (by omega)), ?_⟩
  refine ⟨isVal (.int .i64 A.node), step_read 3 (.tmp 12) ⟨ga, 2, none⟩ (.int .i64 A.node) (by kernel_rfl) (wanted_none (by kernel_rfl)) (knows_new (V := isVal (.pointer (some ⟨ga, 2, none⟩))) 12 5 (by kernel_rfl) (by kernel_rfl) (by kernel_rfl)) (hc.2 2 _ rfl) hc.1 agg_int, ?_⟩
  refine ⟨isVal (.pointer (some ⟨gb, 2, none⟩)), step_field 25 (.tmp 5) 2 ⟨gb, 0, none⟩ ⟨gb, 2, none⟩ (by kernel_rfl) (wanted_none (by kernel_rfl)) (knows_old 5 (.pointer (some ⟨gb, 0, none⟩)) (by kernel_rfl) e5) (field_va gb 2 (by omega)), ?_⟩
  refine ⟨isVal (.int .i64 B.node), step_read 3 (.tmp 14) ⟨gb, 2, none⟩ (.int .i64 B.node) (by kernel_rfl) (wanted_none (by kernel_rfl)) (knows_new (V := isVal (.pointer (some ⟨gb, 2, none⟩))) 14 7 (by kernel_rfl) (by kernel_rfl) (by kernel_rfl)) (gc.2 2 _ rfl) gc.1 agg_int, ?_⟩
  refine ⟨isVal (.int .i64 (cmpI A.node B.node)), step_call 111 #[.tmp 13, .tmp 15] #[3, 3] #[.int .i64 A.node, .int .i64 B.node] (by kernel_rfl) (wanted_none (by kernel_rfl)) (stable_val _) (args2 (.tmp 13) (.tmp 15) (.int .i64 A.node) (.int .i64 B.node) (knows_new (V := isVal (.int .i64 A.node)) 13 6 (by kernel_rfl) (by kernel_rfl) (by kernel_rfl)) (knows_new (V := isVal (.int .i64 B.node)) 15 8 (by kernel_rfl) (by kernel_rfl) (by kernel_rfl))) (enters_of Tryz.func111 (by kernel_rfl) rfl) (by intro w hb; exact call_cmp A.node B.node w), ?_⟩
  refine ⟨isVal (.pointer (some ⟨ga, 3, none⟩)), step_field 25 (.tmp 4) 3 ⟨ga, 0, none⟩ ⟨ga, 3, none⟩ (by kernel_rfl) (wanted_none (by kernel_rfl)) (knows_old 4 (.pointer (some ⟨ga, 0, none⟩)) (by kernel_rfl) e4) (field_va ga 3 (by omega)), ?_⟩
  refine ⟨isVal (.bool A.dead), step_read 4 (.tmp 17) ⟨ga, 3, none⟩ (.bool A.dead) (by kernel_rfl) (wanted_none (by kernel_rfl)) (knows_new (V := isVal (.pointer (some ⟨ga, 3, none⟩))) 17 10 (by kernel_rfl) (by kernel_rfl) (by kernel_rfl)) (hc.2 3 _ rfl) hc.1 agg_bool, ?_⟩
  refine ⟨isVal (.int .i64 (rankI A.dead)), step_call 112 #[.tmp 18] #[4] #[.bool A.dead] (by kernel_rfl) (wanted_none (by kernel_rfl)) (stable_val _) (args1 (.tmp 18) (.bool A.dead) (knows_new (V := isVal (.bool A.dead)) 18 11 (by kernel_rfl) (by kernel_rfl) (by kernel_rfl))) (enters_of Tryz.func112 (by kernel_rfl) rfl) (by intro w hb; exact call_rank A.dead w), ?_⟩
  refine ⟨isVal (.pointer (some ⟨gb, 3, none⟩)), step_field 25 (.tmp 5) 3 ⟨gb, 0, none⟩ ⟨gb, 3, none⟩ (by kernel_rfl) (wanted_none (by kernel_rfl)) (knows_old 5 (.pointer (some ⟨gb, 0, none⟩)) (by kernel_rfl) e5) (field_va gb 3 (by omega)), ?_⟩
  refine ⟨isVal (.bool B.dead), step_read 4 (.tmp 20) ⟨gb, 3, none⟩ (.bool B.dead) (by kernel_rfl) (wanted_none (by kernel_rfl)) (knows_new (V := isVal (.pointer (some ⟨gb, 3, none⟩))) 20 13 (by kernel_rfl) (by kernel_rfl) (by kernel_rfl)) (gc.2 3 _ rfl) gc.1 agg_bool, ?_⟩
  refine ⟨isVal (.int .i64 (rankI B.dead)), step_call 112 #[.tmp 21] #[4] #[.bool B.dead] (by kernel_rfl) (wanted_none (by kernel_rfl)) (stable_val _) (args1 (.tmp 21) (.bool B.dead) (knows_new (V := isVal (.bool B.dead)) 21 14 (by kernel_rfl) (by kernel_rfl) (by kernel_rfl))) (enters_of Tryz.func112 (by kernel_rfl) rfl) (by intro w hb; exact call_rank B.dead w), ?_⟩
  refine ⟨isVal (.int .i64 (cmpI (rankI A.dead) (rankI B.dead))), step_call 111 #[.tmp 19, .tmp 22] #[3, 3] #[.int .i64 (rankI A.dead), .int .i64 (rankI B.dead)] (by kernel_rfl) (wanted_none (by kernel_rfl)) (stable_val _) (args2 (.tmp 19) (.tmp 22) (.int .i64 (rankI A.dead)) (.int .i64 (rankI B.dead)) (knows_new (V := isVal (.int .i64 (rankI A.dead))) 19 12 (by kernel_rfl) (by kernel_rfl) (by kernel_rfl)) (knows_new (V := isVal (.int .i64 (rankI B.dead))) 22 15 (by kernel_rfl) (by kernel_rfl) (by kernel_rfl))) (enters_of Tryz.func111 (by kernel_rfl) rfl) (by intro w hb; exact call_cmp (rankI A.dead) (rankI B.dead) w), ?_⟩
  refine ⟨isVal (.pointer (some ⟨ga, 4, none⟩)), step_field 25 (.tmp 4) 4 ⟨ga, 0, none⟩ ⟨ga, 4, none⟩ (by kernel_rfl) (wanted_none (by kernel_rfl)) (knows_old 4 (.pointer (some ⟨ga, 0, none⟩)) (by kernel_rfl) e4) (field_va ga 4 (by omega)), ?_⟩
  refine ⟨isVal (.string ⟨A.text.toArray⟩), step_read 9 (.tmp 24) ⟨ga, 4, none⟩ (.string ⟨A.text.toArray⟩) (by kernel_rfl) (wanted_none (by kernel_rfl)) (knows_new (V := isVal (.pointer (some ⟨ga, 4, none⟩))) 24 17 (by kernel_rfl) (by kernel_rfl) (by kernel_rfl)) (hc.2 4 _ rfl) hc.1 agg_str, ?_⟩
  refine ⟨isVal (.pointer (some ⟨gb, 4, none⟩)), step_field 25 (.tmp 5) 4 ⟨gb, 0, none⟩ ⟨gb, 4, none⟩ (by kernel_rfl) (wanted_none (by kernel_rfl)) (knows_old 5 (.pointer (some ⟨gb, 0, none⟩)) (by kernel_rfl) e5) (field_va gb 4 (by omega)), ?_⟩
  refine ⟨isVal (.string ⟨B.text.toArray⟩), step_read 9 (.tmp 26) ⟨gb, 4, none⟩ (.string ⟨B.text.toArray⟩) (by kernel_rfl) (wanted_none (by kernel_rfl)) (knows_new (V := isVal (.pointer (some ⟨gb, 4, none⟩))) 26 19 (by kernel_rfl) (by kernel_rfl) (by kernel_rfl)) (gc.2 4 _ rfl) gc.1 agg_str, ?_⟩
  refine ⟨isVal (.int .i64 (cmpT A.text B.text)), step_call 113 #[.tmp 25, .tmp 27] #[9, 9] #[.string ⟨A.text.toArray⟩, .string ⟨B.text.toArray⟩] (by kernel_rfl) (wanted_none (by kernel_rfl)) (stable_val _) (args2 (.tmp 25) (.tmp 27) (.string ⟨A.text.toArray⟩) (.string ⟨B.text.toArray⟩) (knows_new (V := isVal (.string ⟨A.text.toArray⟩)) 25 18 (by kernel_rfl) (by kernel_rfl) (by kernel_rfl)) (knows_new (V := isVal (.string ⟨B.text.toArray⟩)) 27 20 (by kernel_rfl) (by kernel_rfl) (by kernel_rfl))) (enters_of Tryz.func113 (by kernel_rfl) rfl) (by intro w hb; exact call_cmpT A.text B.text w), ?_⟩
  refine ⟨(isCells [intC (cmpI A.time B.time), intC (cmpI A.node B.node), intC (cmpI (rankI A.dead) (rankI B.dead)), intC (cmpT A.text B.text)]), step_ints4 22 3 (.tmp 11) (.tmp 16) (.tmp 23) (.tmp 28) (cmpI A.time B.time) (cmpI A.node B.node) (cmpI (rankI A.dead) (rankI B.dead)) (cmpT A.text B.text) iint (by kernel_rfl) (wanted_none (by kernel_rfl)) (knows_new (V := isVal (.int .i64 (cmpI A.time B.time))) 11 4 (by kernel_rfl) (by kernel_rfl) (by kernel_rfl)) (knows_new (V := isVal (.int .i64 (cmpI A.node B.node))) 16 9 (by kernel_rfl) (by kernel_rfl) (by kernel_rfl)) (knows_new (V := isVal (.int .i64 (cmpI (rankI A.dead) (rankI B.dead)))) 23 16 (by kernel_rfl) (by kernel_rfl) (by kernel_rfl)) (knows_new (V := isVal (.int .i64 (cmpT A.text B.text))) 28 21 (by kernel_rfl) (by kernel_rfl) (by kernel_rfl)) Tryz.underlying22 hiint hzint hsint, ?_⟩
  refine ⟨isVal (.bool (behindB A B)), step_callP 110 #[.tmp 29] #[22] (by kernel_rfl) (wanted_none (by kernel_rfl)) (stable_val _) (enters_of Tryz.func110 (by kernel_rfl) rfl) (fun vs w => ∃ u, vs = #[u] ∧ isCells [intC (cmpI A.time B.time), intC (cmpI A.node B.node), intC (cmpI (rankI A.dead) (rankI B.dead)), intC (cmpT A.text B.text)] u w) (pre1 (knows_new (V := (isCells [intC (cmpI A.time B.time), intC (cmpI A.node B.node), intC (cmpI (rankI A.dead) (rankI B.dead)), intC (cmpT A.text B.text)])) 29 22 (by kernel_rfl) (by kernel_rfl) (by kernel_rfl))) (by rintro vs w hb ⟨u, rfl, hu⟩; exact call_behind A B u w hu), ?_⟩
  intro a w hkp hb hd
  rw [kept_of hkp [some 7, some 8, some 9, some 10, some 11, some 12, some 13, some 14, some 15, some 16, some 17, some 18, some 19, some 20, some 21, some 22, some 23, some 24, some 25, some 26, some 27, some 28, some 29, some 30] [7, 8, 9, 10, 11, 12, 13, 14, 15, 16, 17, 18, 19, 20, 21, 22, 23, 24, 25, 26, 27, 28, 29, 30] (by kernel_rfl) (by decide)]
  have d30 := fdone_of (hd 23 (by rw [show rjoinOps.size = 24 by kernel_rfl]; decide)) (t := 30) (V := isVal (.bool (behindB A B))) (by kernel_rfl) (by kernel_rfl)
  exact hQ (fun s => a.tmps.getD s undef) w d30 hb
set_option maxRecDepth 20000 in
set_option maxHeartbeats 1000000 in
theorem regJoin_any (A B : Va) (v u : Value) (w : World) (hv : isVa A v w) (hu : isVa B u w) :
    Calls Tryz.prog 105 #[.agg #[], v, u] w fun e w' => ∃ v', e = .returned v' ∧ isVaN w.heap.size (joinReg A B) v' w' ∧ Below w.heap.size w w' := by
  obtain ⟨up, um, rfl, gp, gm⟩ := hu
  obtain ⟨vp, vm, rfl, hp, hm⟩ := hv
  have hB0 := lit_below w (.cells #[] 102)
  obtain ⟨hB1, hV⟩ := vbox _ A vp vm (stable_cells _ _ _ _ hp hB0) (stable_cells _ _ _ _ hm hB0) (w.heap.size + 1) (by simp)
  have hB := Kept.mk (hB0.trans (hB1.out.mono hB0.size))
  obtain ⟨hB2, hU⟩ := vbox ((w.alloc (.cells #[] 102)).alloc (.cells #[.int .i64 A.kind, .int .i64 A.time, .int .i64 A.node, .bool A.dead, .string ⟨A.text.toArray⟩, vp, vm, .int .u64 (A.flags.toNat : Int)] 25)) B up um (stable_cells _ _ _ _ gp hB.out) (stable_cells _ _ _ _ gm hB.out) (w.heap.size + 2) (by simp)
  replace hB := Kept.mk (hB.out.trans (hB2.out.mono hB.out.size))
  have hB3 := lit_below (((w.alloc (.cells #[] 102)).alloc (.cells #[.int .i64 A.kind, .int .i64 A.time, .int .i64 A.node, .bool A.dead, .string ⟨A.text.toArray⟩, vp, vm, .int .u64 (A.flags.toNat : Int)] 25)).alloc (.cells #[.int .i64 B.kind, .int .i64 B.time, .int .i64 B.node, .bool B.dead, .string ⟨B.text.toArray⟩, up, um, .int .u64 (B.flags.toNat : Int)] 25)) (.cells #[.int .i64 0, .int .i64 0, .int .i64 0, .bool false, .string ⟨#[]⟩, .slice none 0 0, .slice none 0 0, .int .u64 0] 25)
  have HZ := Kept.mk (cellsN_at (((w.alloc (.cells #[] 102)).alloc (.cells #[.int .i64 A.kind, .int .i64 A.time, .int .i64 A.node, .bool A.dead, .string ⟨A.text.toArray⟩, vp, vm, .int .u64 (A.flags.toNat : Int)] 25)).alloc (.cells #[.int .i64 B.kind, .int .i64 B.time, .int .i64 B.node, .bool B.dead, .string ⟨B.text.toArray⟩, up, um, .int .u64 (B.flags.toNat : Int)] 25)) 25 [.int .i64 0, .int .i64 0, .int .i64 0, .bool false, .string ⟨#[]⟩, .slice none 0 0, .slice none 0 0, .int .u64 0] (w.heap.size + 3) (by simp))
  have HF := Kept.mk (free5_at (((w.alloc (.cells #[] 102)).alloc (.cells #[.int .i64 A.kind, .int .i64 A.time, .int .i64 A.node, .bool A.dead, .string ⟨A.text.toArray⟩, vp, vm, .int .u64 (A.flags.toNat : Int)] 25)).alloc (.cells #[.int .i64 B.kind, .int .i64 B.time, .int .i64 B.node, .bool B.dead, .string ⟨B.text.toArray⟩, up, um, .int .u64 (B.flags.toNat : Int)] 25)) #[.int .i64 0, .int .i64 0, .int .i64 0, .bool false, .string ⟨#[]⟩, .slice none 0 0, .slice none 0 0, .int .u64 0] 25 (w.heap.size + 3) (by simp))
  replace hV := Kept.mk ((hV.out.keep hB2.out).keep hB3)
  replace hU := Kept.mk (hU.out.keep hB3)
  replace hB := Kept.mk (hB.out.trans (hB3.mono hB.out.size))
  have hC := Kept.mk (((cellsN_at (w.alloc (.cells #[] 102)) 25 [.int .i64 A.kind, .int .i64 A.time, .int .i64 A.node, .bool A.dead, .string ⟨A.text.toArray⟩, vp, vm, .int .u64 (A.flags.toNat : Int)] (w.heap.size + 1) (by simp)).keep hB2.out (by simp)).keep hB3 (by simp))
  have gC := Kept.mk ((cellsN_at ((w.alloc (.cells #[] 102)).alloc (.cells #[.int .i64 A.kind, .int .i64 A.time, .int .i64 A.node, .bool A.dead, .string ⟨A.text.toArray⟩, vp, vm, .int .u64 (A.flags.toNat : Int)] 25)) 25 [.int .i64 B.kind, .int .i64 B.time, .int .i64 B.node, .bool B.dead, .string ⟨B.text.toArray⟩, up, um, .int .u64 (B.flags.toNat : Int)] (w.heap.size + 2) (by simp)).keep hB3 (by simp))
  have hX := Kept.mk (show isVa A (.agg #[.int .i64 A.kind, .int .i64 A.time, .int .i64 A.node, .bool A.dead, .string ⟨A.text.toArray⟩, vp, vm, .int .u64 (A.flags.toNat : Int)]) ((((w.alloc (.cells #[] 102)).alloc (.cells #[.int .i64 A.kind, .int .i64 A.time, .int .i64 A.node, .bool A.dead, .string ⟨A.text.toArray⟩, vp, vm, .int .u64 (A.flags.toNat : Int)] 25)).alloc (.cells #[.int .i64 B.kind, .int .i64 B.time, .int .i64 B.node, .bool B.dead, .string ⟨B.text.toArray⟩, up, um, .int .u64 (B.flags.toNat : Int)] 25)).alloc (.cells #[.int .i64 0, .int .i64 0, .int .i64 0, .bool false, .string ⟨#[]⟩, .slice none 0 0, .slice none 0 0, .int .u64 0] 25)) from ⟨vp, vm, rfl, stable_cells _ _ _ _ hp hB.out, stable_cells _ _ _ _ hm hB.out⟩)
  have gX := Kept.mk (show isVa B (.agg #[.int .i64 B.kind, .int .i64 B.time, .int .i64 B.node, .bool B.dead, .string ⟨B.text.toArray⟩, up, um, .int .u64 (B.flags.toNat : Int)]) ((((w.alloc (.cells #[] 102)).alloc (.cells #[.int .i64 A.kind, .int .i64 A.time, .int .i64 A.node, .bool A.dead, .string ⟨A.text.toArray⟩, vp, vm, .int .u64 (A.flags.toNat : Int)] 25)).alloc (.cells #[.int .i64 B.kind, .int .i64 B.time, .int .i64 B.node, .bool B.dead, .string ⟨B.text.toArray⟩, up, um, .int .u64 (B.flags.toNat : Int)] 25)).alloc (.cells #[.int .i64 0, .int .i64 0, .int .i64 0, .bool false, .string ⟨#[]⟩, .slice none 0 0, .slice none 0 0, .int .u64 0] 25)) from ⟨up, um, rfl, stable_cells _ _ _ _ gp hB.out, stable_cells _ _ _ _ gm hB.out⟩)
  have hR : Kept ((((((w.alloc (.cells #[] 102)).alloc (.cells #[.int .i64 A.kind, .int .i64 A.time, .int .i64 A.node, .bool A.dead, .string ⟨A.text.toArray⟩, vp, vm, .int .u64 (A.flags.toNat : Int)] 25)).alloc (.cells #[.int .i64 B.kind, .int .i64 B.time, .int .i64 B.node, .bool B.dead, .string ⟨B.text.toArray⟩, up, um, .int .u64 (B.flags.toNat : Int)] 25)).alloc (.cells #[.int .i64 0, .int .i64 0, .int .i64 0, .bool false, .string ⟨#[]⟩, .slice none 0 0, .slice none 0 0, .int .u64 0] 25))).heap[w.heap.size]? = some (.cells #[] 102 (0, 0))) := ⟨by rw [hB3.block _ (by simp <;> omega), hB2.out.block _ (by simp <;> omega), hB1.out.block _ (by simp <;> omega)]; show (w.heap.push _)[w.heap.size]? = _; simp⟩
  have hS : Kept (w.heap.size + 4 = ((((w.alloc (.cells #[] 102)).alloc (.cells #[.int .i64 A.kind, .int .i64 A.time, .int .i64 A.node, .bool A.dead, .string ⟨A.text.toArray⟩, vp, vm, .int .u64 (A.flags.toNat : Int)] 25)).alloc (.cells #[.int .i64 B.kind, .int .i64 B.time, .int .i64 B.node, .bool B.dead, .string ⟨B.text.toArray⟩, up, um, .int .u64 (B.flags.toNat : Int)] 25)).alloc (.cells #[.int .i64 0, .int .i64 0, .int .i64 0, .bool false, .string ⟨#[]⟩, .slice none 0 0, .slice none 0 0, .int .u64 0] 25)).heap.size) := ⟨by simp⟩
  clear hp hm gp gm hB0 hB1 hB2 hB3 hV hU
  go_enter Tryz.func105, Tryz.ntmps105
  go_wp2_with fail
  generalize ((((w.alloc (.cells #[] 102)).alloc (.cells #[.int .i64 A.kind, .int .i64 A.time, .int .i64 A.node, .bool A.dead, .string ⟨A.text.toArray⟩, vp, vm, .int .u64 (A.flags.toNat : Int)] 25)).alloc (.cells #[.int .i64 B.kind, .int .i64 B.time, .int .i64 B.node, .bool B.dead, .string ⟨B.text.toArray⟩, up, um, .int .u64 (B.flags.toNat : Int)] 25)).alloc (.cells #[.int .i64 0, .int .i64 0, .int .i64 0, .bool false, .string ⟨#[]⟩, .slice none 0 0, .slice none 0 0, .int .u64 0] 25)) = W0 at *
  refine rjoin_region _ _ _ rfl A B (w.heap.size + 1) (w.heap.size + 2) vp vm up um rfl rfl hC.out gC.out ?_
  intro f9 W9 d30 hb9
  simp only [List.foldl_cons, List.foldl_nil, d30]
  generalize f9 7 = y7
  generalize f9 8 = y8
  generalize f9 9 = y9
  generalize f9 10 = y10
  generalize f9 11 = y11
  generalize f9 12 = y12
  generalize f9 13 = y13
  generalize f9 14 = y14
  generalize f9 15 = y15
  generalize f9 16 = y16
  generalize f9 17 = y17
  generalize f9 18 = y18
  generalize f9 19 = y19
  generalize f9 20 = y20
  generalize f9 21 = y21
  generalize f9 22 = y22
  generalize f9 23 = y23
  generalize f9 24 = y24
  generalize f9 25 = y25
  generalize f9 26 = y26
  generalize f9 27 = y27
  generalize f9 28 = y28
  generalize f9 29 = y29
  clear d30
  simp only [List.setIfInBounds_toArray, List.set_cons_succ, List.set_cons_zero]
  replace hB := Kept.mk (hB.out.trans (hb9.mono hB.out.size))
  have hs := hS.out
  have hR9 := (hb9.block w.heap.size (by omega)).trans hR.out
  obtain ⟨_, kA⟩ := hC.out.keep hb9 (by omega)
  obtain ⟨_, kB⟩ := gC.out.keep hb9 (by omega)
  have hX9 := Kept.mk (va_grow hX.out hb9)
  have gX9 := Kept.mk (va_grow gX.out hb9)
  have hZ9 := Kept.mk (HZ.out.keep hb9 (by omega))
  have hF9 := Kept.mk (HF.out.keep hb9 (by omega))
  have hs9 := hb9.size
  clear hX gX HZ HF hb9 hR hC gC
  cases hz : behindB A B with
  | true =>
    have HJ := Kept.mk (show joinReg A B = onlyReg A by unfold joinReg; rw [hz]; rfl)
    have k0 := kA 0 _ rfl
    have k1 := kA 1 _ rfl
    have k2 := kA 2 _ rfl
    have k3 := kA 3 _ rfl
    have k4 := kA 4 _ rfl
    have k5 := kA 5 _ rfl
    have k6 := kA 6 _ rfl
    have k7 := kA 7 _ rfl
    clear kA kB
    go_wp2_with fail
    refine (regOnly_any A _ _ hX9.out).mono ?_
    rintro e w1 ⟨v', rfl, ⟨p', m', rfl, hp1, hm1, np, nm⟩, hb1⟩
    have hZ1 := hZ9.out.keep hb1 (by omega)
    have K1 := Kept.mk hZ1
    have K2 := Kept.mk (hF9.out.keep hb1 (by omega))
    replace hB := Kept.mk (hB.out.trans (hb1.mono hB.out.size))
    obtain ⟨hBK, K4, K5⟩ := vset (onlyReg A) p' m' (g := w.heap.size + 3) (by omega) hB.out hZ1 rfl hp1 hm1 (np.ne (by omega)) (nm.ne (by omega))
    obtain ⟨hc', hp', hm'⟩ := K4.out
    replace np := np.low (B' := w.heap.size) (by omega)
    replace nm := nm.low (B' := w.heap.size) (by omega)
    clear K4 hp1 hm1 hZ1 hb1
    go_wp2_with (refine wpList_storeN 25 rfl (.tmp 6) (.tmp 33) rfl (w.heap.size + 3) [.int .i64 (onlyReg A).kind, .int .i64 (onlyReg A).time, .int .i64 (onlyReg A).node, .bool (onlyReg A).dead, .string ⟨(onlyReg A).text.toArray⟩, p', m', .int .u64 ((onlyReg A).flags.toNat : Int)] size_va rfl rfl K1.out rfl K2.out K5.out ?_)
    rw [HJ.out]
    exact bodyPost_ret (resultsN1 rfl _ _ (w.heap.size + 3) _ size_va agg_va rfl hc') rfl ⟨_, rfl, ⟨_, _, rfl, hp', hm', np, nm⟩, hBK.out⟩
  | false =>
    have HJ := Kept.mk (show joinReg A B = onlyReg B by unfold joinReg; rw [hz]; rfl)
    have k0 := kB 0 _ rfl
    have k1 := kB 1 _ rfl
    have k2 := kB 2 _ rfl
    have k3 := kB 3 _ rfl
    have k4 := kB 4 _ rfl
    have k5 := kB 5 _ rfl
    have k6 := kB 6 _ rfl
    have k7 := kB 7 _ rfl
    clear kA kB
    go_wp2_with fail
    refine (regOnly_any B _ _ gX9.out).mono ?_
    rintro e w1 ⟨v', rfl, ⟨p', m', rfl, hp1, hm1, np, nm⟩, hb1⟩
    have hZ1 := hZ9.out.keep hb1 (by omega)
    have K1 := Kept.mk hZ1
    have K2 := Kept.mk (hF9.out.keep hb1 (by omega))
    replace hB := Kept.mk (hB.out.trans (hb1.mono hB.out.size))
    obtain ⟨hBK, K4, K5⟩ := vset (onlyReg B) p' m' (g := w.heap.size + 3) (by omega) hB.out hZ1 rfl hp1 hm1 (np.ne (by omega)) (nm.ne (by omega))
    obtain ⟨hc', hp', hm'⟩ := K4.out
    replace np := np.low (B' := w.heap.size) (by omega)
    replace nm := nm.low (B' := w.heap.size) (by omega)
    clear K4 hp1 hm1 hZ1 hb1
    go_wp2_with (refine wpList_storeN 25 rfl (.tmp 6) (.tmp 36) rfl (w.heap.size + 3) [.int .i64 (onlyReg B).kind, .int .i64 (onlyReg B).time, .int .i64 (onlyReg B).node, .bool (onlyReg B).dead, .string ⟨(onlyReg B).text.toArray⟩, p', m', .int .u64 ((onlyReg B).flags.toNat : Int)] size_va rfl rfl K1.out rfl K2.out K5.out ?_)
    rw [HJ.out]
    exact bodyPost_ret (resultsN1 rfl _ _ (w.heap.size + 3) _ size_va agg_va rfl hc') rfl ⟨_, rfl, ⟨_, _, rfl, hp', hm', np, nm⟩, hBK.out⟩
end Go.Proofs.YtebjljiklacolaaGreat
end
