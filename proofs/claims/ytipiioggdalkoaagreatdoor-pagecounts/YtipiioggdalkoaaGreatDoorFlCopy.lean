/- Contracts of slices.Clone at two types, and of flash.copied. -/
import Derived.Test.YtipiioggdalkoaaGreatDoorFlMay
import Derived.Laws.ResultCell
namespace Go.Proofs.YtipiioggdalkoaaGreatDoor
open Go.RowKit
set_option linter.unusedVariables false
set_option linter.unusedSimpArgs false

theorem clone_s (l : List (List UInt8)) (v : Value) (w : World) (hv : isCells (l.map strC) v w) (hl : l.length * 16 ≤ 140737488355328) :
    Calls Tryz.prog 66 #[v] w fun e w' => ∃ v', e = .returned v' ∧ w'.ownsRow w.heap.size 9 1 v' l.length (l.map strC) ∧ Below w.heap.size w w' := by
  rcases hv with ⟨rfl, h⟩ | ⟨a, cap, rfl, h⟩ | ⟨b, off, cap, rfl, hb, hc⟩
  · obtain rfl : l = [] := by simpa using h
    refine (Tryz.slices_Clone_string_nil 0 0 w).mono ?_
    rintro e w' ⟨rfl, rfl⟩
    exact ⟨_, rfl, World.ownsRow_nil _ _ _ _, Below.refl _ _⟩
  · obtain rfl : l = [] := by simpa using h
    refine (Tryz.slices_Clone_string_zero a cap w).mono ?_
    rintro e w' ⟨v', rfl, h1, _, h2⟩
    exact ⟨_, rfl, h1, h2⟩
  · rw [List.length_map]
    refine (Tryz.slices_Clone_string b off l.length cap (l.map fun x => ⟨x.toArray⟩) w (by simp) hl (fun j hj => ?_)).mono ?_
    · have hj' : j < l.length := by simpa using hj
      rw [hc j _ (get_map strC l j hj')]
      simp [strC, List.getD_eq_getElem?_getD, hj']
    · rintro e w' ⟨v', rfl, h1, _, h2⟩
      refine ⟨_, rfl, ?_, h2⟩
      have : ((l.map fun x => (⟨x.toArray⟩ : ByteArray)).take l.length).map Value.string = l.map strC := by
        rw [List.take_of_length_le (by simp), List.map_map]; rfl
      rwa [this] at h1
theorem clone_i (l : List Int) (v : Value) (w : World) (hv : isCells (l.map intC) v w) (hl : l.length * 8 ≤ 140737488355328) :
    Calls Tryz.prog 67 #[v] w fun e w' => ∃ v', e = .returned v' ∧ w'.ownsRow w.heap.size 3 1 v' l.length (l.map intC) ∧ Below w.heap.size w w' := by
  rcases hv with ⟨rfl, h⟩ | ⟨a, cap, rfl, h⟩ | ⟨b, off, cap, rfl, hb, hc⟩
  · obtain rfl : l = [] := by simpa using h
    refine (Tryz.slices_Clone_int_nil 0 0 w).mono ?_
    rintro e w' ⟨rfl, rfl⟩
    exact ⟨_, rfl, World.ownsRow_nil _ _ _ _, Below.refl _ _⟩
  · obtain rfl : l = [] := by simpa using h
    refine (Tryz.slices_Clone_int_zero a cap w).mono ?_
    rintro e w' ⟨v', rfl, h1, _, h2⟩
    exact ⟨_, rfl, h1, h2⟩
  · rw [List.length_map]
    refine (Tryz.slices_Clone_int b off l.length cap l w (Nat.le_refl _) hl (fun j hj => ?_)).mono ?_
    · rw [hc j _ (get_map intC l j hj)]
      simp [intC, List.getD_eq_getElem?_getD, hj]
    · rintro e w' ⟨v', rfl, h1, _, h2⟩
      refine ⟨_, rfl, ?_, h2⟩
      rw [List.take_of_length_le (Nat.le_refl _)] at h1
      exact h1

/-! ### More operations of a drawn region -/
section
variable {P : Program} {ops : Array Oper} {base : World} {a0 : Act} {Q : Exit → Act → World → Prop} {kn : Nat → VP} {i : Nat} {V : VP}
/-- A field's place. -/
theorem step_field (t : TypeId) (x : Operand) (k : Nat) (p q : Addr) (hop : (ops[i]?).map (·.op) = some (.fieldAddr t x k)) (hw : Wanted ops a0 kn i) (hx : Knows ops a0 kn i x (isVal (.pointer (some p))))
    (hr : ∀ w, (Instr.fieldAt t (.pointer (some p)) k).run P w = .ok (.pointer (some q)) w) : FStep P ops base a0 Q kn i (isVal (.pointer (some q))) :=
  step_pure _ hop hw fun o a w ho hk hd => by
    have e1 : a.eval x = .pointer (some p) := hx a w hk hd
    unfold execOp
    rw [ho]
    simp only [e1, Sem.run_bind, hr, Result.andThen_ok, Sem.run_pure]
/-- What stands in a place that was there ahead of the region. -/
theorem step_read (t : TypeId) (x : Operand) (p : Addr) (v : Value) (hop : (ops[i]?).map (·.op) = some (.load t x)) (hw : Wanted ops a0 kn i) (hx : Knows ops a0 kn i x (isVal (.pointer (some p))))
    (hc : base.cell? p = some v) (hp : p.block < base.heap.size) (hu : ∀ w, (isAgg t).run P w = .ok false w) : FStep P ops base a0 Q kn i (isVal v) :=
  step_mk (stable_val _) hw fun o ho a w hk hb hd => by
    have e1 : a.eval x = .pointer (some p) := hx a w hk hd
    have e2 : w.cell? p = some v := (hb.cell hp).trans hc
    unfold Oper.wp execOp
    rw [op_of hop ho]
    simp only [e1, Instr.loadAt, Instr.sureAddr, Sem.run_bind, Sem.run_pure, Result.andThen_ok, loadVar, hu]
    simp [e2, Oper.upon]
    exact ⟨v, rfl, rfl, Below.refl _ _⟩

/-! ### .. and of its tail -/
variable {a : Act} {w : World} {c : Nat}
theorem tail_op {OP : Op} (K : Act → World → Prop) (hop : (ops[i]?).map (fun o => (o.op, o.guard)) = some (OP, none)) (h : ∀ o, ops[i]? = some o → o.op = OP → o.wp P a w (fun a' w' => Tail P ops Q c (i + 1) a' w') Q) : Tail P ops Q (c + 1) i a w := by
  cases ho : ops[i]? with
  | none => rw [ho] at hop; simp at hop
  | some o =>
    rw [ho] at hop
    simp only [Option.map_some, Option.some.injEq, Prod.mk.injEq] at hop
    unfold Tail wpOp
    simp only [ho]
    rw [show Region.wanted o (yielded ops a.tmps) = true by simp [Region.wanted, hop.2]]
    exact .inl (h o ho hop.1)
theorem tail_field (t : TypeId) (x : Operand) (k : Nat) (p q : Addr) (d : Tmp) (hop : (ops[i]?).map (fun o => (o.op, o.guard)) = some (.fieldAddr t x k, none)) (hd : (ops[i]?).bind (·.dst) = some d) (hx : a.eval x = .pointer (some p))
    (hr : ∀ w, (Instr.fieldAt t (.pointer (some p)) k).run P w = .ok (.pointer (some q)) w) (h : Tail P ops Q c (i + 1) (a.put (some d) (.pointer (some q))) w) : Tail P ops Q (c + 1) i a w :=
  tail_op (fun _ _ => True) hop fun o ho e => by
    rw [ho] at hd
    simp only [Option.bind_some] at hd
    unfold Oper.wp execOp
    rw [e]
    simp only [hx, Sem.run_bind, hr, Result.andThen_ok, Sem.run_pure, Oper.upon, hd]
    exact h
theorem tail_store (t : TypeId) (x y : Operand) (p : Addr) (v old : Value) (hop : (ops[i]?).map (fun o => (o.op, o.guard)) = some (.store t x y, none)) (hdst : (ops[i]?).map (·.dst) = some none) (hx : a.eval x = .pointer (some p)) (hy : a.eval y = v)
    (hs : (P.info? t).map (·.size) = some 1) (hv : v.cells = #[v]) (hv1 : v.oneCell' = true) (hc : w.cell? p = some old) (hf : w.frozen? p = false) (h : Tail P ops Q c (i + 1) a (w.setCell p v)) : Tail P ops Q (c + 1) i a w :=
  tail_op (fun _ _ => True) hop fun o ho e => by
    obtain ⟨ie, hie, hz⟩ := Option.map_eq_some_iff.1 hs
    have hsz : (sizeOf t).run P w = .ok 1 w := by simp [sizeOf, typeInfo, hie, hz]
    unfold Oper.wp execOp
    rw [e]
    simp only [hx, hy, Instr.storeAt, Instr.sureAddr, Sem.run_bind, Sem.run_pure, Result.andThen_ok, storeVar, hsz, hv]
    have hst : (storeCells p [v]).run P w = .ok () (w.setCell p v) := by
      unfold storeCells
      rw [Sem.run_bind, show p.add 0 = p by simp [Addr.add], run_store P w p v _ hv1, hc]
      simp [hf, storeCells]
    rw [if_neg (by simp), hst]
    rw [ho] at hdst
    simp only [Option.map_some, Option.some.injEq] at hdst
    simp only [Result.andThen_ok, Oper.upon, hdst]
    exact h
end

theorem Cells5.set0 {w : World} {g : Nat} {v0 v1 v2 v3 v4 : Value} (h : Cells5 w g v0 v1 v2 v3 v4) (x : Value) : Cells5 (w.setCell ⟨g, 0, none⟩ x) g x v1 v2 v3 v4 := by
  obtain ⟨hg, h0, h1, h2, h3, h4⟩ := h
  refine ⟨by simpa using hg, World.cell?_setCell_same w _ _ h0, ?_, ?_, ?_, ?_⟩ <;> (rw [World.cell?_setCell_other w _ _ _ (by intro h; injection h; contradiction)]; assumption)
theorem Cells5.set1 {w : World} {g : Nat} {v0 v1 v2 v3 v4 : Value} (h : Cells5 w g v0 v1 v2 v3 v4) (x : Value) : Cells5 (w.setCell ⟨g, 1, none⟩ x) g v0 x v2 v3 v4 := by
  obtain ⟨hg, h0, h1, h2, h3, h4⟩ := h
  refine ⟨by simpa using hg, ?_, World.cell?_setCell_same w _ _ h1, ?_, ?_, ?_⟩ <;> (rw [World.cell?_setCell_other w _ _ _ (by intro h; injection h; contradiction)]; assumption)
theorem Cells5.set2 {w : World} {g : Nat} {v0 v1 v2 v3 v4 : Value} (h : Cells5 w g v0 v1 v2 v3 v4) (x : Value) : Cells5 (w.setCell ⟨g, 2, none⟩ x) g v0 v1 x v3 v4 := by
  obtain ⟨hg, h0, h1, h2, h3, h4⟩ := h
  refine ⟨by simpa using hg, ?_, ?_, World.cell?_setCell_same w _ _ h2, ?_, ?_⟩ <;> (rw [World.cell?_setCell_other w _ _ _ (by intro h; injection h; contradiction)]; assumption)
theorem Cells5.set4 {w : World} {g : Nat} {v0 v1 v2 v3 v4 : Value} (h : Cells5 w g v0 v1 v2 v3 v4) (x : Value) : Cells5 (w.setCell ⟨g, 4, none⟩ x) g v0 v1 v2 v3 x := by
  obtain ⟨hg, h0, h1, h2, h3, h4⟩ := h
  refine ⟨by simpa using hg, ?_, ?_, ?_, ?_, World.cell?_setCell_same w _ _ h4⟩ <;> (rw [World.cell?_setCell_other w _ _ _ (by intro h; injection h; contradiction)]; assumption)
theorem Cells5.apart {w : World} {g b o : Nat} {v0 v1 v2 v3 v4 : Value} (h : Cells5 w g v0 v1 v2 v3 v4) (x : Value) (hne : b ≠ g) : Cells5 (w.setCell ⟨b, o, none⟩ x) g v0 v1 v2 v3 v4 := by
  obtain ⟨hg, h0, h1, h2, h3, h4⟩ := h
  refine ⟨by simpa using hg, ?_, ?_, ?_, ?_, ?_⟩ <;> (rw [World.cell?_setCell_other w _ _ _ (by intro h; injection h; contradiction)]; assumption)
/-- No place of the block is frozen. -/
def Free5 (w : World) (g : Nat) : Prop := ∀ j, w.frozen? ⟨g, j, none⟩ = false
theorem Free5.keep {w w' : World} {g B : Nat} (h : Free5 w g) (hb : Below B w w') (hB : g < B) : Free5 w' g := fun j => (hb.frozen (p := ⟨g, j, none⟩) hB).trans (h j)
theorem Free5.set {w : World} {g : Nat} (h : Free5 w g) (p : Addr) (x : Value) : Free5 (w.setCell p x) g := fun j => by rw [World.frozen?_setCell]; exact h j
theorem free5_new (w : World) (cs : Array Value) (t : TypeId) : Free5 (w.alloc (.cells cs t)) w.heap.size := fun j => World.frozen?_alloc_new w _ _ _
/-- Five cells written at once. -/
def set5 (w : World) (g : Nat) (v0 v1 v2 v3 v4 : Value) : World := ((((w.setCell ⟨g, 0, none⟩ v0).setCell ⟨g, 1, none⟩ v1).setCell ⟨g, 2, none⟩ v2).setCell ⟨g, 3, none⟩ v3).setCell ⟨g, 4, none⟩ v4
theorem Cells5.set3 {w : World} {g : Nat} {v0 v1 v2 v3 v4 : Value} (h : Cells5 w g v0 v1 v2 v3 v4) (x : Value) : Cells5 (w.setCell ⟨g, 3, none⟩ x) g v0 v1 v2 x v4 := by
  obtain ⟨hg, h0, h1, h2, h3, h4⟩ := h
  refine ⟨by simpa using hg, ?_, ?_, ?_, World.cell?_setCell_same w _ _ h3, ?_⟩ <;> (rw [World.cell?_setCell_other w _ _ _ (by intro h; injection h; contradiction)]; assumption)
theorem Cells5.set5_ {w : World} {g : Nat} {o0 o1 o2 o3 o4 : Value} (h : Cells5 w g o0 o1 o2 o3 o4) (v0 v1 v2 v3 v4 : Value) : Cells5 (set5 w g v0 v1 v2 v3 v4) g v0 v1 v2 v3 v4 := ((((h.set0 v0).set1 v1).set2 v2).set3 v3).set4 v4
theorem Cells5.apart5 {w : World} {g b : Nat} {o0 o1 o2 o3 o4 : Value} (h : Cells5 w g o0 o1 o2 o3 o4) (v0 v1 v2 v3 v4 : Value) (hne : b ≠ g) : Cells5 (set5 w b v0 v1 v2 v3 v4) g o0 o1 o2 o3 o4 := ((((h.apart v0 hne).apart v1 hne).apart v2 hne).apart v3 hne).apart v4 hne
theorem Free5.set5_ {w : World} {g : Nat} (h : Free5 w g) (b : Nat) (v0 v1 v2 v3 v4 : Value) : Free5 (set5 w b v0 v1 v2 v3 v4) g := ((((h.set _ v0).set _ v1).set _ v2).set _ v3).set _ v4
theorem below_set5 {B : Nat} {w0 w : World} (h : Below B w0 w) {g : Nat} (hg : B ≤ g) (v0 v1 v2 v3 v4 : Value) : Below B w0 (set5 w g v0 v1 v2 v3 v4) :=
  ((((h.setCell (p := ⟨g, 0, none⟩) hg v0).setCell (p := ⟨g, 1, none⟩) hg v1).setCell (p := ⟨g, 2, none⟩) hg v2).setCell (p := ⟨g, 3, none⟩) hg v3).setCell (p := ⟨g, 4, none⟩) hg v4
theorem size_set5 (w : World) (g : Nat) (v0 v1 v2 v3 v4 : Value) : (set5 w g v0 v1 v2 v3 v4).heap.size = w.heap.size := by simp [set5]
theorem store5 (g : Nat) (w : World) (o0 o1 o2 o3 o4 v0 v1 v2 v3 v4 : Value) (h : Cells5 w g o0 o1 o2 o3 o4) (hf : Free5 w g) (n0 : v0.oneCell' = true) (n1 : v1.oneCell' = true) (n2 : v2.oneCell' = true) (n3 : v3.oneCell' = true) (n4 : v4.oneCell' = true) :
    (Instr.storeAt 31 (.pointer (some ⟨g, 0, none⟩)) (.agg #[v0, v1, v2, v3, v4])).run Tryz.prog w = .ok () (set5 w g v0 v1 v2 v3 v4) := by
  have hs : (Tryz.prog.info? 31).map (·.size) = some 5 := by kernel_rfl
  obtain ⟨ie, hie, hz⟩ := Option.map_eq_some_iff.1 hs
  have hsz : (sizeOf 31).run Tryz.prog w = .ok 5 w := by simp [sizeOf, typeInfo, hie, hz]
  have hst : ∀ (w : World) (k : Nat) (v old : Value), v.oneCell' = true → w.cell? ⟨g, k, none⟩ = some old → w.frozen? ⟨g, k, none⟩ = false → (store ⟨g, k, none⟩ v).run Tryz.prog w = .ok () (w.setCell ⟨g, k, none⟩ v) := by
    intro w k v old h1 h2 h3
    rw [run_store Tryz.prog w _ v _ h1, h2]
    simp [h3]
  have a0 : (⟨g, 0, none⟩ : Addr).add 0 = ⟨g, 0, none⟩ := by simp [Addr.add]
  have a1 : (⟨g, 0, none⟩ : Addr).add 1 = ⟨g, 1, none⟩ := by simp [Addr.add]
  have a2 : (⟨g, 0, none⟩ : Addr).add 2 = ⟨g, 2, none⟩ := by simp [Addr.add]
  have a3 : (⟨g, 0, none⟩ : Addr).add 3 = ⟨g, 3, none⟩ := by simp [Addr.add]
  have a4 : (⟨g, 0, none⟩ : Addr).add 4 = ⟨g, 4, none⟩ := by simp [Addr.add]
  simp only [Instr.storeAt, Instr.sureAddr, Sem.run_bind, Sem.run_pure, Result.andThen_ok, storeVar, hsz]
  rw [if_neg (show ¬ ((Value.agg #[v0, v1, v2, v3, v4]).cells.size ≠ 5) by show ¬ (5 ≠ 5); simp)]
  show (storeCells ⟨g, 0, none⟩ [v0, v1, v2, v3, v4]).run Tryz.prog w = _
  simp only [storeCells, Sem.run_bind, a0, a1, a2, a3, a4, Nat.zero_add]
  rw [hst w 0 v0 o0 n0 h.2.1 (hf 0)]
  simp only [Result.andThen_ok]
  rw [hst _ 1 v1 o1 n1 (h.set0 v0).2.2.1 ((hf.set _ v0) 1)]
  simp only [Result.andThen_ok]
  rw [hst _ 2 v2 o2 n2 ((h.set0 v0).set1 v1).2.2.2.1 (((hf.set _ v0).set _ v1) 2)]
  simp only [Result.andThen_ok]
  rw [hst _ 3 v3 o3 n3 (((h.set0 v0).set1 v1).set2 v2).2.2.2.2.1 ((((hf.set _ v0).set _ v1).set _ v2) 3)]
  simp only [Result.andThen_ok]
  rw [hst _ 4 v4 o4 n4 ((((h.set0 v0).set1 v1).set2 v2).set3 v3).2.2.2.2.2 (((((hf.set _ v0).set _ v1).set _ v2).set _ v3) 4)]
  simp [set5]
theorem wpList_store5 {ops : Array Oper} {rest : List Oper} {o : Oper} {a : Act} {w : World} {Q : Exit → Act → World → Prop} (hgd : o.guard = none) (x y : Operand) (ho : o.op = .store 31 x y)
    (g : Nat) (v0 v1 v2 v3 v4 : Value) (hx : a.eval x = .pointer (some ⟨g, 0, none⟩)) (hy : a.eval y = .agg #[v0, v1, v2, v3, v4]) {o0 o1 o2 o3 o4 : Value} (h5 : Cells5 w g o0 o1 o2 o3 o4) (hf : Free5 w g)
    (n0 : v0.oneCell' = true) (n1 : v1.oneCell' = true) (n2 : v2.oneCell' = true) (n3 : v3.oneCell' = true) (n4 : v4.oneCell' = true)
    (h : wpList Tryz.prog ops Q rest (a.put o.dst undef) (set5 w g v0 v1 v2 v3 v4)) : wpList Tryz.prog ops Q (o :: rest) a w :=
  wpList_plain hgd fun K hK => by
    unfold Oper.wp execOp
    rw [ho]
    simp only [hx, hy, Sem.run_bind, store5 g w o0 o1 o2 o3 o4 v0 v1 v2 v3 v4 h5 hf n0 n1 n2 n3 n4, Result.andThen_ok, Sem.run_pure, Oper.upon]
    exact hK _ _ h
theorem load5 (g : Nat) (w : World) (v0 v1 v2 v3 v4 : Value) (h : Cells5 w g v0 v1 v2 v3 v4) : (loadVar 31 ⟨g, 0, none⟩).run Tryz.prog w = .ok (.agg #[v0, v1, v2, v3, v4]) w := by
  have hs : (Tryz.prog.info? 31).map (·.size) = some 5 := by kernel_rfl
  obtain ⟨ie, hie, hz⟩ := Option.map_eq_some_iff.1 hs
  have hsz : (sizeOf 31).run Tryz.prog w = .ok 5 w := by simp [sizeOf, typeInfo, hie, hz]
  have hag : (isAgg 31).run Tryz.prog w = .ok true w := by simp [isAgg, run_underlying Tryz.underlying31]
  obtain ⟨_, h0, h1, h2, h3, h4⟩ := h
  simp only [loadVar, Sem.run_bind, hag, Result.andThen_ok, if_true, hsz, loadCells, loadCellsFrom]
  simp [Addr.add, h0, h1, h2, h3, h4]
theorem results1 {fn : Func} {p : Tmp} (h : fn.results = #[.cell p 31]) (tmps : Array Value) (w : World) (g : Nat) (v0 v1 v2 v3 v4 : Value) (hp : tmps.getD p undef = .pointer (some ⟨g, 0, none⟩)) (h5 : Cells5 w g v0 v1 v2 v3 v4) :
    (results fn tmps).run Tryz.prog w = .ok (.agg #[v0, v1, v2, v3, v4]) w := by
  have hp' : tmps[p]?.getD undef = .pointer (some ⟨g, 0, none⟩) := by simpa using hp
  simp [results, h, hp', asAddr, load5 g w v0 v1 v2 v3 v4 h5]
theorem results2 {fn : Func} {p u : Tmp} (h : fn.results = #[.cell p 31, .tmp u]) (tmps : Array Value) (w : World) (g : Nat) (v0 v1 v2 v3 v4 x : Value) (hp : tmps.getD p undef = .pointer (some ⟨g, 0, none⟩)) (hx : tmps.getD u undef = x) (h5 : Cells5 w g v0 v1 v2 v3 v4) :
    (results fn tmps).run Tryz.prog w = .ok (.tuple #[.agg #[v0, v1, v2, v3, v4], x]) w := by
  rw [results_cell_tmp h, hp, hx]
  simp [asAddr, load5 g w v0 v1 v2 v3 v4 h5]
theorem cells5_at (w : World) (t : TypeId) (v0 v1 v2 v3 v4 : Value) (n : Nat) (hn : n = w.heap.size) : Cells5 (w.alloc (.cells #[v0, v1, v2, v3, v4] t)) n v0 v1 v2 v3 v4 := by subst hn; exact cells5_new w t v0 v1 v2 v3 v4
theorem free5_at (w : World) (cs : Array Value) (t : TypeId) (n : Nat) (hn : n = w.heap.size) : Free5 (w.alloc (.cells cs t)) n := by subst hn; exact free5_new w cs t
theorem field_fl (g k : Nat) (hk : k < 5) (w : World) : (Instr.fieldAt 31 (.pointer (some ⟨g, 0, none⟩)) k).run Tryz.prog w = .ok (.pointer (some ⟨g, k, none⟩)) w := by
  have h : k = 0 ∨ k = 1 ∨ k = 2 ∨ k = 3 ∨ k = 4 := by omega
  rcases h with rfl | rfl | rfl | rfl | rfl <;> simp [Instr.fieldAt, run_underlying Tryz.underlying31, Instr.sureAddr, fieldPlace, Addr.add]
theorem agg_strs (w : World) : (isAgg 26).run Tryz.prog w = .ok false w := by simp [isAgg, run_underlying Tryz.underlying26]
theorem agg_ints (w : World) : (isAgg 29).run Tryz.prog w = .ok false w := by simp [isAgg, run_underlying Tryz.underlying29]
theorem agg_str (w : World) : (isAgg 9).run Tryz.prog w = .ok false w := by simp [isAgg, run_underlying Tryz.underlying9]
theorem agg_int (w : World) : (isAgg 3).run Tryz.prog w = .ok false w := by simp [isAgg, run_underlying Tryz.underlying3]
theorem agg_bool (w : World) : (isAgg 4).run Tryz.prog w = .ok false w := by simp [isAgg, run_underlying Tryz.underlying4]

/-- A row of the call's own. -/
def isOwn (B : Nat) (e : TypeId) (cs : List Value) : VP := fun v w => w.ownsRow B e 1 v cs.length cs
theorem stable_own (B : Nat) (e : TypeId) (cs : List Value) : Stable (isOwn B e cs) := by
  intro v w w' h hb
  obtain ⟨hl, h | ⟨g, cap, cur, hv, hB, hg, rest⟩⟩ := h
  · exact ⟨hl, .inl h⟩
  · exact ⟨hl, .inr ⟨g, cap, cur, hv, hB, (hb.block g (Array.getElem?_eq_some_iff.1 hg).1).trans hg, rest⟩⟩
theorem isOwn.low {B B' : Nat} {e : TypeId} {cs : List Value} {v : Value} {w : World} (h : isOwn B e cs v w) (hB : B' ≤ B) : isOwn B' e cs v w := by
  obtain ⟨hl, h | ⟨g, cap, cur, hv, hg, rest⟩⟩ := h
  · exact ⟨hl, .inl h⟩
  · exact ⟨hl, .inr ⟨g, cap, cur, hv, Nat.le_trans hB hg, rest⟩⟩
theorem isOwn.set {B : Nat} {e : TypeId} {cs : List Value} {v : Value} {w : World} (h : isOwn B e cs v w) {p : Addr} (hp : p.block < B) (u : Value) : isOwn B e cs v (w.setCell p u) := ownsRow_setCell_below h hp u
theorem isOwn.set5_ {B : Nat} {e : TypeId} {cs : List Value} {v : Value} {w : World} (h : isOwn B e cs v w) {g : Nat} (hg : g < B) (v0 v1 v2 v3 v4 : Value) : isOwn B e cs v (set5 w g v0 v1 v2 v3 v4) :=
  ((((h.set (p := ⟨g, 0, none⟩) hg v0).set (p := ⟨g, 1, none⟩) hg v1).set (p := ⟨g, 2, none⟩) hg v2).set (p := ⟨g, 3, none⟩) hg v3).set (p := ⟨g, 4, none⟩) hg v4
theorem isOwn.cells {B : Nat} {e : TypeId} {cs : List Value} {v : Value} {w : World} (h : isOwn B e cs v w) : isCells cs v w := isCells_own h
theorem isOwn.one {B : Nat} {e : TypeId} {cs : List Value} {v : Value} {w : World} (h : isOwn B e cs v w) : v.cells = #[v] ∧ v.oneCell' = true := by
  obtain ⟨hl, ⟨rfl, _⟩ | ⟨g, cap, cur, rfl, _⟩⟩ := h
  · exact ⟨rfl, rfl⟩
  · exact ⟨rfl, rfl⟩
theorem clone_s' (B : Nat) (l : List (List UInt8)) (v : Value) (w : World) (hv : isCells (l.map strC) v w) (hl : l.length * 16 ≤ 140737488355328) (hB : B ≤ w.heap.size) :
    Calls Tryz.prog 66 #[v] w fun e w' => ∃ v', e = .returned v' ∧ isOwn B 9 (l.map strC) v' w' ∧ Below w.heap.size w w' :=
  (clone_s l v w hv hl).mono (by rintro e w' ⟨v', rfl, h1, h2⟩; exact ⟨v', rfl, isOwn.low (B := w.heap.size) (by unfold isOwn; rw [List.length_map]; exact h1) hB, h2⟩)
theorem clone_i' (B : Nat) (l : List Int) (v : Value) (w : World) (hv : isCells (l.map intC) v w) (hl : l.length * 8 ≤ 140737488355328) (hB : B ≤ w.heap.size) :
    Calls Tryz.prog 67 #[v] w fun e w' => ∃ v', e = .returned v' ∧ isOwn B 3 (l.map intC) v' w' ∧ Below w.heap.size w w' :=
  (clone_i l v w hv hl).mono (by rintro e w' ⟨v', rfl, h1, h2⟩; exact ⟨v', rfl, isOwn.low (B := w.heap.size) (by unfold isOwn; rw [List.length_map]; exact h1) hB, h2⟩)
theorem fdone_of {ops : Array Oper} {kn : Nat → VP} {a : Act} {w : World} {j : Nat} {t : Tmp} {V : VP} (h : FDone ops kn a w j) (hd : (ops[j]?).bind (·.dst) = some t) (hV : kn j = V) : V (a.tmps.getD t undef) w := by
  cases ho : ops[j]? with
  | none => rw [ho] at hd; simp at hd
  | some o => rw [ho] at hd; rw [← hV]; exact h o ho t (by simpa using hd)
theorem arr_eta (a : Array Value) {n : Nat} (h : a.size = n) : a = ((List.range n).map fun i => a.getD i undef).toArray := by
  subst h
  apply Array.ext
  · simp
  · intro i h1 h2
    simp [Array.getD, h1]

noncomputable def copyOps : Array Oper := regionOf Tryz.f49 1
set_option maxRecDepth 100000 in
set_option maxHeartbeats 1000000 in
theorem copied_region (Q : Exit → Act → World → Prop) (a0 : Act) (w0 : World) (hsz : a0.tmps.size = 12) (g : Nat) (pages : List (List UInt8)) (wear : List Int) (vp vw v2 v3 v4 : Value)
    (h1 : a0.tmps.getD 1 undef = .pointer (some ⟨g, 0, none⟩)) (hc : Cells5 w0 g vp vw v2 v3 v4) (hf : Free5 w0 g) (hp : isCells (pages.map strC) vp w0) (hw : isCells (wear.map intC) vw w0)
    (hl1 : pages.length * 16 ≤ 140737488355328) (hl2 : wear.length * 8 ≤ 140737488355328)
    (hQ : ∀ (a : Act) (w1 : World) (vp' vw' : Value), a.defers = a0.defers → a.tmps.size = a0.tmps.size → (∀ t, (copyOps.toList.all fun o => o.dst != some t) = true → a.tmps.getD t undef = a0.tmps.getD t undef) →
      Below w0.heap.size w0 w1 → isOwn w0.heap.size 9 (pages.map strC) vp' w1 → isOwn w0.heap.size 3 (wear.map intC) vw' w1 → Q .normal a ((w1.setCell ⟨g, 0, none⟩ vp').setCell ⟨g, 1, none⟩ vw')) :
    (Code.region 1 copyOps true).wp Tryz.prog Q a0 w0 := by
  refine wp_region_tail 7 mixed (by rw [hsz]; kernel_rfl) (by kernel_rfl) ?_
  rw [show copyOps.size - 7 = 3 by kernel_rfl]
  refine ⟨isVal (.pointer (some ⟨g, 0, none⟩)), step_field 31 (.tmp 1) 0 ⟨g, 0, none⟩ ⟨g, 0, none⟩ (by kernel_rfl) (wanted_none (by kernel_rfl)) (knows_old 1 (.pointer (some ⟨g, 0, none⟩)) (by kernel_rfl) h1) (field_fl g 0 (by omega)), ?_⟩
  refine ⟨isVal vp, step_read 26 (.tmp 3) ⟨g, 0, none⟩ vp (by kernel_rfl) (wanted_none (by kernel_rfl)) (knows_new (V := isVal (.pointer (some ⟨g, 0, none⟩))) 3 0 (by kernel_rfl) (by kernel_rfl) (by kernel_rfl)) hc.2.1 hc.1 agg_strs, ?_⟩
  refine ⟨(isOwn w0.heap.size 9 (pages.map strC)), step_call 66 #[.tmp 4] #[26] #[vp] (by kernel_rfl) (wanted_none (by kernel_rfl)) (stable_own _ _ _) (args1 (.tmp 4) vp (knows_new (V := isVal vp) 4 1 (by kernel_rfl) (by kernel_rfl) (by kernel_rfl))) (enters_of Tryz.func66 (by kernel_rfl) rfl) (by intro w hb; exact clone_s' w0.heap.size pages vp w (stable_cells _ _ _ _ hp hb) hl1 hb.size), ?_⟩
  refine ⟨isVal (.pointer (some ⟨g, 1, none⟩)), step_field 31 (.tmp 1) 1 ⟨g, 0, none⟩ ⟨g, 1, none⟩ (by kernel_rfl) (wanted_none (by kernel_rfl)) (knows_old 1 (.pointer (some ⟨g, 0, none⟩)) (by kernel_rfl) h1) (field_fl g 1 (by omega)), ?_⟩
  refine ⟨isVal vw, step_read 29 (.tmp 6) ⟨g, 1, none⟩ vw (by kernel_rfl) (wanted_none (by kernel_rfl)) (knows_new (V := isVal (.pointer (some ⟨g, 1, none⟩))) 6 3 (by kernel_rfl) (by kernel_rfl) (by kernel_rfl)) hc.2.2.1 hc.1 agg_ints, ?_⟩
  refine ⟨(isOwn w0.heap.size 3 (wear.map intC)), step_call 67 #[.tmp 7] #[29] #[vw] (by kernel_rfl) (wanted_none (by kernel_rfl)) (stable_own _ _ _) (args1 (.tmp 7) vw (knows_new (V := isVal vw) 7 4 (by kernel_rfl) (by kernel_rfl) (by kernel_rfl))) (enters_of Tryz.func67 (by kernel_rfl) rfl) (by intro w hb; exact clone_i' w0.heap.size wear vw w (stable_cells _ _ _ _ hw hb) hl2 hb.size), ?_⟩
  refine ⟨isVal (.pointer (some ⟨g, 0, none⟩)), step_field 31 (.tmp 1) 0 ⟨g, 0, none⟩ ⟨g, 0, none⟩ (by kernel_rfl) (wanted_none (by kernel_rfl)) (knows_old 1 (.pointer (some ⟨g, 0, none⟩)) (by kernel_rfl) h1) (field_fl g 0 (by omega)), ?_⟩
  intro a w hk hb hd
  have d5 := fdone_of (hd 2 (by decide)) (t := 5) (V := isOwn w0.heap.size 9 (pages.map strC)) (by kernel_rfl) (by kernel_rfl)
  have d8 := fdone_of (hd 5 (by decide)) (t := 8) (V := isOwn w0.heap.size 3 (wear.map intC)) (by kernel_rfl) (by kernel_rfl)
  have d9 := fdone_of (hd 6 (by decide)) (t := 9) (V := isVal (.pointer (some ⟨g, 0, none⟩))) (by kernel_rfl) (by kernel_rfl)
  have e1 : a.tmps.getD 1 undef = .pointer (some ⟨g, 0, none⟩) := (hk.2.2 1 (by kernel_rfl)).trans h1
  have hcw := hc.keep hb hc.1
  have hfw := hf.keep hb hc.1
  have hgw : g < w0.heap.size := hc.1
  have hs10 : 10 < a.tmps.size := by rw [hk.2.1, hsz]; decide
  refine tail_store 26 (.tmp 9) (.tmp 5) ⟨g, 0, none⟩ (a.tmps.getD 5 undef) _ (by kernel_rfl) (by kernel_rfl) d9 rfl (by kernel_rfl) d5.one.1 d5.one.2 hcw.2.1 (hfw 0) ?_
  refine tail_field 31 (.tmp 1) 1 ⟨g, 0, none⟩ ⟨g, 1, none⟩ 10 (by kernel_rfl) (by kernel_rfl) e1 (field_fl g 1 (by omega)) ?_
  refine tail_store 29 (.tmp 10) (.tmp 8) ⟨g, 1, none⟩ (a.tmps.getD 8 undef) _ (by kernel_rfl) (by kernel_rfl) (getD_put_self hs10) (getD_put (by decide)) (by kernel_rfl) d8.one.1 d8.one.2 (hcw.set0 _).2.2.1 (hfw.set _ _ 1) ?_
  refine hQ _ w _ _ ((defers_put (a := a)).trans hk.1) ((size_put (a := a)).trans hk.2.1) (fun t ht => ?_) hb d5 d8
  have hall : (copyOps.toList.all fun o => o.dst != some 10) = false := by kernel_rfl
  rw [getD_put (fun e => by rw [e, hall] at ht; cases ht)]
  exact hk.2.2 t ht

set_option maxRecDepth 100000 in
set_option maxHeartbeats 1000000 in
theorem copied_any (F : Fl) (v : Value) (w : World) (hv : isFl F v w) (h1 : F.pages.length * 16 ≤ 140737488355328) (h2 : F.wear.length * 8 ≤ 140737488355328) :
    Calls Tryz.prog 49 #[v] w fun e w' => ∃ vp vw, e = .returned (.agg #[vp, vw, .int .i64 F.fuse, strC F.torn, .bool F.dead]) ∧ isOwn w.heap.size 9 (F.pages.map strC) vp w' ∧ isOwn w.heap.size 3 (F.wear.map intC) vw w' ∧ Below w.heap.size w w' := by
  obtain ⟨vp, vw, rfl, hp, hw⟩ := hv
  have HP := Lib.hid hp
  have HW := Lib.hid hw
  clear hp hw
  go_enter Tryz.func49, Tryz.ntmps49
  go_wp2_with fail
  have hb0 : Below w.heap.size w ((w.alloc (.cells #[vp, vw, .int .i64 F.fuse, strC F.torn, .bool F.dead] 31)).alloc (.cells #[.slice none 0 0, .slice none 0 0, .int .i64 0, .string ⟨#[]⟩, .bool false] 31)) := ((Below.refl _ _).alloc (Nat.le_refl _) _).alloc (by simp <;> omega) _
  have hc1 := cells5_new w 31 vp vw (.int .i64 F.fuse) (strC F.torn) (.bool F.dead)
  have hf1 := free5_new w #[vp, vw, .int .i64 F.fuse, strC F.torn, .bool F.dead] 31
  have hc2 := cells5_at (w.alloc (.cells #[vp, vw, .int .i64 F.fuse, strC F.torn, .bool F.dead] 31)) 31 (.slice none 0 0) (.slice none 0 0) (.int .i64 0) (.string ⟨#[]⟩) (.bool false) (w.heap.size + 1) (by simp)
  have hf2 := free5_at (w.alloc (.cells #[vp, vw, .int .i64 F.fuse, strC F.torn, .bool F.dead] 31)) #[.slice none 0 0, .slice none 0 0, .int .i64 0, .string ⟨#[]⟩, .bool false] 31 (w.heap.size + 1) (by simp)
  have hbn := (Below.refl (w.alloc (.cells #[vp, vw, .int .i64 F.fuse, strC F.torn, .bool F.dead] 31)).heap.size (w.alloc (.cells #[vp, vw, .int .i64 F.fuse, strC F.torn, .bool F.dead] 31))).alloc (Nat.le_refl _) (.cells #[.slice none 0 0, .slice none 0 0, .int .i64 0, .string ⟨#[]⟩, .bool false] 31)
  refine copied_region _ _ _ rfl w.heap.size F.pages F.wear vp vw (.int .i64 F.fuse) (strC F.torn) (.bool F.dead) rfl (hc1.keep hbn (by simp <;> omega)) (hf1.keep hbn (by simp <;> omega)) (stable_cells _ _ _ _ HP.out hb0) (stable_cells _ _ _ _ HW.out hb0) h1 h2 ?_
  intro act w1 vp' vw' hdf hsz hkeep hb1 ho1 ho2
  have hk1 : act.tmps.getD 1 undef = .pointer (some ⟨w.heap.size, 0, none⟩) := hkeep 1 (by kernel_rfl)
  have hk2 : act.tmps.getD 2 undef = .pointer (some ⟨w.heap.size + 1, 0, none⟩) := hkeep 2 (by kernel_rfl)
  obtain ⟨tm, df⟩ := act
  obtain rfl : df = [] := hdf
  clear hkeep
  obtain ⟨f, rfl, hk1, hk2⟩ : ∃ f : Nat → Value, tm = ((List.range 12).map f).toArray ∧ f 1 = .pointer (some ⟨w.heap.size, 0, none⟩) ∧ f 2 = .pointer (some ⟨w.heap.size + 1, 0, none⟩) := ⟨fun i => tm.getD i undef, arr_eta tm hsz, hk1, hk2⟩
  rw [show ((List.range 12).map f).toArray = #[f 0, f 1, f 2, f 3, f 4, f 5, f 6, f 7, f 8, f 9, f 10, f 11] from rfl]
  rw [hk1, hk2]
  clear hsz hk1 hk2
  have q1 := (((hc1.keep hbn (by simp <;> omega)).keep hb1 (by simp <;> omega)).set0 vp').set1 vw'
  have q2 := (((hc2.keep hb1 (by simp <;> omega)).apart (b := w.heap.size) (o := 0) vp' (by simp <;> omega)).apart (b := w.heap.size) (o := 1) vw' (by simp <;> omega))
  have q3 := ((hf2.keep hb1 (by simp <;> omega)).set ⟨w.heap.size, 0, none⟩ vp').set ⟨w.heap.size, 1, none⟩ vw'
  have hB : Below w.heap.size w ((w1.setCell ⟨w.heap.size, 0, none⟩ vp').setCell ⟨w.heap.size, 1, none⟩ vw') := ((hb0.trans (hb1.mono hb0.size)).setCell (p := ⟨w.heap.size, 0, none⟩) (Nat.le_refl _) vp').setCell (p := ⟨w.heap.size, 1, none⟩) (Nat.le_refl _) vw'
  replace ho1 := (ho1.set (p := ⟨w.heap.size, 0, none⟩) (by simp <;> omega) vp').set (p := ⟨w.heap.size, 1, none⟩) (by simp <;> omega) vw'
  replace ho2 := (ho2.set (p := ⟨w.heap.size, 0, none⟩) (by simp <;> omega) vp').set (p := ⟨w.heap.size, 1, none⟩) (by simp <;> omega) vw'
  obtain ⟨oc1, oo1⟩ := ho1.one
  obtain ⟨oc2, oo2⟩ := ho2.one
  generalize (w1.setCell ⟨w.heap.size, 0, none⟩ vp').setCell ⟨w.heap.size, 1, none⟩ vw' = W at *
  have HO1 := Lib.hid ho1
  have HO2 := Lib.hid ho2
  clear ho1 ho2 hc1 hc2 hf1 hf2 hbn hb1 hb0 HP HW
  have hB5 := below_set5 hB (g := w.heap.size + 1) (by omega) vp' vw' (.int .i64 F.fuse) (strC F.torn) (.bool F.dead)
  obtain ⟨g1, k0, k1, k2, k3, k4⟩ := q1
  obtain ⟨g2, j0, j1, j2, j3, j4⟩ := q2.set5_ vp' vw' (.int .i64 F.fuse) (strC F.torn) (.bool F.dead)
  have HQ2 := Lib.hid q2
  have HQ5 := Lib.hid (q2.set5_ vp' vw' (.int .i64 F.fuse) (strC F.torn) (.bool F.dead))
  have HQ3 := Lib.hid q3
  clear q2 q3
  have HP1 := Lib.hid (show isOwn w.heap.size 9 (F.pages.map strC) vp' (set5 W (w.heap.size + 1) vp' vw' (.int .i64 F.fuse) (strC F.torn) (.bool F.dead)) from (HO1.out.set5_ (by simp <;> omega) _ _ _ _ _).low (by simp <;> omega))
  have HP2 := Lib.hid (show isOwn w.heap.size 3 (F.wear.map intC) vw' (set5 W (w.heap.size + 1) vp' vw' (.int .i64 F.fuse) (strC F.torn) (.bool F.dead)) from (HO2.out.set5_ (by simp <;> omega) _ _ _ _ _).low (by simp <;> omega))
  go_wp2_with (refine wpList_store5 rfl _ _ rfl (w.heap.size + 1) vp' vw' (.int .i64 F.fuse) (strC F.torn) (.bool F.dead) rfl rfl HQ2.out HQ3.out oo1 oo2 rfl rfl rfl ?_)
  exact bodyPost_ret (results1 rfl _ _ (w.heap.size + 1) vp' vw' (.int .i64 F.fuse) (strC F.torn) (.bool F.dead) rfl HQ5.out) rfl ⟨_, _, rfl, HP1.out, HP2.out, hB5⟩
end Go.Proofs.YtipiioggdalkoaaGreatDoor
