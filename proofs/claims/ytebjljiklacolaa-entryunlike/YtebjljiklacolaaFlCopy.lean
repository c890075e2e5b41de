/- Contracts of slices.Clone at two types, and of flash.copied. -/
import Derived.Test.YtebjljiklacolaaFlMay
import Derived.Laws.ResultCell
namespace Go.Proofs.Ytebjljiklacolaa
open Go.RowKit
set_option linter.unusedVariables false
set_option linter.unusedSimpArgs false

theorem clone_i (l : List Int) (v : Value) (w : World) (hv : isCells (l.map intC) v w) (hl : l.length * 8 ≤ 140737488355328) :
    Calls Try.prog 100 #[v] w fun e w' => ∃ v', e = .returned v' ∧ w'.ownsRow w.heap.size 3 1 v' l.length (l.map intC) ∧ Below w.heap.size w w' := by
  rcases hv with ⟨rfl, h⟩ | ⟨a, cap, rfl, h⟩ | ⟨b, off, cap, rfl, hb, hc⟩
  · obtain rfl : l = [] := by simpa using h
    refine (Try.slices_Clone_int_nil 0 0 w).mono ?_
    rintro e w' ⟨rfl, rfl⟩
    exact ⟨_, rfl, World.ownsRow_nil _ _ _ _, Below.refl _ _⟩
  · obtain rfl : l = [] := by simpa using h
    refine (Try.slices_Clone_int_zero a cap w).mono ?_
    rintro e w' ⟨v', rfl, h1, _, h2⟩
    exact ⟨_, rfl, h1, h2⟩
  · rw [List.length_map]
    refine (Try.slices_Clone_int b off l.length cap l w (Nat.le_refl _) hl (fun j hj => ?_)).mono ?_
    · rw [hc j _ (get_map intC l j hj)]
      simp [intC, List.getD_eq_getElem?_getD, hj]
    · rintro e w' ⟨v', rfl, h1, _, h2⟩
      refine ⟨_, rfl, ?_, h2⟩
      rw [List.take_of_length_le (Nat.le_refl _)] at h1
      exact h1

/-! ### More operations of a drawn region -/
section
variable {P : Program} {ops : Array Oper} {base : World} {a0 : Act} {Q : Exit → Act → World → Prop} {kn : Nat → VP} {i : Nat} {V : VP}
/-- A field's place. -/
theorem step_field (t : TypeId) (x : Operand) (k : Nat) (p q : Addr) (hop : (ops[i]?).map (·.op) = some (.fieldAddr t x k)) (hw : Wanted ops a0 kn i) (hx : Knows ops a0 kn i x (isVal (.pointer (some p))))
    (hr : ∀ w, (Instr.fieldAt t (.pointer (some p)) k).run P w = .ok (.pointer (some q)) w) : FStep P ops base a0 Q kn i (isVal (.pointer (some q))) :=
  step_pure _ hop hw fun o a w ho hk hd => by
    have e1 : a.eval x = .pointer (some p) := hx a w hk hd
    unfold execOp
    rw [ho]
    simp only [e1, Sem.run_bind, hr, Result.andThen_ok, Sem.run_pure]
/-- What stands in a place that was there ahead of the region. -/
theorem step_read (t : TypeId) (x : Operand) (p : Addr) (v : Value) (hop : (ops[i]?).map (·.op) = some (.load t x)) (hw : Wanted ops a0 kn i) (hx : Knows ops a0 kn i x (isVal (.pointer (some p))))
    (hc : base.cell? p = some v) (hp : p.block < base.heap.size) (hu : ∀ w, (isAgg t).run P w = .ok false w) : FStep P ops base a0 Q kn i (isVal v) :=
  step_mk (stable_val _) hw fun o ho a w hk hb hd => by
    have e1 : a.eval x = .pointer (some p) := hx a w hk hd
    have e2 : w.cell? p = some v := (hb.cell hp).trans hc
    unfold Oper.wp execOp
    rw [op_of hop ho]
    simp only [e1, Instr.loadAt, Instr.sureAddr, Sem.run_bind, Sem.run_pure, Result.andThen_ok, loadVar, hu]
    simp [e2, Oper.upon]
    exact ⟨v, rfl, rfl, Below.refl _ _⟩

/-! ### .. and of its tail -/
variable {a : Act} {w : World} {c : Nat}
theorem tail_op {OP : Op} (K : Act → World → Prop) (hop : (ops[i]?).map (fun o => (o.op, o.guard)) = some (OP, none)) (h : ∀ o, ops[i]? = some o → o.op = OP → o.wp P a w (fun a' w' => Tail P ops Q c (i + 1) a' w') Q) : Tail P ops Q (c + 1) i a w := by
  cases ho : ops[i]? with
  | none => rw [ho] at hop; simp at hop
  | some o =>
    rw [ho] at hop
    simp only [Option.map_some, Option.some.injEq, Prod.mk.injEq] at hop
    unfold Tail wpOp
    simp only [ho]
    rw [show Region.wanted o (yielded ops a.tmps) = true by simp [Region.wanted, hop.2]]
    exact .inl (h o ho hop.1)
theorem tail_field (t : TypeId) (x : Operand) (k : Nat) (p q : Addr) (d : Tmp) (hop : (ops[i]?).map (fun o => (o.op, o.guard)) = some (.fieldAddr t x k, none)) (hd : (ops[i]?).bind (·.dst) = some d) (hx : a.eval x = .pointer (some p))
    (hr : ∀ w, (Instr.fieldAt t (.pointer (some p)) k).run P w = .ok (.pointer (some q)) w) (h : Tail P ops Q c (i + 1) (a.put (some d) (.pointer (some q))) w) : Tail P ops Q (c + 1) i a w :=
  tail_op (fun _ _ => True) hop fun o ho e => by
    rw [ho] at hd
    simp only [Option.bind_some] at hd
    unfold Oper.wp execOp
    rw [e]
    simp only [hx, Sem.run_bind, hr, Result.andThen_ok, Sem.run_pure, Oper.upon, hd]
    exact h
theorem tail_store (t : TypeId) (x y : Operand) (p : Addr) (v old : Value) (hop : (ops[i]?).map (fun o => (o.op, o.guard)) = some (.store t x y, none)) (hdst : (ops[i]?).map (·.dst) = some none) (hx : a.eval x = .pointer (some p)) (hy : a.eval y = v)
    (hs : (P.info? t).map (·.size) = some 1) (hv : v.cells = #[v]) (hv1 : v.oneCell' = true) (hc : w.cell? p = some old) (hf : w.frozen? p = false) (h : Tail P ops Q c (i + 1) a (w.setCell p v)) : Tail P ops Q (c + 1) i a w :=
  tail_op (fun _ _ => True) hop fun o ho e => by
    obtain ⟨ie, hie, hz⟩ := Option.map_eq_some_iff.1 hs
    have hsz : (sizeOf t).run P w = .ok 1 w := by simp [sizeOf, typeInfo, hie, hz]
    unfold Oper.wp execOp
    rw [e]
    simp only [hx, hy, Instr.storeAt, Instr.sureAddr, Sem.run_bind, Sem.run_pure, Result.andThen_ok, storeVar, hsz, hv]
    have hst : (storeCells p [v]).run P w = .ok () (w.setCell p v) := by
      unfold storeCells
      rw [Sem.run_bind, show p.add 0 = p by simp [Addr.add], run_store P w p v _ hv1, hc]
      simp [hf, storeCells]
    rw [if_neg (by simp), hst]
    rw [ho] at hdst
    simp only [Option.map_some, Option.some.injEq] at hdst
    simp only [Result.andThen_ok, Oper.upon, hdst]
    exact h
end

theorem Cells5.set0 {w : World} {g : Nat} {v0 v1 v2 v3 v4 : Value} (h : Cells5 w g v0 v1 v2 v3 v4) (x : Value) : Cells5 (w.setCell ⟨g, 0, none⟩ x) g x v1 v2 v3 v4 := by
  obtain ⟨hg, h0, h1, h2, h3, h4⟩ := h
  refine ⟨by simpa using hg, World.cell?_setCell_same w _ _ h0, ?_, ?_, ?_, ?_⟩ <;> (rw [World.cell?_setCell_other w _ _ _ (by intro h; injection h; contradiction)]; assumption)
theorem Cells5.set1 {w : World} {g : Nat} {v0 v1 v2 v3 v4 : Value} (h : Cells5 w g v0 v1 v2 v3 v4) (x : Value) : Cells5 (w.setCell ⟨g, 1, none⟩ x) g v0 x v2 v3 v4 := by
  obtain ⟨hg, h0, h1, h2, h3, h4⟩ := h
  refine ⟨by simpa using hg, ?_, World.cell?_setCell_same w _ _ h1, ?_, ?_, ?_⟩ <;> (rw [World.cell?_setCell_other w _ _ _ (by intro h; injection h; contradiction)]; assumption)
theorem Cells5.set2 {w : World} {g : Nat} {v0 v1 v2 v3 v4 : Value} (h : Cells5 w g v0 v1 v2 v3 v4) (x : Value) : Cells5 (w.setCell ⟨g, 2, none⟩ x) g v0 v1 x v3 v4 := by
  obtain ⟨hg, h0, h1, h2, h3, h4⟩ := h
  refine ⟨by simpa using hg, ?_, ?_, World.cell?_setCell_same w _ _ h2, ?_, ?_⟩ <;> (rw [World.cell?_setCell_other w _ _ _ (by intro h; injection h; contradiction)]; assumption)
theorem Cells5.set4 {w : World} {g : Nat} {v0 v1 v2 v3 v4 : Value} (h : Cells5 w g v0 v1 v2 v3 v4) (x : Value) : Cells5 (w.setCell ⟨g, 4, none⟩ x) g v0 v1 v2 v3 x := by
  obtain ⟨hg, h0, h1, h2, h3, h4⟩ := h
  refine ⟨by simpa using hg, ?_, ?_, ?_, ?_, World.cell?_setCell_same w _ _ h4⟩ <;> (rw [World.cell?_setCell_other w _ _ _ (by intro h; injection h; contradiction)]; assumption)
theorem Cells5.apart {w : World} {g b o : Nat} {v0 v1 v2 v3 v4 : Value} (h : Cells5 w g v0 v1 v2 v3 v4) (x : Value) (hne : b ≠ g) : Cells5 (w.setCell ⟨b, o, none⟩ x) g v0 v1 v2 v3 v4 := by
  obtain ⟨hg, h0, h1, h2, h3, h4⟩ := h
  refine ⟨by simpa using hg, ?_, ?_, ?_, ?_, ?_⟩ <;> (rw [World.cell?_setCell_other w _ _ _ (by intro h; injection h; contradiction)]; assumption)
/-- No place of the block is frozen. -/
def Free5 (w : World) (g : Nat) : Prop := ∀ j, w.frozen? ⟨g, j, none⟩ = false
theorem Free5.keep {w w' : World} {g B : Nat} (h : Free5 w g) (hb : Below B w w') (hB : g < B) : Free5 w' g := fun j => (hb.frozen (p := ⟨g, j, none⟩) hB).trans (h j)
theorem Free5.set {w : World} {g : Nat} (h : Free5 w g) (p : Addr) (x : Value) : Free5 (w.setCell p x) g := fun j => by rw [World.frozen?_setCell]; exact h j
theorem free5_new (w : World) (cs : Array Value) (t : TypeId) : Free5 (w.alloc (.cells cs t)) w.heap.size := fun j => World.frozen?_alloc_new w _ _ _
/-- Five cells written at once. -/
def set5 (w : World) (g : Nat) (v0 v1 v2 v3 v4 : Value) : World := ((((w.setCell ⟨g, 0, none⟩ v0).setCell ⟨g, 1, none⟩ v1).setCell ⟨g, 2, none⟩ v2).setCell ⟨g, 3, none⟩ v3).setCell ⟨g, 4, none⟩ v4
theorem Cells5.set3 {w : World} {g : Nat} {v0 v1 v2 v3 v4 : Value} (h : Cells5 w g v0 v1 v2 v3 v4) (x : Value) : Cells5 (w.setCell ⟨g, 3, none⟩ x) g v0 v1 v2 x v4 := by
  obtain ⟨hg, h0, h1, h2, h3, h4⟩ := h
  refine ⟨by simpa using hg, ?_, ?_, ?_, World.cell?_setCell_same w _ _ h3, ?_⟩ <;> (rw [World.cell?_setCell_other w _ _ _ (by intro h; injection h; contradiction)]; assumption)
theorem Cells5.set5_ {w : World} {g : Nat} {o0 o1 o2 o3 o4 : Value} (h : Cells5 w g o0 o1 o2 o3 o4) (v0 v1 v2 v3 v4 : Value) : Cells5 (set5 w g v0 v1 v2 v3 v4) g v0 v1 v2 v3 v4 := ((((h.set0 v0).set1 v1).set2 v2).set3 v3).set4 v4
theorem Cells5.apart5 {w : World} {g b : Nat} {o0 o1 o2 o3 o4 : Value} (h : Cells5 w g o0 o1 o2 o3 o4) (v0 v1 v2 v3 v4 : Value) (hne : b ≠ g) : Cells5 (set5 w b v0 v1 v2 v3 v4) g o0 o1 o2 o3 o4 := ((((h.apart v0 hne).apart v1 hne).apart v2 hne).apart v3 hne).apart v4 hne
theorem Free5.set5_ {w : World} {g : Nat} (h : Free5 w g) (b : Nat) (v0 v1 v2 v3 v4 : Value) : Free5 (set5 w b v0 v1 v2 v3 v4) g := ((((h.set _ v0).set _ v1).set _ v2).set _ v3).set _ v4
theorem below_set5 {B : Nat} {w0 w : World} (h : Below B w0 w) {g : Nat} (hg : B ≤ g) (v0 v1 v2 v3 v4 : Value) : Below B w0 (set5 w g v0 v1 v2 v3 v4) :=
  ((((h.setCell (p := ⟨g, 0, none⟩) hg v0).setCell (p := ⟨g, 1, none⟩) hg v1).setCell (p := ⟨g, 2, none⟩) hg v2).setCell (p := ⟨g, 3, none⟩) hg v3).setCell (p := ⟨g, 4, none⟩) hg v4
theorem size_set5 (w : World) (g : Nat) (v0 v1 v2 v3 v4 : Value) : (set5 w g v0 v1 v2 v3 v4).heap.size = w.heap.size := by simp [set5]
theorem cells5_at (w : World) (t : TypeId) (v0 v1 v2 v3 v4 : Value) (n : Nat) (hn : n = w.heap.size) : Cells5 (w.alloc (.cells #[v0, v1, v2, v3, v4] t)) n v0 v1 v2 v3 v4 := by subst hn; exact cells5_new w t v0 v1 v2 v3 v4
theorem free5_at (w : World) (cs : Array Value) (t : TypeId) (n : Nat) (hn : n = w.heap.size) : Free5 (w.alloc (.cells cs t)) n := by subst hn; exact free5_new w cs t
theorem agg_ints (w : World) : (isAgg 22).run Try.prog w = .ok false w := by simp [isAgg, run_underlying Try.underlying22]
theorem agg_str (w : World) : (isAgg 9).run Try.prog w = .ok false w := by simp [isAgg, run_underlying Try.underlying9]
theorem agg_int (w : World) : (isAgg 3).run Try.prog w = .ok false w := by simp [isAgg, run_underlying Try.underlying3]
theorem agg_bool (w : World) : (isAgg 4).run Try.prog w = .ok false w := by simp [isAgg, run_underlying Try.underlying4]

/-- A row of the call's own. -/
def isOwn (B : Nat) (e : TypeId) (cs : List Value) : VP := fun v w => w.ownsRow B e 1 v cs.length cs
theorem stable_own (B : Nat) (e : TypeId) (cs : List Value) : Stable (isOwn B e cs) := by
  intro v w w' h hb
  obtain ⟨hl, h | ⟨g, cap, cur, hv, hB, hg, rest⟩⟩ := h
  · exact ⟨hl, .inl h⟩
  · exact ⟨hl, .inr ⟨g, cap, cur, hv, hB, (hb.block g (Array.getElem?_eq_some_iff.1 hg).1).trans hg, rest⟩⟩
theorem isOwn.low {B B' : Nat} {e : TypeId} {cs : List Value} {v : Value} {w : World} (h : isOwn B e cs v w) (hB : B' ≤ B) : isOwn B' e cs v w := by
  obtain ⟨hl, h | ⟨g, cap, cur, hv, hg, rest⟩⟩ := h
  · exact ⟨hl, .inl h⟩
  · exact ⟨hl, .inr ⟨g, cap, cur, hv, Nat.le_trans hB hg, rest⟩⟩
theorem isOwn.set {B : Nat} {e : TypeId} {cs : List Value} {v : Value} {w : World} (h : isOwn B e cs v w) {p : Addr} (hp : p.block < B) (u : Value) : isOwn B e cs v (w.setCell p u) := ownsRow_setCell_below h hp u
theorem isOwn.set5_ {B : Nat} {e : TypeId} {cs : List Value} {v : Value} {w : World} (h : isOwn B e cs v w) {g : Nat} (hg : g < B) (v0 v1 v2 v3 v4 : Value) : isOwn B e cs v (set5 w g v0 v1 v2 v3 v4) :=
  ((((h.set (p := ⟨g, 0, none⟩) hg v0).set (p := ⟨g, 1, none⟩) hg v1).set (p := ⟨g, 2, none⟩) hg v2).set (p := ⟨g, 3, none⟩) hg v3).set (p := ⟨g, 4, none⟩) hg v4
theorem isOwn.cells {B : Nat} {e : TypeId} {cs : List Value} {v : Value} {w : World} (h : isOwn B e cs v w) : isCells cs v w := isCells_own h
theorem isOwn.one {B : Nat} {e : TypeId} {cs : List Value} {v : Value} {w : World} (h : isOwn B e cs v w) : v.cells = #[v] ∧ v.oneCell' = true := by
  obtain ⟨hl, ⟨rfl, _⟩ | ⟨g, cap, cur, rfl, _⟩⟩ := h
  · exact ⟨rfl, rfl⟩
  · exact ⟨rfl, rfl⟩
theorem clone_i' (B : Nat) (l : List Int) (v : Value) (w : World) (hv : isCells (l.map intC) v w) (hl : l.length * 8 ≤ 140737488355328) (hB : B ≤ w.heap.size) :
    Calls Try.prog 100 #[v] w fun e w' => ∃ v', e = .returned v' ∧ isOwn B 3 (l.map intC) v' w' ∧ Below w.heap.size w w' :=
  (clone_i l v w hv hl).mono (by rintro e w' ⟨v', rfl, h1, h2⟩; exact ⟨v', rfl, isOwn.low (B := w.heap.size) (by unfold isOwn; rw [List.length_map]; exact h1) hB, h2⟩)
theorem fdone_of {ops : Array Oper} {kn : Nat → VP} {a : Act} {w : World} {j : Nat} {t : Tmp} {V : VP} (h : FDone ops kn a w j) (hd : (ops[j]?).bind (·.dst) = some t) (hV : kn j = V) : V (a.tmps.getD t undef) w := by
  cases ho : ops[j]? with
  | none => rw [ho] at hd; simp at hd
  | some o => rw [ho] at hd; rw [← hV]; exact h o ho t (by simpa using hd)
theorem arr_eta (a : Array Value) {n : Nat} (h : a.size = n) : a = ((List.range n).map fun i => a.getD i undef).toArray := by
  subst h
  apply Array.ext
  · simp
  · intro i h1 h2
    simp [Array.getD, h1]

end Go.Proofs.Ytebjljiklacolaa
