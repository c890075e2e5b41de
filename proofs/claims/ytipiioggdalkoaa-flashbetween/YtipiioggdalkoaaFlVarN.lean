/- Variables that hold devices whose rows are the call's own: they may be written anew. The builtin min. -/
import Derived.Test.YtipiioggdalkoaaFlLay
namespace Go.Proofs.Ytipiioggdalkoaa
open Go.RowKit
set_option linter.unusedVariables false
set_option linter.unusedSimpArgs false

structure VarN (B : Nat) (w : World) (g : Nat) (G : Fl) : Prop where
  low : B ≤ g
  ex : ∃ vp vw, w.heap[g]? = some (.cells #[vp, vw, .int .i64 G.fuse, strC G.torn, .bool G.dead] 25 (0, 0)) ∧ isBtw B w.heap.size 9 (G.pages.map strC) vp w ∧ isBtw B w.heap.size 3 (G.wear.map intC) vw w
theorem VarN.var {B : Nat} {w : World} {g : Nat} {G : Fl} (h : VarN B w g G) : Var w g G := by
  obtain ⟨_, vp, vw, hc, hp, hq⟩ := h
  exact ⟨vp, vw, (cells5_of hc).1, hp.cells, hq.cells⟩
theorem VarN.keep {B : Nat} {w w' : World} {g : Nat} {G : Fl} (h : VarN B w g G) (hb : Below w.heap.size w w') : VarN B w' g G := by
  obtain ⟨lo, vp, vw, hc, hp, hq⟩ := h
  exact ⟨lo, vp, vw, (hb.block g (Array.getElem?_eq_some_iff.1 hc).1).trans hc, (hp.grow hb).weak (Nat.le_refl _) hb.size, (hq.grow hb).weak (Nat.le_refl _) hb.size⟩
theorem VarN.lower {B B' : Nat} {w : World} {g : Nat} {G : Fl} (h : VarN B w g G) (hB : B' ≤ B) : VarN B' w g G := by
  obtain ⟨lo, vp, vw, hc, hp, hq⟩ := h
  exact ⟨Nat.le_trans hB lo, vp, vw, hc, hp.weak hB (Nat.le_refl _), hq.weak hB (Nat.le_refl _)⟩
theorem VarN.lt {B : Nat} {w : World} {g : Nat} {G : Fl} (h : VarN B w g G) : g < w.heap.size := h.var.lt
/-- A new variable, in which a device is laid down. -/
theorem varN_new {B : Nat} (w : World) (G : Fl) (vp vw : Value) (hB : B ≤ w.heap.size) (hp : isBtw B w.heap.size 9 (G.pages.map strC) vp w) (hq : isBtw B w.heap.size 3 (G.wear.map intC) vw w) :
    Kept (Cells5 (w.alloc (.cells #[.slice none 0 0, .slice none 0 0, .int .i64 0, .string ⟨#[]⟩, .bool false] 25)) w.heap.size (.slice none 0 0) (.slice none 0 0) (.int .i64 0) (.string ⟨#[]⟩) (.bool false)) ∧
    Kept (Free5 (w.alloc (.cells #[.slice none 0 0, .slice none 0 0, .int .i64 0, .string ⟨#[]⟩, .bool false] 25)) w.heap.size) ∧
    Kept (Below w.heap.size w (set5 (w.alloc (.cells #[.slice none 0 0, .slice none 0 0, .int .i64 0, .string ⟨#[]⟩, .bool false] 25)) w.heap.size vp vw (.int .i64 G.fuse) (strC G.torn) (.bool G.dead))) ∧
    Kept (VarN B (set5 (w.alloc (.cells #[.slice none 0 0, .slice none 0 0, .int .i64 0, .string ⟨#[]⟩, .bool false] 25)) w.heap.size vp vw (.int .i64 G.fuse) (strC G.torn) (.bool G.dead)) w.heap.size G) := by
  obtain ⟨k1, k2, k3, _⟩ := var_new w G vp vw hp.cells hq.cells
  refine ⟨k1, k2, k3, ⟨hB, vp, vw, ?_, (hp.grow k3.out).weak (Nat.le_refl _) k3.out.size, (hq.grow k3.out).weak (Nat.le_refl _) k3.out.size⟩⟩
  exact set5_block _ _ (.slice none 0 0) (.slice none 0 0) (.int .i64 0) (.string ⟨#[]⟩) (.bool false) vp vw _ _ _ _ (by
    show (w.heap.push _)[w.heap.size]? = _
    simp)
/-- One is laid over another one. -/
theorem VarN.copy {B B' : Nat} {w0 w : World} {g h : Nat} {G X : Fl} (hw : VarN B w g G) (hx : VarN B w h X) (hne : g ≠ h) (hb : Below B' w0 w) (hB' : B' ≤ B) :
    ∃ vp vw, Kept (Cells5 w h vp vw (.int .i64 X.fuse) (strC X.torn) (.bool X.dead)) ∧ Kept (∃ o0 o1 o2 o3 o4, Cells5 w g o0 o1 o2 o3 o4) ∧ Kept (Free5 w g) ∧ vp.oneCell' = true ∧ vw.oneCell' = true ∧
      Kept (VarN B (set5 w g vp vw (.int .i64 X.fuse) (strC X.torn) (.bool X.dead)) g X) ∧ Kept (Below B' w0 (set5 w g vp vw (.int .i64 X.fuse) (strC X.torn) (.bool X.dead))) := by
  obtain ⟨lo, o0, o1, hc, _, _⟩ := hw
  obtain ⟨lo', vp, vw, hc', hp, hq⟩ := hx
  refine ⟨vp, vw, ⟨(cells5_of hc').1⟩, ⟨_, _, _, _, _, (cells5_of hc).1⟩, ⟨(cells5_of hc).2⟩, hp.one, hq.one, ⟨lo, vp, vw, set5_block _ _ _ _ _ _ _ vp vw _ _ _ _ hc, ?_, ?_⟩, ⟨below_set5 hb (Nat.le_trans hB' lo) _ _ _ _ _⟩⟩
  all_goals
    have hkp : Keeps 25 B w (set5 w g vp vw (.int .i64 X.fuse) (strC X.torn) (.bool X.dead)) := ⟨by rw [size_set5]; exact Nat.le_refl _, fun b hb h => set5_other _ _ _ _ _ _ _ _ (by
      rintro rfl
      rcases h with h | h
      · omega
      · exact h _ _ hc)⟩
    first | exact (hp.keeps hkp (by decide)).weak (Nat.le_refl _) hkp.size | exact (hq.keeps hkp (by decide)).weak (Nat.le_refl _) hkp.size
/-- A parameter's box: its rows are older than the call. -/
def VarO (w0 w : World) (g : Nat) (G : Fl) : Prop := ∃ vp vw, Cells5 w g vp vw (.int .i64 G.fuse) (strC G.torn) (.bool G.dead) ∧ isCells (G.pages.map strC) vp w0 ∧ isCells (G.wear.map intC) vw w0
theorem VarO.keep {w0 w w' : World} {g : Nat} {G : Fl} (h : VarO w0 w g G) (hb : Below w.heap.size w w') : VarO w0 w' g G := by
  obtain ⟨vp, vw, hc, hp, hq⟩ := h
  exact ⟨vp, vw, hc.keep hb hc.1, hp, hq⟩
theorem VarO.var {w0 w : World} {g : Nat} {G : Fl} (h : VarO w0 w g G) (hb : Below w0.heap.size w0 w) : Var w g G := by
  obtain ⟨vp, vw, hc, hp, hq⟩ := h
  exact ⟨vp, vw, hc, stable_cells _ _ _ _ hp hb, stable_cells _ _ _ _ hq hb⟩
theorem VarO.lt {w0 w : World} {g : Nat} {G : Fl} (h : VarO w0 w g G) : g < w.heap.size := by obtain ⟨_, _, hc, _⟩ := h; exact hc.1
theorem VarO.set5_ {w0 w : World} {g b : Nat} {G : Fl} (h : VarO w0 w g G) (hne : b ≠ g) (v0 v1 v2 v3 v4 : Value) : VarO w0 (set5 w b v0 v1 v2 v3 v4) g G := by
  obtain ⟨vp, vw, hc, hp, hq⟩ := h
  exact ⟨vp, vw, hc.apart5 _ _ _ _ _ hne, hp, hq⟩
theorem varO_box (w : World) (G : Fl) (vp vw : Value) (hp : isCells (G.pages.map strC) vp w) (hq : isCells (G.wear.map intC) vw w) : VarO w (w.alloc (.cells #[vp, vw, .int .i64 G.fuse, strC G.torn, .bool G.dead] 25)) w.heap.size G :=
  ⟨vp, vw, cells5_new w 25 _ _ _ _ _, hp, hq⟩
section
variable {P : Program} {ops : Array Oper} {base : World} {a0 : Act} {Q : Exit → Act → World → Prop} {kn : Nat → VP} {i : Nat}
/-- Operation i is passed over, since what it hangs on was. -/
theorem step_skipU (j : Nat) (t : Tmp) (b : Bool) (h : (ops[i]?).map (·.guard) = some (some (j, b))) (hw : waits ops i j = true) (hj : (ops[j]?).bind (·.dst) = some t) (hV : kn j = isVal undef) :
    FStep P ops base a0 Q kn i (isVal undef) := by
  refine ⟨stable_val _, fun o ho a w hk hb hd => ?_⟩
  have hv : a.tmps.getD t undef = undef := knows_new (a0 := a0) t j hw hj hV a w hk hd
  have h' := h
  rw [ho] at h'
  simp only [Option.map_some, Option.some.injEq] at h'
  have hy : yielded ops a.tmps j = none := by
    unfold yielded
    cases hoj : ops[j]? with
    | none => rw [hoj] at hj; simp at hj
    | some oj =>
      rw [hoj] at hj
      simp only [Option.bind_some] at hj
      simp only [hoj, hj, Option.bind_some]
      cases ht : a.tmps[t]? with
      | none => rfl
      | some x =>
        have : x = undef := by rw [← hv]; simp [Array.getD_eq_getD_getElem?, ht]
        subst this
        rfl
  have hwn : Region.wanted o (yielded ops a.tmps) = false := by
    simp only [Region.wanted, h', hy]
    rfl
  unfold wpOp
  simp only [ho, hwn]
  exact ⟨undef, rfl, rfl, Below.refl _ _⟩
theorem step_min (k : IntKind) (t1 t2 : TypeId) (x y : Operand) (m n r : Int) (hop : (ops[i]?).map (·.op) = some (.call { callee := .builtin .min, args := #[x, y], argTypes := #[t1, t2] })) (hw : Wanted ops a0 kn i) (hx : Knows ops a0 kn i x (isVal (.int k m))) (hy : Knows ops a0 kn i y (isVal (.int k n)))
    (hr : (if n < m then n else m) = r) : FStep P ops base a0 Q kn i (isVal (.int k r)) :=
  step_pure _ hop hw fun o a w ho hk hd => by
    have e1 : a.eval x = .int k m := hx a w hk hd
    have e2 : a.eval y = .int k n := hy a w hk hd
    unfold execOp
    rw [ho]
    simp only [resolve, Sem.run_bind, Sem.run_pure, Result.andThen_ok, invoke, builtin, List.map_toArray, List.map_cons, List.map_nil, e1, e2, Builtin.min_, List.foldlM, Builtin.min2, hr]
end
end Go.Proofs.Ytipiioggdalkoaa
