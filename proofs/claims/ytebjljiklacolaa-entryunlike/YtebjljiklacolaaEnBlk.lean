/- Blocks of cells beside a cell that is written through a pointer. Nothing of the program. -/
import Derived.Test.YtebjljiklacolaaEnSkip
import Derived.Test.YtebjljiklacolaaVaVar
namespace Go.Proofs.Ytebjljiklacolaa
open Go.RowKit
set_option linter.unusedVariables false
set_option linter.unusedSimpArgs false

/-- Block b holds just these cells, and may be written. -/
structure Blk (W : World) (b : Nat) (cs : List Value) : Prop where
  cells : CellsN W b cs
  free : Free5 W b
theorem Blk.lt {W : World} {b : Nat} {cs : List Value} (h : Blk W b cs) : b < W.heap.size := h.cells.1
theorem Blk.wr {W W' : World} {b g : Nat} {cs : List Value} {x : Value} (h : Blk W b cs) (k : Wr g x W W') (hne : b ≠ g) : Blk W' b cs :=
  ⟨⟨Nat.lt_of_lt_of_le h.lt k.size, fun j x hx => (k.cell (p := ⟨b, j, none⟩) h.lt hne).trans (h.cells.2 j x hx)⟩, fun j => (k.frozen (p := ⟨b, j, none⟩) h.lt hne).trans (h.free j)⟩
theorem Blk.keep {W W' : World} {b : Nat} {cs : List Value} (h : Blk W b cs) (k : Below W.heap.size W W') : Blk W' b cs := ⟨h.cells.keep k h.lt, h.free.keep k h.lt⟩
theorem Blk.set {W : World} {b : Nat} {cs : List Value} (h : Blk W b cs) (k : Nat) (x : Value) (hk : k < cs.length) : Blk (W.setCell ⟨b, k, none⟩ x) b (cs.set k x) := by
  refine ⟨⟨by simpa using h.lt, fun j y hy => ?_⟩, fun j => by rw [World.frozen?_setCell]; exact h.free j⟩
  by_cases e : k = j
  · subst e
    rw [World.cell?_setCell_same W _ _ (h.cells.2 k _ (List.getElem?_eq_getElem hk))]
    rw [List.getElem?_set_self hk] at hy
    exact hy
  · rw [World.cell?_setCell_other W _ _ _ (by intro h; injection h; contradiction)]
    rw [List.getElem?_set_ne e] at hy
    exact h.cells.2 j y hy
theorem Blk.apart {W : World} {b b' : Nat} {cs : List Value} (h : Blk W b cs) (hne : b ≠ b') (k : Nat) (x : Value) : Blk (W.setCell ⟨b', k, none⟩ x) b cs :=
  ⟨⟨by simpa using h.lt, fun j y hy => by rw [World.cell?_setCell_other W _ _ _ (by intro h; injection h with h1; exact hne h1.symm)]; exact h.cells.2 j y hy⟩, fun j => by rw [World.frozen?_setCell]; exact h.free j⟩
theorem Blk.all_ {W : World} {b : Nat} {cs l : List Value} (h : Blk W b cs) (hl : cs.length = l.length) : Blk (setN W b 0 l) b l := ⟨h.cells.setN_ l hl, h.free.setN_ b 0 l⟩
theorem Blk.apartN {W : World} {b b' : Nat} {cs : List Value} (h : Blk W b cs) (hne : b ≠ b') (k : Nat) (l : List Value) : Blk (setN W b' k l) b cs := ⟨h.cells.apartN k l (fun e => hne e.symm), h.free.setN_ b' k l⟩
theorem Blk.new (W : World) (t : TypeId) (l : List Value) (n : Nat) (hn : n = W.heap.size) : Blk (W.alloc (.cells l.toArray t)) n l := ⟨cellsN_at W t l n hn, free5_at W l.toArray t n hn⟩
theorem Blk.alloc {W : World} {b : Nat} {cs : List Value} (h : Blk W b cs) (o : Obj) : Blk (W.alloc o) b cs := h.keep ((Below.refl _ _).alloc (Nat.le_refl _) _)

theorem Wr.setCell_new {g b : Nat} {x : Value} {w W : World} (h : Wr g x w W) (hb : w.heap.size ≤ b) (hne : b ≠ g) (k : Nat) (y : Value) : Wr g x w (W.setCell ⟨b, k, none⟩ y) where
  os := h.os
  tape := h.tape
  output := h.output
  size := by simpa using h.size
  block i hi hig := (Below.heap_setCell W _ y i (by show i ≠ b; omega)).trans (h.block i hi hig)
  at_ := ⟨by rw [World.cell?_setCell_other W _ _ _ (by intro e; injection e with e1; exact hne e1)]; exact h.at_.cell, by rw [World.frozen?_setCell]; exact h.at_.free, by simpa using h.at_.lt⟩
theorem Wr.setN_new {g b : Nat} {x : Value} {w : World} (hb : w.heap.size ≤ b) (hne : b ≠ g) : ∀ (l : List Value) (k : Nat) (W : World), Wr g x w W → Wr g x w (setN W b k l)
  | [], k, W, h => h
  | y :: r, k, W, h => by
    show Wr g x w (setN (W.setCell ⟨b, k, none⟩ y) b (k + 1) r)
    exact Wr.setN_new hb hne r (k + 1) _ (h.setCell_new hb hne k y)
theorem Wr.alloc {g : Nat} {x : Value} {w W : World} (h : Wr g x w W) (o : Obj) : Wr g x w (W.alloc o) := h.then_ ((Below.refl _ _).alloc (Nat.le_refl _) _)
/-- A row that stands elsewhere. -/
theorem isCells.wr {cs : List Value} {v : Value} {g : Nat} {x : Value} {w w' : World} (h : isCells cs v w) (k : Wr g x w w') (hg : blk v ≠ some g) : isCells cs v w' := by
  rcases h with h | h | ⟨b, off, cap, e, hlt, hc⟩
  · exact .inl h
  · exact .inr (.inl h)
  · have hne : b ≠ g := by rintro rfl; exact hg (by rw [e]; rfl)
    exact .inr (.inr ⟨b, off, cap, e, Nat.lt_of_lt_of_le hlt k.size, fun j x hx => (k.cell (p := ⟨b, off + j, none⟩) hlt hne).trans (hc j x hx)⟩)
theorem isCells.setCell_apart {cs : List Value} {v : Value} {w : World} (h : isCells cs v w) (g k : Nat) (x : Value) (hg : blk v ≠ some g) : isCells cs v (w.setCell ⟨g, k, none⟩ x) := by
  rcases h with h | h | ⟨b, off, cap, e, hlt, hc⟩
  · exact .inl h
  · exact .inr (.inl h)
  · have hne : b ≠ g := by rintro rfl; exact hg (by rw [e]; rfl)
    exact .inr (.inr ⟨b, off, cap, e, by simpa using hlt, fun j y hy => by rw [World.cell?_setCell_other w _ _ _ (by intro e; injection e with e1; exact hne e1.symm)]; exact hc j y hy⟩)
end Go.Proofs.Ytebjljiklacolaa
