/- Joined texts: contracts of the program's functions, and the mathematics that they lean on. -/
import Derived.Test.YtkjghoomdefbbaaGreatDoorPartA
import Derived.Deep.OwnRows
import Derived.ChangeKeysEq
import Derived.Laws.Rows
section
namespace Go.Proofs.YtkjghoomdefbbaaGreatDoor
open Go.RowKit
set_option linter.unusedVariables false
set_option linter.unusedSimpArgs false

def isVa (A : Va) : VP := fun v w => ∃ vp vm, v = .agg #[.int .i64 A.kind, .int .i64 A.time, .int .i64 A.node, .bool A.dead, .string ⟨A.text.toArray⟩, vp, vm, .int .u64 (A.flags.toNat : Int)] ∧ isCells (A.plus.map intC) vp w ∧ isCells (A.minus.map intC) vm w
theorem stable_va (A : Va) : Stable (isVa A) := fun v w w' ⟨vp, vm, e, hp, hm⟩ hb => ⟨vp, vm, e, stable_cells _ _ _ _ hp hb, stable_cells _ _ _ _ hm hb⟩
theorem va_grow {A : Va} {v : Value} {w w' : World} (h : isVa A v w) (hb : Below w.heap.size w w') : isVa A v w' := stable_va A v w w' h hb
theorem isCells.one {cs : List Value} {v : Value} {w : World} (h : isCells cs v w) : v.oneCell' = true := by
  obtain ⟨a, cap, rfl⟩ := h.len
  rfl
/-- Block g holds the value A. -/
def VarV (w : World) (g : Nat) (A : Va) : Prop := ∃ vp vm, CellsN w g [.int .i64 A.kind, .int .i64 A.time, .int .i64 A.node, .bool A.dead, .string ⟨A.text.toArray⟩, vp, vm, .int .u64 (A.flags.toNat : Int)] ∧ isCells (A.plus.map intC) vp w ∧ isCells (A.minus.map intC) vm w
theorem VarV.keep {w w' : World} {g : Nat} {A : Va} (h : VarV w g A) (hb : Below w.heap.size w w') : VarV w' g A := by
  obtain ⟨vp, vm, hc, hp, hm⟩ := h
  exact ⟨vp, vm, hc.keep hb hc.1, stable_cells _ _ _ _ hp hb, stable_cells _ _ _ _ hm hb⟩
theorem VarV.lt {w : World} {g : Nat} {A : Va} (h : VarV w g A) : g < w.heap.size := by obtain ⟨_, _, hc, _⟩ := h; exact hc.1
theorem VarV.open_ {w : World} {g : Nat} {A : Va} (h : VarV w g A) : ∃ vp vm, isVa A (.agg #[.int .i64 A.kind, .int .i64 A.time, .int .i64 A.node, .bool A.dead, .string ⟨A.text.toArray⟩, vp, vm, .int .u64 (A.flags.toNat : Int)]) w ∧ Kept (isCells (A.plus.map intC) vp w) ∧ Kept (isCells (A.minus.map intC) vm w) ∧
    w.cell? ⟨g, 0, none⟩ = some (.int .i64 A.kind) ∧ w.cell? ⟨g, 1, none⟩ = some (.int .i64 A.time) ∧ w.cell? ⟨g, 2, none⟩ = some (.int .i64 A.node) ∧ w.cell? ⟨g, 3, none⟩ = some (.bool A.dead) ∧ w.cell? ⟨g, 4, none⟩ = some (.string ⟨A.text.toArray⟩) ∧
    w.cell? ⟨g, 5, none⟩ = some vp ∧ w.cell? ⟨g, 6, none⟩ = some vm ∧ w.cell? ⟨g, 7, none⟩ = some (.int .u64 (A.flags.toNat : Int)) := by
  obtain ⟨vp, vm, hc, hp, hm⟩ := h
  exact ⟨vp, vm, ⟨vp, vm, rfl, hp, hm⟩, ⟨hp⟩, ⟨hm⟩, hc.2 0 _ rfl, hc.2 1 _ rfl, hc.2 2 _ rfl, hc.2 3 _ rfl, hc.2 4 _ rfl, hc.2 5 _ rfl, hc.2 6 _ rfl, hc.2 7 _ rfl⟩
/-- .. with just these rows. -/
def VarE (w : World) (g : Nat) (A : Va) (vp vm : Value) : Prop := CellsN w g [.int .i64 A.kind, .int .i64 A.time, .int .i64 A.node, .bool A.dead, .string ⟨A.text.toArray⟩, vp, vm, .int .u64 (A.flags.toNat : Int)] ∧ isCells (A.plus.map intC) vp w ∧ isCells (A.minus.map intC) vm w
def blk : Value → Option Nat
  | .slice (some a) _ _ => some a.block
  | _ => none
/-- It stands in a block that is no older than B, or in none. -/
def NewB (B : Nat) (v : Value) : Prop := ∀ b, blk v = some b → B ≤ b
theorem NewB.low {B B' : Nat} {v : Value} (h : NewB B v) (hB : B' ≤ B) : NewB B' v := fun b hb => Nat.le_trans hB (h b hb)
theorem newB_nil (B : Nat) : NewB B (.slice none 0 0) := fun b h => by cases h
theorem newB_row {B g : Nat} (h : B ≤ g) (o n c : Nat) : NewB B (.slice (some ⟨g, o, none⟩) n c) := fun b hb => by cases hb; exact h
theorem NewB.ne {B g : Nat} {v : Value} (h : NewB B v) (hg : g < B) : blk v ≠ some g := fun e => by have := h g e; omega
/-- A value whose rows are new. -/
def isVaN (B : Nat) (A : Va) : VP := fun v w => ∃ vp vm, v = .agg #[.int .i64 A.kind, .int .i64 A.time, .int .i64 A.node, .bool A.dead, .string ⟨A.text.toArray⟩, vp, vm, .int .u64 (A.flags.toNat : Int)] ∧ isCells (A.plus.map intC) vp w ∧ isCells (A.minus.map intC) vm w ∧ NewB B vp ∧ NewB B vm
theorem isVaN.va {B : Nat} {A : Va} {v : Value} {w : World} (h : isVaN B A v w) : isVa A v w := by obtain ⟨vp, vm, e, hp, hm, _⟩ := h; exact ⟨vp, vm, e, hp, hm⟩
theorem isVaN.low {B B' : Nat} {A : Va} {v : Value} {w : World} (h : isVaN B A v w) (hB : B' ≤ B) : isVaN B' A v w := by obtain ⟨vp, vm, e, hp, hm, np, nm⟩ := h; exact ⟨vp, vm, e, hp, hm, np.low hB, nm.low hB⟩
/-- A parameter's box. -/
theorem vbox (w : World) (A : Va) (vp vm : Value) (hp : isCells (A.plus.map intC) vp w) (hm : isCells (A.minus.map intC) vm w) (n : Nat) (hn : n = w.heap.size) :
    Kept (Below w.heap.size w (w.alloc (.cells #[.int .i64 A.kind, .int .i64 A.time, .int .i64 A.node, .bool A.dead, .string ⟨A.text.toArray⟩, vp, vm, .int .u64 (A.flags.toNat : Int)] 46))) ∧
    Kept (VarV (w.alloc (.cells #[.int .i64 A.kind, .int .i64 A.time, .int .i64 A.node, .bool A.dead, .string ⟨A.text.toArray⟩, vp, vm, .int .u64 (A.flags.toNat : Int)] 46)) n A) := by
  subst hn
  have hb : Below w.heap.size w (w.alloc (.cells #[.int .i64 A.kind, .int .i64 A.time, .int .i64 A.node, .bool A.dead, .string ⟨A.text.toArray⟩, vp, vm, .int .u64 (A.flags.toNat : Int)] 46)) := (Below.refl _ _).alloc (Nat.le_refl _) _
  exact ⟨⟨hb⟩, ⟨⟨vp, vm, cellsN_new w 46 _, stable_cells _ _ _ _ hp hb, stable_cells _ _ _ _ hm hb⟩⟩⟩
theorem lit_below (W : World) (o : Obj) : Below W.heap.size W (W.alloc o) := (Below.refl _ _).alloc (Nat.le_refl _) _
theorem size_va : (Tryz.prog.info? 46).map (·.size) = some 8 := by kernel_rfl
theorem agg_va (w : World) : (isAgg 46).run Tryz.prog w = .ok true w := by simp [isAgg, run_underlying Tryz.underlying46]
theorem field_va (g k : Nat) (hk : k < 8) (w : World) : (Instr.fieldAt 46 (.pointer (some ⟨g, 0, none⟩)) k).run Tryz.prog w = .ok (.pointer (some ⟨g, k, none⟩)) w := by
  have h : k = 0 ∨ k = 1 ∨ k = 2 ∨ k = 3 ∨ k = 4 ∨ k = 5 ∨ k = 6 ∨ k = 7 := by omega
  rcases h with rfl | rfl | rfl | rfl | rfl | rfl | rfl | rfl <;> simp [Instr.fieldAt, run_underlying Tryz.underlying46, Instr.sureAddr, fieldPlace, Addr.add]
/-- A result's or a variable's new block, in which a value is laid down. -/
theorem vnew (w : World) (A : Va) (vp vm : Value) (hp : isCells (A.plus.map intC) vp w) (hm : isCells (A.minus.map intC) vm w) (n : Nat) (hn : n = w.heap.size) :
    Kept (CellsN (w.alloc (.cells #[.int .i64 0, .int .i64 0, .int .i64 0, .bool false, .string ⟨#[]⟩, .slice none 0 0, .slice none 0 0, .int .u64 0] 46)) n [.int .i64 0, .int .i64 0, .int .i64 0, .bool false, .string ⟨#[]⟩, .slice none 0 0, .slice none 0 0, .int .u64 0]) ∧
    Kept (Free5 (w.alloc (.cells #[.int .i64 0, .int .i64 0, .int .i64 0, .bool false, .string ⟨#[]⟩, .slice none 0 0, .slice none 0 0, .int .u64 0] 46)) n) ∧
    Kept (Below w.heap.size w (setN (w.alloc (.cells #[.int .i64 0, .int .i64 0, .int .i64 0, .bool false, .string ⟨#[]⟩, .slice none 0 0, .slice none 0 0, .int .u64 0] 46)) n 0 [.int .i64 A.kind, .int .i64 A.time, .int .i64 A.node, .bool A.dead, .string ⟨A.text.toArray⟩, vp, vm, .int .u64 (A.flags.toNat : Int)])) ∧
    Kept (VarE (setN (w.alloc (.cells #[.int .i64 0, .int .i64 0, .int .i64 0, .bool false, .string ⟨#[]⟩, .slice none 0 0, .slice none 0 0, .int .u64 0] 46)) n 0 [.int .i64 A.kind, .int .i64 A.time, .int .i64 A.node, .bool A.dead, .string ⟨A.text.toArray⟩, vp, vm, .int .u64 (A.flags.toNat : Int)]) n A vp vm) ∧ Kept (Ones [.int .i64 A.kind, .int .i64 A.time, .int .i64 A.node, .bool A.dead, .string ⟨A.text.toArray⟩, vp, vm, .int .u64 (A.flags.toNat : Int)]) := by
  subst hn
  have hb := lit_below w (.cells #[.int .i64 0, .int .i64 0, .int .i64 0, .bool false, .string ⟨#[]⟩, .slice none 0 0, .slice none 0 0, .int .u64 0] 46)
  have hc := cellsN_new w 46 [.int .i64 0, .int .i64 0, .int .i64 0, .bool false, .string ⟨#[]⟩, .slice none 0 0, .slice none 0 0, .int .u64 0]
  have hb5 := below_setN (Nat.le_refl _) [.int .i64 A.kind, .int .i64 A.time, .int .i64 A.node, .bool A.dead, .string ⟨A.text.toArray⟩, vp, vm, .int .u64 (A.flags.toNat : Int)] 0 _ hb
  exact ⟨⟨hc⟩, ⟨free5_new w _ _⟩, ⟨hb5⟩, ⟨⟨hc.setN_ _ rfl, stable_cells _ _ _ _ hp hb5, stable_cells _ _ _ _ hm hb5⟩⟩, ⟨⟨rfl, rfl, rfl, rfl, rfl, hp.one, hm.one, rfl, trivial⟩⟩⟩
/-- A row stands as it stood, where another block is written. -/
theorem cells_apart {cs : List Value} {v : Value} {w : World} (h : isCells cs v w) {g : Nat} (hg : ∀ b off cap, v = .slice (some ⟨b, off, none⟩) cs.length cap → cs ≠ [] → b ≠ g) (k : Nat) (l : List Value) : isCells cs v (setN w g k l) := by
  rcases h with h | h | ⟨b, off, cap, e, hlt, hc⟩
  · exact .inl h
  · exact .inr (.inl h)
  · by_cases h0 : cs = []
    · subst h0; exact .inr (.inl ⟨_, _, e, rfl⟩)
    · exact .inr (.inr ⟨b, off, cap, e, by rw [size_setN]; exact hlt, fun j x hx => (setN_other g l k w _ (.inl (hg b off cap e h0))).trans (hc j x hx)⟩)
/-- .. in a block that is there already. -/
theorem vset {B g : Nat} {w0 w : World} (A : Va) (vp vm : Value) (hB : B ≤ g) (hb : Below B w0 w) {old : List Value} (hc : CellsN w g old) (h8 : old.length = 8) (hp : isCells (A.plus.map intC) vp w) (hm : isCells (A.minus.map intC) vm w) (np : blk vp ≠ some g) (nm : blk vm ≠ some g) :
    Kept (Below B w0 (setN w g 0 [.int .i64 A.kind, .int .i64 A.time, .int .i64 A.node, .bool A.dead, .string ⟨A.text.toArray⟩, vp, vm, .int .u64 (A.flags.toNat : Int)])) ∧
    Kept (VarE (setN w g 0 [.int .i64 A.kind, .int .i64 A.time, .int .i64 A.node, .bool A.dead, .string ⟨A.text.toArray⟩, vp, vm, .int .u64 (A.flags.toNat : Int)]) g A vp vm) ∧ Kept (Ones [.int .i64 A.kind, .int .i64 A.time, .int .i64 A.node, .bool A.dead, .string ⟨A.text.toArray⟩, vp, vm, .int .u64 (A.flags.toNat : Int)]) := by
  have ap : ∀ (v : Value) (cs : List Value), blk v ≠ some g → ∀ b off cap, v = .slice (some ⟨b, off, none⟩) cs.length cap → cs ≠ [] → b ≠ g := by
    rintro v cs h b off cap rfl _ rfl
    exact h rfl
  exact ⟨⟨below_setN hB _ 0 _ hb⟩, ⟨⟨hc.setN_ _ h8, cells_apart hp (ap vp _ np) _ _, cells_apart hm (ap vm _ nm) _ _⟩⟩, ⟨⟨rfl, rfl, rfl, rfl, rfl, hp.one, hm.one, rfl, trivial⟩⟩⟩
end Go.Proofs.YtkjghoomdefbbaaGreatDoor
end
section
namespace Go.Proofs.YtkjghoomdefbbaaGreatDoor
open Go.RowKit
set_option linter.unusedVariables false
set_option linter.unusedSimpArgs false

/-- Block b holds just these cells, and may be written. -/
structure Blk (W : World) (b : Nat) (cs : List Value) : Prop where
  cells : CellsN W b cs
  free : Free5 W b
theorem Blk.lt {W : World} {b : Nat} {cs : List Value} (h : Blk W b cs) : b < W.heap.size := h.cells.1
theorem Blk.wr {W W' : World} {b g : Nat} {cs : List Value} {x : Value} (h : Blk W b cs) (k : Wr g x W W') (hne : b ≠ g) : Blk W' b cs :=
  ⟨⟨Nat.lt_of_lt_of_le h.lt k.size, fun j x hx => (k.cell (p := ⟨b, j, none⟩) h.lt hne).trans (h.cells.2 j x hx)⟩, fun j => (k.frozen (p := ⟨b, j, none⟩) h.lt hne).trans (h.free j)⟩
theorem Blk.keep {W W' : World} {b : Nat} {cs : List Value} (h : Blk W b cs) (k : Below W.heap.size W W') : Blk W' b cs := ⟨h.cells.keep k h.lt, h.free.keep k h.lt⟩
theorem Blk.set {W : World} {b : Nat} {cs : List Value} (h : Blk W b cs) (k : Nat) (x : Value) (hk : k < cs.length) : Blk (W.setCell ⟨b, k, none⟩ x) b (cs.set k x) := by
  refine ⟨⟨by simpa using h.lt, fun j y hy => ?_⟩, fun j => by rw [World.frozen?_setCell]; exact h.free j⟩
  by_cases e : k = j
  · subst e
    rw [World.cell?_setCell_same W _ _ (h.cells.2 k _ (List.getElem?_eq_getElem hk))]
    rw [List.getElem?_set_self hk] at hy
    exact hy
  · rw [World.cell?_setCell_other W _ _ _ (by intro h; injection h; contradiction)]
    rw [List.getElem?_set_ne e] at hy
    exact h.cells.2 j y hy
theorem Blk.apart {W : World} {b b' : Nat} {cs : List Value} (h : Blk W b cs) (hne : b ≠ b') (k : Nat) (x : Value) : Blk (W.setCell ⟨b', k, none⟩ x) b cs :=
  ⟨⟨by simpa using h.lt, fun j y hy => by rw [World.cell?_setCell_other W _ _ _ (by intro h; injection h with h1; exact hne h1.symm)]; exact h.cells.2 j y hy⟩, fun j => by rw [World.frozen?_setCell]; exact h.free j⟩
theorem Blk.all_ {W : World} {b : Nat} {cs l : List Value} (h : Blk W b cs) (hl : cs.length = l.length) : Blk (setN W b 0 l) b l := ⟨h.cells.setN_ l hl, h.free.setN_ b 0 l⟩
theorem Blk.apartN {W : World} {b b' : Nat} {cs : List Value} (h : Blk W b cs) (hne : b ≠ b') (k : Nat) (l : List Value) : Blk (setN W b' k l) b cs := ⟨h.cells.apartN k l (fun e => hne e.symm), h.free.setN_ b' k l⟩
theorem Blk.new (W : World) (t : TypeId) (l : List Value) (n : Nat) (hn : n = W.heap.size) : Blk (W.alloc (.cells l.toArray t)) n l := ⟨cellsN_at W t l n hn, free5_at W l.toArray t n hn⟩
theorem Blk.alloc {W : World} {b : Nat} {cs : List Value} (h : Blk W b cs) (o : Obj) : Blk (W.alloc o) b cs := h.keep ((Below.refl _ _).alloc (Nat.le_refl _) _)

theorem Wr.setCell_new {g b : Nat} {x : Value} {w W : World} (h : Wr g x w W) (hb : w.heap.size ≤ b) (hne : b ≠ g) (k : Nat) (y : Value) : Wr g x w (W.setCell ⟨b, k, none⟩ y) where
  os := h.os
  tape := h.tape
  output := h.output
  size := by simpa using h.size
  block i hi hig := (Below.heap_setCell W _ y i (by show i ≠ b; omega)).trans (h.block i hi hig)
  at_ := ⟨by rw [World.cell?_setCell_other W _ _ _ (by intro e; injection e with e1; exact hne e1)]; exact h.at_.cell, by rw [World.frozen?_setCell]; exact h.at_.free, by simpa using h.at_.lt⟩
theorem Wr.alloc {g : Nat} {x : Value} {w W : World} (h : Wr g x w W) (o : Obj) : Wr g x w (W.alloc o) := h.then_ ((Below.refl _ _).alloc (Nat.le_refl _) _)
/-- A row that stands elsewhere. -/
theorem isCells.wr {cs : List Value} {v : Value} {g : Nat} {x : Value} {w w' : World} (h : isCells cs v w) (k : Wr g x w w') (hg : blk v ≠ some g) : isCells cs v w' := by
  rcases h with h | h | ⟨b, off, cap, e, hlt, hc⟩
  · exact .inl h
  · exact .inr (.inl h)
  · have hne : b ≠ g := by rintro rfl; exact hg (by rw [e]; rfl)
    exact .inr (.inr ⟨b, off, cap, e, Nat.lt_of_lt_of_le hlt k.size, fun j x hx => (k.cell (p := ⟨b, off + j, none⟩) hlt hne).trans (hc j x hx)⟩)
end Go.Proofs.YtkjghoomdefbbaaGreatDoor
end
section
namespace Go.Proofs.YtkjghoomdefbbaaGreatDoor
open Go.RowKit
set_option linter.unusedVariables false
set_option linter.unusedSimpArgs false
attribute [local irreducible] setN

/-- Behind a store into the variable. -/
theorem set3 {w W : World} {g r v : Nat} {x : Value} {cr cv : List Value} (HW : Kept (Wr g x w W)) (HR : Kept (Blk W r cr)) (HV : Kept (Blk W v cv)) (k : Nat) (y : Value) (hk : k < cv.length) (hw : w.heap.size ≤ v) (hr : r ≠ v) (hv : v ≠ g) : Kept (Wr g x w (W.setCell ⟨v, k, none⟩ y)) ∧ Kept (Blk (W.setCell ⟨v, k, none⟩ y) r cr) ∧ Kept (Blk (W.setCell ⟨v, k, none⟩ y) v (cv.set k y)) :=
  ⟨⟨HW.out.setCell_new hw hv k y⟩, ⟨HR.out.apart hr k y⟩, ⟨HV.out.set k y hk⟩⟩
end Go.Proofs.YtkjghoomdefbbaaGreatDoor
end
section
namespace Go.Proofs.YtkjghoomdefbbaaGreatDoor
open Go.RowKit
set_option linter.unusedVariables false
set_option linter.unusedSimpArgs false

theorem same_split (A B : Va) : decide (A = B) = ((A.kind == B.kind) && (A.time == B.time) && (A.node == B.node) && (A.dead == B.dead) && (A.text == B.text) && decide (A.plus = B.plus) && decide (A.minus = B.minus) && ((A.flags.toNat : Int) == (B.flags.toNat : Int))) := by
  obtain ⟨a0, a1, a2, a3, a4, a5, a6, a7⟩ := A
  obtain ⟨b0, b1, b2, b3, b4, b5, b6, b7⟩ := B
  rw [Bool.eq_iff_iff]
  simp only [decide_eq_true_eq, Bool.and_eq_true, beq_iff_eq, Va.mk.injEq]
  have h7 : a7 = b7 ↔ (a7.toNat : Int) = (b7.toNat : Int) := by rw [← UInt64.toNat_inj]; omega
  rw [h7]
  constructor
  · rintro ⟨h0, h1, h2, h3, h4, h5, h6, h7⟩; exact ⟨⟨⟨⟨⟨⟨⟨h0, h1⟩, h2⟩, h3⟩, h4⟩, h5⟩, h6⟩, h7⟩
  · rintro ⟨⟨⟨⟨⟨⟨⟨h0, h1⟩, h2⟩, h3⟩, h4⟩, h5⟩, h6⟩, h7⟩; exact ⟨h0, h1, h2, h3, h4, h5, h6, h7⟩
set_option maxRecDepth 20000 in
set_option maxHeartbeats 2000000 in
theorem vsame_any (A B : Va) (v u : Value) (w : World) (hv : isVa A v w) (hu : isVa B u w) (h1 : A.plus.length ≤ 1000000000) (h2 : A.minus.length ≤ 1000000000) (h3 : B.plus.length ≤ 1000000000) (h4 : B.minus.length ≤ 1000000000) :
    Calls Tryz.prog 117 #[v, u] w fun e w' => e = .returned (.bool (decide (A = B))) ∧ Below w.heap.size w w' := by
  obtain ⟨vp, vm, rfl, hp, hm⟩ := hv
  obtain ⟨up, um, rfl, gp, gm⟩ := hu
  obtain ⟨hB0, hV0⟩ := vbox w A vp vm hp hm w.heap.size rfl
  obtain ⟨hB1, hU⟩ := vbox _ B up um (stable_cells _ _ _ _ gp hB0.out) (stable_cells _ _ _ _ gm hB0.out) (w.heap.size + 1) (by simp)
  have hV := Kept.mk (hV0.out.keep hB1.out)
  have hB := Kept.mk (hB0.out.trans (hB1.out.mono hB0.out.size))
  have HP := Kept.mk hp
  have HM := Kept.mk hm
  have GP := Kept.mk gp
  have GM := Kept.mk gm
  have HS := Kept.mk (same_split A B)
  clear hp hm gp gm hV0 hB0 hB1
  cases d0 : (A.kind == B.kind) with
  | false =>
    go_enter Tryz.func117, Tryz.ntmps117
    go_wp2
    go_ret
    exact ⟨by rw [HS.out, d0]; rfl, hB.out⟩
  | true =>
    cases d1 : (A.time == B.time) with
    | false =>
      go_enter Tryz.func117, Tryz.ntmps117
      go_wp2
      go_ret
      exact ⟨by rw [HS.out, d0, d1]; rfl, hB.out⟩
    | true =>
      cases d2 : (A.node == B.node) with
      | false =>
        go_enter Tryz.func117, Tryz.ntmps117
        go_wp2
        go_ret
        exact ⟨by rw [HS.out, d0, d1, d2]; rfl, hB.out⟩
      | true =>
        cases d3 : (A.dead == B.dead) with
        | false =>
          go_enter Tryz.func117, Tryz.ntmps117
          go_wp2
          go_ret
          exact ⟨by rw [HS.out, d0, d1, d2, d3]; rfl, hB.out⟩
        | true =>
          cases d4 : (A.text == B.text) with
          | false =>
            go_enter Tryz.func117, Tryz.ntmps117
            go_wp2
            go_ret
            exact ⟨by rw [HS.out, d0, d1, d2, d3, d4]; rfl, hB.out⟩
          | true =>
            go_enter Tryz.func117, Tryz.ntmps117
            go_wp2_with fail
            refine (equal_i A.plus B.plus _ _ _ (stable_cells _ _ _ _ HP.out hB.out) (stable_cells _ _ _ _ GP.out hB.out) (by omega) (by omega)).mono ?_
            rintro e w5 ⟨rfl, hb⟩
            replace hV := Kept.mk (hV.out.keep hb)
            replace hU := Kept.mk (hU.out.keep hb)
            replace hB := Kept.mk (hB.out.trans (hb.mono hB.out.size))
            clear hb
            obtain ⟨qA5, rA5, _, _, hmA, kA0, kA1, kA2, kA3, kA4, kA5, kA6, kA7⟩ := hV.out.open_
            obtain ⟨qB5, rB5, _, _, hmB, kB0, kB1, kB2, kB3, kB4, kB5, kB6, kB7⟩ := hU.out.open_
            cases d5 : decide (A.plus = B.plus) with
            | false =>
              go_wp2
              go_ret
              exact ⟨by rw [HS.out, d0, d1, d2, d3, d4, d5]; rfl, hB.out⟩
            | true =>
              have HP2 := Kept.mk (show True from trivial)
              go_wp2_with fail
              refine (equal_i A.minus B.minus _ _ _ hmA.out hmB.out (by omega) (by omega)).mono ?_
              rintro e w6 ⟨rfl, hb⟩
              replace hV := Kept.mk (hV.out.keep hb)
              replace hU := Kept.mk (hU.out.keep hb)
              replace hB := Kept.mk (hB.out.trans (hb.mono hB.out.size))
              clear hb
              clear hmA hmB kA0 kA1 kA2 kA3 kA4 kA5 kA6 kA7 kB0 kB1 kB2 kB3 kB4 kB5 kB6 kB7
              obtain ⟨qA6, rA6, _, _, hmA, kA0, kA1, kA2, kA3, kA4, kA5, kA6, kA7⟩ := hV.out.open_
              obtain ⟨qB6, rB6, _, _, hmB, kB0, kB1, kB2, kB3, kB4, kB5, kB6, kB7⟩ := hU.out.open_
              cases d6 : decide (A.minus = B.minus) with
              | false =>
                go_wp2
                go_ret
                exact ⟨by rw [HS.out, d0, d1, d2, d3, d4, d5, d6]; rfl, hB.out⟩
              | true =>
                cases d7 : ((A.flags.toNat : Int) == (B.flags.toNat : Int)) with
                | false =>
                  go_wp2
                  go_ret
                  exact ⟨by rw [HS.out, d0, d1, d2, d3, d4, d5, d6, d7]; rfl, hB.out⟩
                | true =>
                  go_wp2
                  go_ret
                  exact ⟨by rw [HS.out, d0, d1, d2, d3, d4, d5, d6, d7]; rfl, hB.out⟩
end Go.Proofs.YtkjghoomdefbbaaGreatDoor
end
section
namespace Go.Proofs.YtkjghoomdefbbaaGreatDoor
open Go.RowKit
set_option linter.unusedVariables false
set_option linter.unusedSimpArgs false
attribute [local irreducible] setN

set_option maxRecDepth 20000 in
set_option maxHeartbeats 1000000 in
theorem flagsInrange_any (A : Va) (v : Value) (w : World) (hv : isVa A v w) :
    Calls Tryz.prog 201 #[.agg #[], v] w fun e w' => e = .returned (.bool true) ∧ Below w.heap.size w w' := by
  obtain ⟨vp, vm, rfl, hp, hm⟩ := hv
  have hB0 := lit_below w (.cells #[] 164)
  obtain ⟨hB1, hV⟩ := vbox _ A vp vm (stable_cells _ _ _ _ hp hB0) (stable_cells _ _ _ _ hm hB0) (w.heap.size + 1) (by simp)
  have hB := Kept.mk (hB0.trans (hB1.out.mono hB0.size))
  clear hp hm hB0 hB1 hV
  go_enter Tryz.func201, Tryz.ntmps201
  go_wp2
  go_ret
  exact ⟨rfl, hB.out⟩
set_option maxRecDepth 20000 in
set_option maxHeartbeats 1000000 in
theorem regIn_any (A : Va) (v : Value) (w : World) (hv : isVa A v w) (hl : A.text.length ≤ 1000000000) :
    Calls Tryz.prog 177 #[.agg #[], v] w fun e w' => e = .returned (.bool (inReg A)) ∧ Below w.heap.size w w' := by
  obtain ⟨vp, vm, rfl, hp, hm⟩ := hv
  have hB0 := lit_below w (.cells #[] 162)
  obtain ⟨hB1, hV⟩ := vbox _ A vp vm (stable_cells _ _ _ _ hp hB0) (stable_cells _ _ _ _ hm hB0) (w.heap.size + 1) (by simp)
  have hB := Kept.mk (hB0.trans (hB1.out.mono hB0.size))
  clear hp hm hB0 hB1 hV
  have HI := Kept.mk (show inReg A = ((decide (0 ≤ A.time) && decide (A.time ≤ 2147483647)) && (decide (0 ≤ A.node) && decide (A.node ≤ 7)) && decide ((A.text.length : Int) ≤ 8) && (!A.dead || A.text.isEmpty)) by unfold inReg; cases A.text <;> rfl)
  have hsz : (⟨A.text.toArray⟩ : ByteArray).size = A.text.length := size_mk _
  go_enter Tryz.func177, Tryz.ntmps177
  go_wp2_with fail
  refine (within_any _ _ _).mono ?_; rintro e w' ⟨rfl, rfl⟩
  cases d1 : (decide (0 ≤ A.time) && decide (A.time ≤ 2147483647)) with
  | false =>
    go_wp2
    go_ret
    exact ⟨by rw [HI.out, d1]; rfl, hB.out⟩
  | true =>
    go_wp2_with fail
    refine (within_any _ _ _).mono ?_; rintro e w' ⟨rfl, rfl⟩
    cases d2 : (decide (0 ≤ A.node) && decide (A.node ≤ 7)) with
    | false =>
      go_wp2
      go_ret
      exact ⟨by rw [HI.out, d1, d2]; rfl, hB.out⟩
    | true =>
      cases d3 : decide ((A.text.length : Int) ≤ 8) with
      | false =>
        go_wp2
        go_ret
        exact ⟨by rw [HI.out, d1, d2, d3]; rfl, hB.out⟩
      | true =>
        cases d4 : A.dead with
        | false =>
          rw [d4] at hB
          go_wp2
          go_ret
          exact ⟨by rw [HI.out, d1, d2, d3, d4]; rfl, hB.out⟩
        | true =>
          rw [d4] at hB
          go_wp2
          go_ret
          exact ⟨by rw [HI.out, d1, d2, d3, d4]; rfl, hB.out⟩
set_option maxRecDepth 20000 in
set_option maxHeartbeats 1000000 in
theorem countIn_any (A : Va) (v : Value) (w : World) (hv : isVa A v w) (h1 : A.plus.length ≤ 1000000000) (h2 : A.minus.length ≤ 1000000000) :
    Calls Tryz.prog 189 #[.agg #[], v] w fun e w' => e = .returned (.bool (inCount A)) ∧ Below w.heap.size w w' := by
  obtain ⟨vp, vm, rfl, hp, hm⟩ := hv
  have hB0 := lit_below w (.cells #[] 163)
  obtain ⟨hB1, hV⟩ := vbox _ A vp vm (stable_cells _ _ _ _ hp hB0) (stable_cells _ _ _ _ hm hB0) (w.heap.size + 1) (by simp)
  have hB := Kept.mk (hB0.trans (hB1.out.mono hB0.size))
  have HP := Kept.mk (stable_cells _ _ _ _ hp hB.out)
  have HM := Kept.mk (stable_cells _ _ _ _ hm hB.out)
  clear hp hm hB0 hB1 hV
  have HI := Kept.mk (show inCount A = (okRow A.plus && okRow A.minus) from rfl)
  go_enter Tryz.func189, Tryz.ntmps189
  go_wp2_with fail
  refine (isRow_any A.plus _ _ HP.out (by omega)).mono ?_; rintro e w' ⟨rfl, rfl⟩
  cases d1 : okRow A.plus with
  | false =>
    go_wp2
    go_ret
    exact ⟨by rw [HI.out, d1]; rfl, hB.out⟩
  | true =>
    go_wp2_with fail
    refine (isRow_any A.minus _ _ HM.out (by omega)).mono ?_; rintro e w' ⟨rfl, rfl⟩
    cases d2 : okRow A.minus with
    | false =>
      go_wp2
      go_ret
      exact ⟨by rw [HI.out, d1, d2]; rfl, hB.out⟩
    | true =>
      go_wp2
      go_ret
      exact ⟨by rw [HI.out, d1, d2]; rfl, hB.out⟩
set_option maxRecDepth 20000 in
set_option maxHeartbeats 1000000 in
theorem regOnly_any (A : Va) (v : Value) (w : World) (hv : isVa A v w) :
    Calls Tryz.prog 180 #[.agg #[], v] w fun e w' => ∃ v', e = .returned v' ∧ isVaN w.heap.size (onlyReg A) v' w' ∧ Below w.heap.size w w' := by
  obtain ⟨vp, vm, rfl, hp, hm⟩ := hv
  have hB0 := lit_below w (.cells #[] 162)
  obtain ⟨hB1, hV⟩ := vbox _ A vp vm (stable_cells _ _ _ _ hp hB0) (stable_cells _ _ _ _ hm hB0) (w.heap.size + 1) (by simp)
  have hB := Kept.mk (hB0.trans (hB1.out.mono hB0.size))
  obtain ⟨K1, K2, K3, K4, K5⟩ := vnew ((w.alloc (.cells #[] 162)).alloc (.cells #[.int .i64 A.kind, .int .i64 A.time, .int .i64 A.node, .bool A.dead, .string ⟨A.text.toArray⟩, vp, vm, .int .u64 (A.flags.toNat : Int)] 46)) (onlyReg A) (.slice none 0 0) (.slice none 0 0) (.inl ⟨rfl, rfl⟩) (.inl ⟨rfl, rfl⟩) (w.heap.size + 2) (by simp)
  obtain ⟨hc', hp', hm'⟩ := K4.out
  have hBK := Kept.mk (hB.out.trans (K3.out.mono hB.out.size))
  clear hB0 hB1 hV hB K3 K4 hp hm
  go_enter Tryz.func180, Tryz.ntmps180
  go_wp2_with (refine wpList_storeN 46 rfl (.tmp 4) (.tmp 13) rfl (w.heap.size + 2) [.int .i64 1, .int .i64 A.time, .int .i64 A.node, .bool A.dead, .string ⟨A.text.toArray⟩, .slice none 0 0, .slice none 0 0, .int .u64 0] size_va rfl rfl K1.out rfl K2.out K5.out ?_)
  exact bodyPost_ret (resultsN1 rfl _ _ (w.heap.size + 2) _ size_va agg_va rfl hc') rfl ⟨_, rfl, ⟨_, _, rfl, hp', hm', newB_nil _, newB_nil _⟩, hBK.out⟩
set_option maxRecDepth 20000 in
set_option maxHeartbeats 1000000 in
theorem flagsOnly_any (A : Va) (v : Value) (w : World) (hv : isVa A v w) :
    Calls Tryz.prog 204 #[.agg #[], v] w fun e w' => ∃ v', e = .returned v' ∧ isVaN w.heap.size (onlyFlags A) v' w' ∧ Below w.heap.size w w' := by
  obtain ⟨vp, vm, rfl, hp, hm⟩ := hv
  have hB0 := lit_below w (.cells #[] 164)
  obtain ⟨hB1, hV⟩ := vbox _ A vp vm (stable_cells _ _ _ _ hp hB0) (stable_cells _ _ _ _ hm hB0) (w.heap.size + 1) (by simp)
  have hB := Kept.mk (hB0.trans (hB1.out.mono hB0.size))
  obtain ⟨K1, K2, K3, K4, K5⟩ := vnew ((w.alloc (.cells #[] 164)).alloc (.cells #[.int .i64 A.kind, .int .i64 A.time, .int .i64 A.node, .bool A.dead, .string ⟨A.text.toArray⟩, vp, vm, .int .u64 (A.flags.toNat : Int)] 46)) (onlyFlags A) (.slice none 0 0) (.slice none 0 0) (.inl ⟨rfl, rfl⟩) (.inl ⟨rfl, rfl⟩) (w.heap.size + 2) (by simp)
  obtain ⟨hc', hp', hm'⟩ := K4.out
  have hBK := Kept.mk (hB.out.trans (K3.out.mono hB.out.size))
  clear hB0 hB1 hV hB K3 K4 hp hm
  go_enter Tryz.func204, Tryz.ntmps204
  go_wp2_with (refine wpList_storeN 46 rfl (.tmp 4) (.tmp 7) rfl (w.heap.size + 2) [.int .i64 3, .int .i64 0, .int .i64 0, .bool false, .string ⟨#[]⟩, .slice none 0 0, .slice none 0 0, .int .u64 (A.flags.toNat : Int)] size_va rfl rfl K1.out rfl K2.out K5.out ?_)
  exact bodyPost_ret (resultsN1 rfl _ _ (w.heap.size + 2) _ size_va agg_va rfl hc') rfl ⟨_, rfl, ⟨_, _, rfl, hp', hm', newB_nil _, newB_nil _⟩, hBK.out⟩
theorem or_u64 (x y : UInt64) : bits .or .u64 (x.toNat : Int) (y.toNat : Int) = ((x ||| y).toNat : Int) := by
  rw [u64_or_nat _ _ x.toNat_lt y.toNat_lt, UInt64.toNat_or]
set_option maxRecDepth 20000 in
set_option maxHeartbeats 1000000 in
theorem flagsJoin_any (A B : Va) (v u : Value) (w : World) (hv : isVa A v w) (hu : isVa B u w) :
    Calls Tryz.prog 202 #[.agg #[], v, u] w fun e w' => ∃ v', e = .returned v' ∧ isVaN w.heap.size (joinFlags A B) v' w' ∧ Below w.heap.size w w' := by
  obtain ⟨up, um, rfl, gp, gm⟩ := hu
  obtain ⟨vp, vm, rfl, hp, hm⟩ := hv
  have hB0 := lit_below w (.cells #[] 164)
  obtain ⟨hB1, hV⟩ := vbox _ A vp vm (stable_cells _ _ _ _ hp hB0) (stable_cells _ _ _ _ hm hB0) (w.heap.size + 1) (by simp)
  have hB := Kept.mk (hB0.trans (hB1.out.mono hB0.size))
  obtain ⟨hB2, hU⟩ := vbox ((w.alloc (.cells #[] 164)).alloc (.cells #[.int .i64 A.kind, .int .i64 A.time, .int .i64 A.node, .bool A.dead, .string ⟨A.text.toArray⟩, vp, vm, .int .u64 (A.flags.toNat : Int)] 46)) B up um (stable_cells _ _ _ _ gp hB.out) (stable_cells _ _ _ _ gm hB.out) (w.heap.size + 2) (by simp)
  replace hB := Kept.mk (hB.out.trans (hB2.out.mono hB.out.size))
  obtain ⟨K1, K2, K3, K4, K5⟩ := vnew (((w.alloc (.cells #[] 164)).alloc (.cells #[.int .i64 A.kind, .int .i64 A.time, .int .i64 A.node, .bool A.dead, .string ⟨A.text.toArray⟩, vp, vm, .int .u64 (A.flags.toNat : Int)] 46)).alloc (.cells #[.int .i64 B.kind, .int .i64 B.time, .int .i64 B.node, .bool B.dead, .string ⟨B.text.toArray⟩, up, um, .int .u64 (B.flags.toNat : Int)] 46)) (joinFlags A B) (.slice none 0 0) (.slice none 0 0) (.inl ⟨rfl, rfl⟩) (.inl ⟨rfl, rfl⟩) (w.heap.size + 3) (by simp)
  obtain ⟨hc', hp', hm'⟩ := K4.out
  have hBK := Kept.mk (hB.out.trans (K3.out.mono hB.out.size))
  have hor := or_u64 A.flags B.flags
  clear hB0 hB1 hB2 hV hU hB K3 K4 hp hm gp gm
  go_enter Tryz.func202, Tryz.ntmps202
  go_wp2_with (refine wpList_storeN 46 rfl (.tmp 6) (.tmp 12) rfl (w.heap.size + 3) [.int .i64 3, .int .i64 0, .int .i64 0, .bool false, .string ⟨#[]⟩, .slice none 0 0, .slice none 0 0, .int .u64 ((A.flags ||| B.flags).toNat : Int)] size_va rfl (by rw [UInt64.toNat_or]; rfl) K1.out rfl K2.out K5.out ?_)
  exact bodyPost_ret (resultsN1 rfl _ _ (w.heap.size + 3) _ size_va agg_va rfl hc') rfl ⟨_, rfl, ⟨_, _, rfl, hp', hm', newB_nil _, newB_nil _⟩, hBK.out⟩
end Go.Proofs.YtkjghoomdefbbaaGreatDoor
end
section
namespace Go.Proofs.YtkjghoomdefbbaaGreatDoor
open Go.RowKit
set_option linter.unusedVariables false
set_option linter.unusedSimpArgs false
attribute [local irreducible] setN

def rowL (k : Nat) (l : List UInt8) : List Value := (numsOf k l).map intC ++ List.replicate (8 - k) (intC 0)
end Go.Proofs.YtkjghoomdefbbaaGreatDoor
end
section
namespace Go.Proofs.YtkjghoomdefbbaaGreatDoor
open Go.RowKit
set_option linter.unusedVariables false
set_option linter.unusedSimpArgs false
attribute [local irreducible] setN

set_option maxRecDepth 20000 in
set_option maxHeartbeats 1000000 in
theorem join1_any (A B : Va) (k ga gb : Nat) (w : World) (hA : VarV w ga A) (hB : VarV w gb B) (ha : A.plus.length = 8) (hb : B.plus.length = 8) (hk : k < 8) :
    Calls Tryz.prog 196 #[.int .i64 (k : Int), .pointer (some ⟨ga, 0, none⟩), .pointer (some ⟨gb, 0, none⟩)] w fun e w' => e = .returned (.int .i64 (maxI (A.plus.getD k 0) (B.plus.getD k 0))) ∧ Below w.heap.size w w' := by
  obtain ⟨vp, vm, hc, hp, hm⟩ := hA
  obtain ⟨up, um, gc, gp, gm⟩ := hB
  obtain ⟨b, off, cap, rfl, hlt, hcell⟩ := hp.some_ (by rw [List.length_map]; omega)
  obtain ⟨b2, off2, cap2, rfl, hlt2, hcell2⟩ := gp.some_ (by rw [List.length_map]; omega)
  rw [List.length_map, ha] at hc
  rw [List.length_map, hb] at gc
  have k1 := hc.2 5 _ rfl
  have k2 := gc.2 5 _ rfl
  have c1 : w.cell? ⟨b, off + k, none⟩ = some (.int .i64 (A.plus.getD k 0)) := by rw [hcell k _ (get_map intC _ k (by omega))]; simp [intC, List.getD_eq_getElem?_getD, show k < A.plus.length by omega]
  have c2 : w.cell? ⟨b2, off2 + k, none⟩ = some (.int .i64 (B.plus.getD k 0)) := by rw [hcell2 k _ (get_map intC _ k (by omega))]; simp [intC, List.getD_eq_getElem?_getD, show k < B.plus.length by omega]
  have HM := Kept.mk (show maxI (A.plus.getD k 0) (B.plus.getD k 0) = max (A.plus.getD k 0) (B.plus.getD k 0) by unfold maxI; split <;> omega)
  generalize A.plus.getD k 0 = x at *
  generalize B.plus.getD k 0 = y at *
  clear hc hp hm gc gp gm hcell hcell2
  go_enter Tryz.func196, Tryz.ntmps196
  go_wp2
  go_region
  all_goals go_wp2
  all_goals go_ret
  all_goals exact ⟨by rw [HM.out]; rfl, by exact below_drewN _ 1⟩
set_option maxRecDepth 20000 in
set_option maxHeartbeats 1000000 in
theorem join2_any (A B : Va) (k ga gb : Nat) (w : World) (hA : VarV w ga A) (hB : VarV w gb B) (ha : A.minus.length = 8) (hb : B.minus.length = 8) (hk : k < 8) :
    Calls Tryz.prog 197 #[.int .i64 (k : Int), .pointer (some ⟨ga, 0, none⟩), .pointer (some ⟨gb, 0, none⟩)] w fun e w' => e = .returned (.int .i64 (maxI (A.minus.getD k 0) (B.minus.getD k 0))) ∧ Below w.heap.size w w' := by
  obtain ⟨vp, vm, hc, hp, hm⟩ := hA
  obtain ⟨up, um, gc, gp, gm⟩ := hB
  obtain ⟨b, off, cap, rfl, hlt, hcell⟩ := hm.some_ (by rw [List.length_map]; omega)
  obtain ⟨b2, off2, cap2, rfl, hlt2, hcell2⟩ := gm.some_ (by rw [List.length_map]; omega)
  rw [List.length_map, ha] at hc
  rw [List.length_map, hb] at gc
  have k1 := hc.2 6 _ rfl
  have k2 := gc.2 6 _ rfl
  have c1 : w.cell? ⟨b, off + k, none⟩ = some (.int .i64 (A.minus.getD k 0)) := by rw [hcell k _ (get_map intC _ k (by omega))]; simp [intC, List.getD_eq_getElem?_getD, show k < A.minus.length by omega]
  have c2 : w.cell? ⟨b2, off2 + k, none⟩ = some (.int .i64 (B.minus.getD k 0)) := by rw [hcell2 k _ (get_map intC _ k (by omega))]; simp [intC, List.getD_eq_getElem?_getD, show k < B.minus.length by omega]
  have HM := Kept.mk (show maxI (A.minus.getD k 0) (B.minus.getD k 0) = max (A.minus.getD k 0) (B.minus.getD k 0) by unfold maxI; split <;> omega)
  generalize A.minus.getD k 0 = x at *
  generalize B.minus.getD k 0 = y at *
  clear hc hp hm gc gp gm hcell hcell2
  go_enter Tryz.func197, Tryz.ntmps197
  go_wp2
  go_region
  all_goals go_wp2
  all_goals go_ret
  all_goals exact ⟨by rw [HM.out]; rfl, by exact below_drewN _ 1⟩
theorem zip_range : ∀ (n : Nat) (l m : List Int), l.length = n → m.length = n → (List.range n).map (fun j => maxI (l.getD j 0) (m.getD j 0)) = List.zipWith maxI l m := by
  intro n l m h1 h2
  apply List.ext_getElem?
  intro j
  by_cases hj : j < n
  · rw [List.getElem?_map, List.getElem?_range hj, List.getElem?_zipWith, List.getElem?_eq_getElem (by omega : j < l.length), List.getElem?_eq_getElem (by omega : j < m.length)]
    simp [List.getD_eq_getElem?_getD, show j < l.length by omega, show j < m.length by omega]
  · rw [List.getElem?_eq_none (by simp; omega), List.getElem?_eq_none (by simp; omega)]
theorem cells_row8 {w : World} {g : Nat} {f : Nat → Int} {l : List Int} (h : w.rowIs g 3 8 (fun j => intC (f j))) (e : (List.range 8).map f = l) : isCells (l.map intC) (.slice (some ⟨g, 0, none⟩) 8 8) w := by
  have := cells_of_row h
  rw [← e, List.map_map]
  exact this
set_option maxRecDepth 20000 in
set_option maxHeartbeats 1000000 in
theorem countJoin_any (A B : Va) (v u : Value) (w : World) (hv : isVa A v w) (hu : isVa B u w) (a1 : A.plus.length = 8) (a2 : A.minus.length = 8) (b1 : B.plus.length = 8) (b2 : B.minus.length = 8) :
    Calls Tryz.prog 190 #[.agg #[], v, u] w fun e w' => ∃ v', e = .returned v' ∧ isVaN w.heap.size (joinCount A B) v' w' ∧ Below w.heap.size w w' := by
  have hen1 : Enters Tryz.prog 196 := enters_of Tryz.func196 (by kernel_rfl) rfl
  have hen2 : Enters Tryz.prog 197 := enters_of Tryz.func197 (by kernel_rfl) rfl
  obtain ⟨up, um, rfl, gp, gm⟩ := hu
  obtain ⟨vp, vm, rfl, hp, hm⟩ := hv
  have hB0 := lit_below w (.cells #[] 163)
  obtain ⟨hB1, hV⟩ := vbox _ A vp vm (stable_cells _ _ _ _ hp hB0) (stable_cells _ _ _ _ hm hB0) (w.heap.size + 1) (by simp)
  have hB := Kept.mk (hB0.trans (hB1.out.mono hB0.size))
  obtain ⟨hB2, hU⟩ := vbox ((w.alloc (.cells #[] 163)).alloc (.cells #[.int .i64 A.kind, .int .i64 A.time, .int .i64 A.node, .bool A.dead, .string ⟨A.text.toArray⟩, vp, vm, .int .u64 (A.flags.toNat : Int)] 46)) B up um (stable_cells _ _ _ _ gp hB.out) (stable_cells _ _ _ _ gm hB.out) (w.heap.size + 2) (by simp)
  replace hB := Kept.mk (hB.out.trans (hB2.out.mono hB.out.size))
  have hB3 := lit_below (((w.alloc (.cells #[] 163)).alloc (.cells #[.int .i64 A.kind, .int .i64 A.time, .int .i64 A.node, .bool A.dead, .string ⟨A.text.toArray⟩, vp, vm, .int .u64 (A.flags.toNat : Int)] 46)).alloc (.cells #[.int .i64 B.kind, .int .i64 B.time, .int .i64 B.node, .bool B.dead, .string ⟨B.text.toArray⟩, up, um, .int .u64 (B.flags.toNat : Int)] 46)) (.cells #[.int .i64 0, .int .i64 0, .int .i64 0, .bool false, .string ⟨#[]⟩, .slice none 0 0, .slice none 0 0, .int .u64 0] 46)
  have HZ := Kept.mk (cellsN_at (((w.alloc (.cells #[] 163)).alloc (.cells #[.int .i64 A.kind, .int .i64 A.time, .int .i64 A.node, .bool A.dead, .string ⟨A.text.toArray⟩, vp, vm, .int .u64 (A.flags.toNat : Int)] 46)).alloc (.cells #[.int .i64 B.kind, .int .i64 B.time, .int .i64 B.node, .bool B.dead, .string ⟨B.text.toArray⟩, up, um, .int .u64 (B.flags.toNat : Int)] 46)) 46 [.int .i64 0, .int .i64 0, .int .i64 0, .bool false, .string ⟨#[]⟩, .slice none 0 0, .slice none 0 0, .int .u64 0] (w.heap.size + 3) (by simp))
  have HF := Kept.mk (free5_at (((w.alloc (.cells #[] 163)).alloc (.cells #[.int .i64 A.kind, .int .i64 A.time, .int .i64 A.node, .bool A.dead, .string ⟨A.text.toArray⟩, vp, vm, .int .u64 (A.flags.toNat : Int)] 46)).alloc (.cells #[.int .i64 B.kind, .int .i64 B.time, .int .i64 B.node, .bool B.dead, .string ⟨B.text.toArray⟩, up, um, .int .u64 (B.flags.toNat : Int)] 46)) #[.int .i64 0, .int .i64 0, .int .i64 0, .bool false, .string ⟨#[]⟩, .slice none 0 0, .slice none 0 0, .int .u64 0] 46 (w.heap.size + 3) (by simp))
  replace hV := Kept.mk ((hV.out.keep hB2.out).keep hB3)
  replace hU := Kept.mk (hU.out.keep hB3)
  replace hB := Kept.mk (hB.out.trans (hB3.mono hB.out.size))
  have hS : Kept (w.heap.size + 4 = ((((w.alloc (.cells #[] 163)).alloc (.cells #[.int .i64 A.kind, .int .i64 A.time, .int .i64 A.node, .bool A.dead, .string ⟨A.text.toArray⟩, vp, vm, .int .u64 (A.flags.toNat : Int)] 46)).alloc (.cells #[.int .i64 B.kind, .int .i64 B.time, .int .i64 B.node, .bool B.dead, .string ⟨B.text.toArray⟩, up, um, .int .u64 (B.flags.toNat : Int)] 46)).alloc (.cells #[.int .i64 0, .int .i64 0, .int .i64 0, .bool false, .string ⟨#[]⟩, .slice none 0 0, .slice none 0 0, .int .u64 0] 46)).heap.size) := ⟨by simp⟩
  clear hp hm gp gm hB0 hB1 hB2 hB3
  go_enter Tryz.func190, Tryz.ntmps190
  go_wp2_with fail
  generalize ((((w.alloc (.cells #[] 163)).alloc (.cells #[.int .i64 A.kind, .int .i64 A.time, .int .i64 A.node, .bool A.dead, .string ⟨A.text.toArray⟩, vp, vm, .int .u64 (A.flags.toNat : Int)] 46)).alloc (.cells #[.int .i64 B.kind, .int .i64 B.time, .int .i64 B.node, .bool B.dead, .string ⟨B.text.toArray⟩, up, um, .int .u64 (B.flags.toNat : Int)] 46)).alloc (.cells #[.int .i64 0, .int .i64 0, .int .i64 0, .bool false, .string ⟨#[]⟩, .slice none 0 0, .slice none 0 0, .int .u64 0] 46)) = W0 at *
  refine (row_any (fun j => maxI (A.plus.getD j 0) (B.plus.getD j 0)) 196 _ hen1 W0 ?_).mono ?_
  · intro k w' hk hb
    exact join1_any A B k _ _ w' (hV.out.keep hb) (hU.out.keep hb) a1 b1 hk
  rintro e w1 ⟨rfl, hr1, hb1⟩
  have HR1 := Kept.mk hr1
  have HB1 := Kept.mk hb1
  clear hr1 hb1
  go_wp2_with fail
  refine (row_any (fun j => maxI (A.minus.getD j 0) (B.minus.getD j 0)) 197 _ hen2 w1 ?_).mono ?_
  · intro k w' hk hb
    exact join2_any A B k _ _ w' ((hV.out.keep HB1.out).keep hb) ((hU.out.keep HB1.out).keep hb) a2 b2 hk
  rintro e w2 ⟨rfl, hr2, hb2⟩
  have hlt1 := HR1.out.lt
  have hp2 := cells_row8 (HR1.out.of_block (hb2.block _ hlt1)) (zip_range 8 A.plus B.plus a1 b1)
  have hm2 := cells_row8 hr2 (zip_range 8 A.minus B.minus a2 b2)
  have hBB := hB.out.trans ((HB1.out.trans (hb2.mono HB1.out.size)).mono hB.out.size)
  have hZ := (HZ.out.keep HB1.out HZ.out.1).keep hb2 (Nat.lt_of_lt_of_le HZ.out.1 HB1.out.size)
  have K2 := Kept.mk ((HF.out.keep HB1.out HZ.out.1).keep hb2 (Nat.lt_of_lt_of_le HZ.out.1 HB1.out.size))
  have hs := hS.out
  obtain ⟨hBK, K4, K5⟩ := vset (joinCount A B) (.slice (some ⟨W0.heap.size, 0, none⟩) 8 8) (.slice (some ⟨w1.heap.size, 0, none⟩) 8 8) (g := w.heap.size + 3) (by omega) hBB hZ rfl hp2 hm2 (by simp [blk]; omega) (by simp [blk]; omega)
  have K1 := Kept.mk hZ
  obtain ⟨hc', hp', hm'⟩ := K4.out
  have np := newB_row (B := w.heap.size) (show w.heap.size ≤ W0.heap.size by omega) 0 8 8
  have nm := newB_row (B := w.heap.size) (show w.heap.size ≤ w1.heap.size by omega) 0 8 8
  clear hp2 hm2 hBB hZ hb2 hr2 HR1 HB1 K4
  go_wp2_with (refine wpList_storeN 46 rfl (.tmp 6) (.tmp 11) rfl (w.heap.size + 3) [.int .i64 2, .int .i64 0, .int .i64 0, .bool false, .string ⟨#[]⟩, .slice (some ⟨W0.heap.size, 0, none⟩) 8 8, .slice (some ⟨w1.heap.size, 0, none⟩) 8 8, .int .u64 0] size_va rfl rfl K1.out rfl K2.out K5.out ?_)
  exact bodyPost_ret (resultsN1 rfl _ _ (w.heap.size + 3) _ size_va agg_va rfl hc') rfl ⟨_, rfl, ⟨_, _, rfl, hp', hm', np, nm⟩, hBK.out⟩
end Go.Proofs.YtkjghoomdefbbaaGreatDoor
end
section
namespace Go.Proofs.YtkjghoomdefbbaaGreatDoor
open Go.RowKit
set_option linter.unusedVariables false
set_option linter.unusedSimpArgs false
attribute [local irreducible] setN

theorem agg_u64 (w : World) : (isAgg 44).run Tryz.prog w = .ok false w := by simp [isAgg, run_underlying Tryz.underlying44]
theorem call_cmp (x y : Int) (w : World) : Calls Tryz.prog 184 #[.int .i64 x, .int .i64 y] w fun e w' => ∃ v, e = .returned v ∧ isVal (.int .i64 (cmpI x y)) v w' ∧ Below w.heap.size w w' :=
  (compare_i x y w).mono (by rintro e w' ⟨rfl, rfl⟩; exact ⟨_, rfl, rfl, Below.refl _ _⟩)
theorem call_cmpT (x y : List UInt8) (w : World) : Calls Tryz.prog 186 #[.string ⟨x.toArray⟩, .string ⟨y.toArray⟩] w fun e w' => ∃ v, e = .returned v ∧ isVal (.int .i64 (cmpT x y)) v w' ∧ Below w.heap.size w w' :=
  (compare_s x y w).mono (by rintro e w' ⟨rfl, rfl⟩; exact ⟨_, rfl, rfl, Below.refl _ _⟩)
theorem call_rank (b : Bool) (w : World) : Calls Tryz.prog 185 #[.bool b] w fun e w' => ∃ v, e = .returned v ∧ isVal (.int .i64 (rankI b)) v w' ∧ Below w.heap.size w w' :=
  (rank_any b w).mono (by rintro e w' ⟨rfl, rfl⟩; exact ⟨_, rfl, rfl, Below.refl _ _⟩)
theorem call_behind (A B : Va) (u : Value) (w : World) (hu : isCells [intC (cmpI A.time B.time), intC (cmpI A.node B.node), intC (cmpI (rankI A.dead) (rankI B.dead)), intC (cmpT A.text B.text)] u w) :
    Calls Tryz.prog 183 #[u] w fun e w' => ∃ v, e = .returned v ∧ isVal (.bool (behindB A B)) v w' ∧ Below w.heap.size w w' :=
  (isBehind_any (ordL A B) u w hu (by show 4 ≤ _; omega)).mono (by rintro e w' ⟨rfl, rfl⟩; exact ⟨_, rfl, rfl, Below.refl _ _⟩)
noncomputable def rjoinOps : Array Oper := regionOf Tryz.f178 1
set_option maxRecDepth 100000 in
set_option maxHeartbeats 2000000 in
theorem rjoin_region (Q : Exit → Act → World → Prop) (a0 : Act) (w0 : World) (hsz : a0.tmps.size = 37) (A B : Va) (ga gb : Nat) (vp vm up um : Value) (e4 : a0.tmps.getD 4 undef = .pointer (some ⟨ga, 0, none⟩)) (e5 : a0.tmps.getD 5 undef = .pointer (some ⟨gb, 0, none⟩)) (hc : CellsN w0 ga [.int .i64 A.kind, .int .i64 A.time, .int .i64 A.node, .bool A.dead, .string ⟨A.text.toArray⟩, vp, vm, .int .u64 (A.flags.toNat : Int)]) (gc : CellsN w0 gb [.int .i64 B.kind, .int .i64 B.time, .int .i64 B.node, .bool B.dead, .string ⟨B.text.toArray⟩, up, um, .int .u64 (B.flags.toNat : Int)])
    (hQ : ∀ (g : Nat → Value) (w : World), g 30 = .bool (behindB A B) → Below w0.heap.size w0 w → Q .normal { tmps := [7, 8, 9, 10, 11, 12, 13, 14, 15, 16, 17, 18, 19, 20, 21, 22, 23, 24, 25, 26, 27, 28, 29, 30].foldl (fun t s => t.setIfInBounds s (g s)) a0.tmps, defers := a0.defers } w) :
    (Code.region 1 rjoinOps true).wp Tryz.prog Q a0 w0 := by
  obtain ⟨iint, hiint, hzint, hsint, _⟩ := info_parts Tryz.infoInt
  refine wp_region_flow mixed (by rw [hsz]; kernel_rfl) ?_
  rw [show rjoinOps.size = 24 by kernel_rfl]
  refine ⟨isVal (.pointer (some ⟨ga, 1, none⟩)), step_field 46 (.tmp 4) 1 ⟨ga, 0, none⟩ ⟨ga, 1, none⟩ (by kernel_rfl) (wanted_none (by kernel_rfl)) (knows_old 4 (.pointer (some ⟨ga, 0, none⟩)) (by kernel_rfl) e4) (field_va ga 1 (by omega)), ?_⟩
  refine ⟨isVal (.int .i64 A.time), step_read 3 (.tmp 7) ⟨ga, 1, none⟩ (.int .i64 A.time) (by kernel_rfl) (wanted_none (by kernel_rfl)) (knows_new (V := isVal (.pointer (some ⟨ga, 1, none⟩))) 7 0 (by kernel_rfl) (by kernel_rfl) (by kernel_rfl)) (hc.2 1 _ rfl) hc.1 agg_int, ?_⟩
  refine ⟨isVal (.pointer (some ⟨gb, 1, none⟩)), step_field 46 (.tmp 5) 1 ⟨gb, 0, none⟩ ⟨gb, 1, none⟩ (by kernel_rfl) (wanted_none (by kernel_rfl)) (knows_old 5 (.pointer (some ⟨gb, 0, none⟩)) (by kernel_rfl) e5) (field_va gb 1 (by omega)), ?_⟩
  refine ⟨isVal (.int .i64 B.time), step_read 3 (.tmp 9) ⟨gb, 1, none⟩ (.int .i64 B.time) (by kernel_rfl) (wanted_none (by kernel_rfl)) (knows_new (V := isVal (.pointer (some ⟨gb, 1, none⟩))) 9 2 (by kernel_rfl) (by kernel_rfl) (by kernel_rfl)) (gc.2 1 _ rfl) gc.1 agg_int, ?_⟩
  refine ⟨isVal (.int .i64 (cmpI A.time B.time)), step_call 184 #[.tmp 8, .tmp 10] #[3, 3] #[.int .i64 A.time, .int .i64 B.time] (by kernel_rfl) (wanted_none (by kernel_rfl)) (stable_val _) (args2 (.tmp 8) (.tmp 10) (.int .i64 A.time) (.int .i64 B.time) (knows_new (V := isVal (.int .i64 A.time)) 8 1 (by kernel_rfl) (by kernel_rfl) (by kernel_rfl)) (knows_new (V := isVal (.int .i64 B.time)) 10 3 (by kernel_rfl) (by kernel_rfl) (by kernel_rfl))) (enters_of Tryz.func184 (by kernel_rfl) rfl) (by intro w hb; exact call_cmp A.time B.time w), ?_⟩
  refine ⟨isVal (.pointer (some ⟨ga, 2, none⟩)), step_field 46 (.tmp 4) 2 ⟨ga, 0, none⟩ ⟨ga, 2, none⟩ (by kernel_rfl) (wanted_none (by kernel_rfl)) (knows_old 4 (.pointer (some ⟨ga, 0, none⟩)) (by kernel_rfl) e4) (field_va ga 2 (by omega)), ?_⟩
  refine ⟨isVal (.int .i64 A.node), step_read 3 (.tmp 12) ⟨ga, 2, none⟩ (.int .i64 A.node) (by kernel_rfl) (wanted_none (by kernel_rfl)) (knows_new (V := isVal (.pointer (some ⟨ga, 2, none⟩))) 12 5 (by kernel_rfl) (by kernel_rfl) (by kernel_rfl)) (hc.2 2 _ rfl) hc.1 agg_int, ?_⟩
  refine ⟨isVal (.pointer (some ⟨gb, 2, none⟩)), step_field 46 (.tmp 5) 2 ⟨gb, 0, none⟩ ⟨gb, 2, none⟩ (by kernel_rfl) (wanted_none (by kernel_rfl)) (knows_old 5 (.pointer (some ⟨gb, 0, none⟩)) (by kernel_rfl) e5) (field_va gb 2 (by omega)), ?_⟩
  refine ⟨isVal (.int .i64 B.node), step_read 3 (.tmp 14) ⟨gb, 2, none⟩ (.int .i64 B.node) (by kernel_rfl) (wanted_none (by kernel_rfl)) (knows_new (V := isVal (.pointer (some ⟨gb, 2, none⟩))) 14 7 (by kernel_rfl) (by kernel_rfl) (by kernel_rfl)) (gc.2 2 _ rfl) gc.1 agg_int, ?_⟩
  refine ⟨isVal (.int .i64 (cmpI A.node B.node)), step_call 184 #[.tmp 13, .tmp 15] #[3, 3] #[.int .i64 A.node, .int .i64 B.node] (by kernel_rfl) (wanted_none (by kernel_rfl)) (stable_val _) (args2 (.tmp 13) (.tmp 15) (.int .i64 A.node) (.int .i64 B.node) (knows_new (V := isVal (.int .i64 A.node)) 13 6 (by kernel_rfl) (by kernel_rfl) (by kernel_rfl)) (knows_new (V := isVal (.int .i64 B.node)) 15 8 (by kernel_rfl) (by kernel_rfl) (by kernel_rfl))) (enters_of Tryz.func184 (by kernel_rfl) rfl) (by intro w hb; exact call_cmp A.node B.node w), ?_⟩
  refine ⟨isVal (.pointer (some ⟨ga, 3, none⟩)), step_field 46 (.tmp 4) 3 ⟨ga, 0, none⟩ ⟨ga, 3, none⟩ (by kernel_rfl) (wanted_none (by kernel_rfl)) (knows_old 4 (.pointer (some ⟨ga, 0, none⟩)) (by kernel_rfl) e4) (field_va ga 3 (by omega)), ?_⟩
  refine ⟨isVal (.bool A.dead), step_read 4 (.tmp 17) ⟨ga, 3, none⟩ (.bool A.dead) (by kernel_rfl) (wanted_none (by kernel_rfl)) (knows_new (V := isVal (.pointer (some ⟨ga, 3, none⟩))) 17 10 (by kernel_rfl) (by kernel_rfl) (by kernel_rfl)) (hc.2 3 _ rfl) hc.1 agg_bool, ?_⟩
  refine ⟨isVal (.int .i64 (rankI A.dead)), step_call 185 #[.tmp 18] #[4] #[.bool A.dead] (by kernel_rfl) (wanted_none (by kernel_rfl)) (stable_val _) (args1 (.tmp 18) (.bool A.dead) (knows_new (V := isVal (.bool A.dead)) 18 11 (by kernel_rfl) (by kernel_rfl) (by kernel_rfl))) (enters_of Tryz.func185 (by kernel_rfl) rfl) (by intro w hb; exact call_rank A.dead w), ?_⟩
  refine ⟨isVal (.pointer (some ⟨gb, 3, none⟩)), step_field 46 (.tmp 5) 3 ⟨gb, 0, none⟩ ⟨gb, 3, none⟩ (by kernel_rfl) (wanted_none (by kernel_rfl)) (knows_old 5 (.pointer (some ⟨gb, 0, none⟩)) (by kernel_rfl) e5) (field_va gb 3 (by omega)), ?_⟩
  refine ⟨isVal (.bool B.dead), step_read 4 (.tmp 20) ⟨gb, 3, none⟩ (.bool B.dead) (by kernel_rfl) (wanted_none (by kernel_rfl)) (knows_new (V := isVal (.pointer (some ⟨gb, 3, none⟩))) 20 13 (by kernel_rfl) (by kernel_rfl) (by kernel_rfl)) (gc.2 3 _ rfl) gc.1 agg_bool, ?_⟩
  refine ⟨isVal (.int .i64 (rankI B.dead)), step_call 185 #[.tmp 21] #[4] #[.bool B.dead] (by kernel_rfl) (wanted_none (by kernel_rfl)) (stable_val _) (args1 (.tmp 21) (.bool B.dead) (knows_new (V := isVal (.bool B.dead)) 21 14 (by kernel_rfl) (by kernel_rfl) (by kernel_rfl))) (enters_of Tryz.func185 (by kernel_rfl) rfl) (by intro w hb; exact call_rank B.dead w), ?_⟩
  refine ⟨isVal (.int .i64 (cmpI (rankI A.dead) (rankI B.dead))), step_call 184 #[.tmp 19, .tmp 22] #[3, 3] #[.int .i64 (rankI A.dead), .int .i64 (rankI B.dead)] (by kernel_rfl) (wanted_none (by kernel_rfl)) (stable_val _) (args2 (.tmp 19) (.tmp 22) (.int .i64 (rankI A.dead)) (.int .i64 (rankI B.dead)) (knows_new (V := isVal (.int .i64 (rankI A.dead))) 19 12 (by kernel_rfl) (by kernel_rfl) (by kernel_rfl)) (knows_new (V := isVal (.int .i64 (rankI B.dead))) 22 15 (by kernel_rfl) (by kernel_rfl) (by kernel_rfl))) (enters_of Tryz.func184 (by kernel_rfl) rfl) (by intro w hb; exact call_cmp (rankI A.dead) (rankI B.dead) w), ?_⟩
  refine ⟨isVal (.pointer (some ⟨ga, 4, none⟩)), step_field 46 (.tmp 4) 4 ⟨ga, 0, none⟩ ⟨ga, 4, none⟩ (by kernel_rfl) (wanted_none (by kernel_rfl)) (knows_old 4 (.pointer (some ⟨ga, 0, none⟩)) (by kernel_rfl) e4) (field_va ga 4 (by omega)), ?_⟩
  refine ⟨isVal (.string ⟨A.text.toArray⟩), step_read 9 (.tmp 24) ⟨ga, 4, none⟩ (.string ⟨A.text.toArray⟩) (by kernel_rfl) (wanted_none (by kernel_rfl)) (knows_new (V := isVal (.pointer (some ⟨ga, 4, none⟩))) 24 17 (by kernel_rfl) (by kernel_rfl) (by kernel_rfl)) (hc.2 4 _ rfl) hc.1 agg_str, ?_⟩
  refine ⟨isVal (.pointer (some ⟨gb, 4, none⟩)), step_field 46 (.tmp 5) 4 ⟨gb, 0, none⟩ ⟨gb, 4, none⟩ (by kernel_rfl) (wanted_none (by kernel_rfl)) (knows_old 5 (.pointer (some ⟨gb, 0, none⟩)) (by kernel_rfl) e5) (field_va gb 4 (by omega)), ?_⟩
  refine ⟨isVal (.string ⟨B.text.toArray⟩), step_read 9 (.tmp 26) ⟨gb, 4, none⟩ (.string ⟨B.text.toArray⟩) (by kernel_rfl) (wanted_none (by kernel_rfl)) (knows_new (V := isVal (.pointer (some ⟨gb, 4, none⟩))) 26 19 (by kernel_rfl) (by kernel_rfl) (by kernel_rfl)) (gc.2 4 _ rfl) gc.1 agg_str, ?_⟩
  refine ⟨isVal (.int .i64 (cmpT A.text B.text)), step_call 186 #[.tmp 25, .tmp 27] #[9, 9] #[.string ⟨A.text.toArray⟩, .string ⟨B.text.toArray⟩] (by kernel_rfl) (wanted_none (by kernel_rfl)) (stable_val _) (args2 (.tmp 25) (.tmp 27) (.string ⟨A.text.toArray⟩) (.string ⟨B.text.toArray⟩) (knows_new (V := isVal (.string ⟨A.text.toArray⟩)) 25 18 (by kernel_rfl) (by kernel_rfl) (by kernel_rfl)) (knows_new (V := isVal (.string ⟨B.text.toArray⟩)) 27 20 (by kernel_rfl) (by kernel_rfl) (by kernel_rfl))) (enters_of Tryz.func186 (by kernel_rfl) rfl) (by intro w hb; exact call_cmpT A.text B.text w), ?_⟩
  refine ⟨(isCells [intC (cmpI A.time B.time), intC (cmpI A.node B.node), intC (cmpI (rankI A.dead) (rankI B.dead)), intC (cmpT A.text B.text)]), step_ints4 23 3 (.tmp 11) (.tmp 16) (.tmp 23) (.tmp 28) (cmpI A.time B.time) (cmpI A.node B.node) (cmpI (rankI A.dead) (rankI B.dead)) (cmpT A.text B.text) iint (by kernel_rfl) (wanted_none (by kernel_rfl)) (knows_new (V := isVal (.int .i64 (cmpI A.time B.time))) 11 4 (by kernel_rfl) (by kernel_rfl) (by kernel_rfl)) (knows_new (V := isVal (.int .i64 (cmpI A.node B.node))) 16 9 (by kernel_rfl) (by kernel_rfl) (by kernel_rfl)) (knows_new (V := isVal (.int .i64 (cmpI (rankI A.dead) (rankI B.dead)))) 23 16 (by kernel_rfl) (by kernel_rfl) (by kernel_rfl)) (knows_new (V := isVal (.int .i64 (cmpT A.text B.text))) 28 21 (by kernel_rfl) (by kernel_rfl) (by kernel_rfl)) Tryz.underlying23 hiint hzint hsint, ?_⟩
  refine ⟨isVal (.bool (behindB A B)), step_callP 183 #[.tmp 29] #[23] (by kernel_rfl) (wanted_none (by kernel_rfl)) (stable_val _) (enters_of Tryz.func183 (by kernel_rfl) rfl) (fun vs w => ∃ u, vs = #[u] ∧ isCells [intC (cmpI A.time B.time), intC (cmpI A.node B.node), intC (cmpI (rankI A.dead) (rankI B.dead)), intC (cmpT A.text B.text)] u w) (pre1 (knows_new (V := (isCells [intC (cmpI A.time B.time), intC (cmpI A.node B.node), intC (cmpI (rankI A.dead) (rankI B.dead)), intC (cmpT A.text B.text)])) 29 22 (by kernel_rfl) (by kernel_rfl) (by kernel_rfl))) (by rintro vs w hb ⟨u, rfl, hu⟩; exact call_behind A B u w hu), ?_⟩
  intro a w hkp hb hd
  rw [kept_of hkp [some 7, some 8, some 9, some 10, some 11, some 12, some 13, some 14, some 15, some 16, some 17, some 18, some 19, some 20, some 21, some 22, some 23, some 24, some 25, some 26, some 27, some 28, some 29, some 30] [7, 8, 9, 10, 11, 12, 13, 14, 15, 16, 17, 18, 19, 20, 21, 22, 23, 24, 25, 26, 27, 28, 29, 30] (by kernel_rfl) (by decide)]
  have d30 := fdone_of (hd 23 (by rw [show rjoinOps.size = 24 by kernel_rfl]; decide)) (t := 30) (V := isVal (.bool (behindB A B))) (by kernel_rfl) (by kernel_rfl)
  exact hQ (fun s => a.tmps.getD s undef) w d30 hb
set_option maxRecDepth 20000 in
set_option maxHeartbeats 1000000 in
theorem regJoin_any (A B : Va) (v u : Value) (w : World) (hv : isVa A v w) (hu : isVa B u w) :
    Calls Tryz.prog 178 #[.agg #[], v, u] w fun e w' => ∃ v', e = .returned v' ∧ isVaN w.heap.size (joinReg A B) v' w' ∧ Below w.heap.size w w' := by
  obtain ⟨up, um, rfl, gp, gm⟩ := hu
  obtain ⟨vp, vm, rfl, hp, hm⟩ := hv
  have hB0 := lit_below w (.cells #[] 162)
  obtain ⟨hB1, hV⟩ := vbox _ A vp vm (stable_cells _ _ _ _ hp hB0) (stable_cells _ _ _ _ hm hB0) (w.heap.size + 1) (by simp)
  have hB := Kept.mk (hB0.trans (hB1.out.mono hB0.size))
  obtain ⟨hB2, hU⟩ := vbox ((w.alloc (.cells #[] 162)).alloc (.cells #[.int .i64 A.kind, .int .i64 A.time, .int .i64 A.node, .bool A.dead, .string ⟨A.text.toArray⟩, vp, vm, .int .u64 (A.flags.toNat : Int)] 46)) B up um (stable_cells _ _ _ _ gp hB.out) (stable_cells _ _ _ _ gm hB.out) (w.heap.size + 2) (by simp)
  replace hB := Kept.mk (hB.out.trans (hB2.out.mono hB.out.size))
  have hB3 := lit_below (((w.alloc (.cells #[] 162)).alloc (.cells #[.int .i64 A.kind, .int .i64 A.time, .int .i64 A.node, .bool A.dead, .string ⟨A.text.toArray⟩, vp, vm, .int .u64 (A.flags.toNat : Int)] 46)).alloc (.cells #[.int .i64 B.kind, .int .i64 B.time, .int .i64 B.node, .bool B.dead, .string ⟨B.text.toArray⟩, up, um, .int .u64 (B.flags.toNat : Int)] 46)) (.cells #[.int .i64 0, .int .i64 0, .int .i64 0, .bool false, .string ⟨#[]⟩, .slice none 0 0, .slice none 0 0, .int .u64 0] 46)
  have HZ := Kept.mk (cellsN_at (((w.alloc (.cells #[] 162)).alloc (.cells #[.int .i64 A.kind, .int .i64 A.time, .int .i64 A.node, .bool A.dead, .string ⟨A.text.toArray⟩, vp, vm, .int .u64 (A.flags.toNat : Int)] 46)).alloc (.cells #[.int .i64 B.kind, .int .i64 B.time, .int .i64 B.node, .bool B.dead, .string ⟨B.text.toArray⟩, up, um, .int .u64 (B.flags.toNat : Int)] 46)) 46 [.int .i64 0, .int .i64 0, .int .i64 0, .bool false, .string ⟨#[]⟩, .slice none 0 0, .slice none 0 0, .int .u64 0] (w.heap.size + 3) (by simp))
  have HF := Kept.mk (free5_at (((w.alloc (.cells #[] 162)).alloc (.cells #[.int .i64 A.kind, .int .i64 A.time, .int .i64 A.node, .bool A.dead, .string ⟨A.text.toArray⟩, vp, vm, .int .u64 (A.flags.toNat : Int)] 46)).alloc (.cells #[.int .i64 B.kind, .int .i64 B.time, .int .i64 B.node, .bool B.dead, .string ⟨B.text.toArray⟩, up, um, .int .u64 (B.flags.toNat : Int)] 46)) #[.int .i64 0, .int .i64 0, .int .i64 0, .bool false, .string ⟨#[]⟩, .slice none 0 0, .slice none 0 0, .int .u64 0] 46 (w.heap.size + 3) (by simp))
  replace hV := Kept.mk ((hV.out.keep hB2.out).keep hB3)
  replace hU := Kept.mk (hU.out.keep hB3)
  replace hB := Kept.mk (hB.out.trans (hB3.mono hB.out.size))
  have hC := Kept.mk (((cellsN_at (w.alloc (.cells #[] 162)) 46 [.int .i64 A.kind, .int .i64 A.time, .int .i64 A.node, .bool A.dead, .string ⟨A.text.toArray⟩, vp, vm, .int .u64 (A.flags.toNat : Int)] (w.heap.size + 1) (by simp)).keep hB2.out (by simp)).keep hB3 (by simp))
  have gC := Kept.mk ((cellsN_at ((w.alloc (.cells #[] 162)).alloc (.cells #[.int .i64 A.kind, .int .i64 A.time, .int .i64 A.node, .bool A.dead, .string ⟨A.text.toArray⟩, vp, vm, .int .u64 (A.flags.toNat : Int)] 46)) 46 [.int .i64 B.kind, .int .i64 B.time, .int .i64 B.node, .bool B.dead, .string ⟨B.text.toArray⟩, up, um, .int .u64 (B.flags.toNat : Int)] (w.heap.size + 2) (by simp)).keep hB3 (by simp))
  have hX := Kept.mk (show isVa A (.agg #[.int .i64 A.kind, .int .i64 A.time, .int .i64 A.node, .bool A.dead, .string ⟨A.text.toArray⟩, vp, vm, .int .u64 (A.flags.toNat : Int)]) ((((w.alloc (.cells #[] 162)).alloc (.cells #[.int .i64 A.kind, .int .i64 A.time, .int .i64 A.node, .bool A.dead, .string ⟨A.text.toArray⟩, vp, vm, .int .u64 (A.flags.toNat : Int)] 46)).alloc (.cells #[.int .i64 B.kind, .int .i64 B.time, .int .i64 B.node, .bool B.dead, .string ⟨B.text.toArray⟩, up, um, .int .u64 (B.flags.toNat : Int)] 46)).alloc (.cells #[.int .i64 0, .int .i64 0, .int .i64 0, .bool false, .string ⟨#[]⟩, .slice none 0 0, .slice none 0 0, .int .u64 0] 46)) from ⟨vp, vm, rfl, stable_cells _ _ _ _ hp hB.out, stable_cells _ _ _ _ hm hB.out⟩)
  have gX := Kept.mk (show isVa B (.agg #[.int .i64 B.kind, .int .i64 B.time, .int .i64 B.node, .bool B.dead, .string ⟨B.text.toArray⟩, up, um, .int .u64 (B.flags.toNat : Int)]) ((((w.alloc (.cells #[] 162)).alloc (.cells #[.int .i64 A.kind, .int .i64 A.time, .int .i64 A.node, .bool A.dead, .string ⟨A.text.toArray⟩, vp, vm, .int .u64 (A.flags.toNat : Int)] 46)).alloc (.cells #[.int .i64 B.kind, .int .i64 B.time, .int .i64 B.node, .bool B.dead, .string ⟨B.text.toArray⟩, up, um, .int .u64 (B.flags.toNat : Int)] 46)).alloc (.cells #[.int .i64 0, .int .i64 0, .int .i64 0, .bool false, .string ⟨#[]⟩, .slice none 0 0, .slice none 0 0, .int .u64 0] 46)) from ⟨up, um, rfl, stable_cells _ _ _ _ gp hB.out, stable_cells _ _ _ _ gm hB.out⟩)
  have hR : Kept ((((((w.alloc (.cells #[] 162)).alloc (.cells #[.int .i64 A.kind, .int .i64 A.time, .int .i64 A.node, .bool A.dead, .string ⟨A.text.toArray⟩, vp, vm, .int .u64 (A.flags.toNat : Int)] 46)).alloc (.cells #[.int .i64 B.kind, .int .i64 B.time, .int .i64 B.node, .bool B.dead, .string ⟨B.text.toArray⟩, up, um, .int .u64 (B.flags.toNat : Int)] 46)).alloc (.cells #[.int .i64 0, .int .i64 0, .int .i64 0, .bool false, .string ⟨#[]⟩, .slice none 0 0, .slice none 0 0, .int .u64 0] 46))).heap[w.heap.size]? = some (.cells #[] 162 (0, 0))) := ⟨by rw [hB3.block _ (by simp <;> omega), hB2.out.block _ (by simp <;> omega), hB1.out.block _ (by simp <;> omega)]; show (w.heap.push _)[w.heap.size]? = _; simp⟩
  have hS : Kept (w.heap.size + 4 = ((((w.alloc (.cells #[] 162)).alloc (.cells #[.int .i64 A.kind, .int .i64 A.time, .int .i64 A.node, .bool A.dead, .string ⟨A.text.toArray⟩, vp, vm, .int .u64 (A.flags.toNat : Int)] 46)).alloc (.cells #[.int .i64 B.kind, .int .i64 B.time, .int .i64 B.node, .bool B.dead, .string ⟨B.text.toArray⟩, up, um, .int .u64 (B.flags.toNat : Int)] 46)).alloc (.cells #[.int .i64 0, .int .i64 0, .int .i64 0, .bool false, .string ⟨#[]⟩, .slice none 0 0, .slice none 0 0, .int .u64 0] 46)).heap.size) := ⟨by simp⟩
  clear hp hm gp gm hB0 hB1 hB2 hB3 hV hU
  go_enter Tryz.func178, Tryz.ntmps178
  go_wp2_with fail
  generalize ((((w.alloc (.cells #[] 162)).alloc (.cells #[.int .i64 A.kind, .int .i64 A.time, .int .i64 A.node, .bool A.dead, .string ⟨A.text.toArray⟩, vp, vm, .int .u64 (A.flags.toNat : Int)] 46)).alloc (.cells #[.int .i64 B.kind, .int .i64 B.time, .int .i64 B.node, .bool B.dead, .string ⟨B.text.toArray⟩, up, um, .int .u64 (B.flags.toNat : Int)] 46)).alloc (.cells #[.int .i64 0, .int .i64 0, .int .i64 0, .bool false, .string ⟨#[]⟩, .slice none 0 0, .slice none 0 0, .int .u64 0] 46)) = W0 at *
  refine rjoin_region _ _ _ rfl A B (w.heap.size + 1) (w.heap.size + 2) vp vm up um rfl rfl hC.out gC.out ?_
  intro f9 W9 d30 hb9
  simp only [List.foldl_cons, List.foldl_nil, d30]
  generalize f9 7 = y7
  generalize f9 8 = y8
  generalize f9 9 = y9
  generalize f9 10 = y10
  generalize f9 11 = y11
  generalize f9 12 = y12
  generalize f9 13 = y13
  generalize f9 14 = y14
  generalize f9 15 = y15
  generalize f9 16 = y16
  generalize f9 17 = y17
  generalize f9 18 = y18
  generalize f9 19 = y19
  generalize f9 20 = y20
  generalize f9 21 = y21
  generalize f9 22 = y22
  generalize f9 23 = y23
  generalize f9 24 = y24
  generalize f9 25 = y25
  generalize f9 26 = y26
  generalize f9 27 = y27
  generalize f9 28 = y28
  generalize f9 29 = y29
  clear d30
  simp only [List.setIfInBounds_toArray, List.set_cons_succ, List.set_cons_zero]
  replace hB := Kept.mk (hB.out.trans (hb9.mono hB.out.size))
  have hs := hS.out
  have hR9 := (hb9.block w.heap.size (by omega)).trans hR.out
  obtain ⟨_, kA⟩ := hC.out.keep hb9 (by omega)
  obtain ⟨_, kB⟩ := gC.out.keep hb9 (by omega)
  have hX9 := Kept.mk (va_grow hX.out hb9)
  have gX9 := Kept.mk (va_grow gX.out hb9)
  have hZ9 := Kept.mk (HZ.out.keep hb9 (by omega))
  have hF9 := Kept.mk (HF.out.keep hb9 (by omega))
  have hs9 := hb9.size
  clear hX gX HZ HF hb9 hR hC gC
  cases hz : behindB A B with
  | true =>
    have HJ := Kept.mk (show joinReg A B = onlyReg A by unfold joinReg; rw [hz]; rfl)
    have k0 := kA 0 _ rfl
    have k1 := kA 1 _ rfl
    have k2 := kA 2 _ rfl
    have k3 := kA 3 _ rfl
    have k4 := kA 4 _ rfl
    have k5 := kA 5 _ rfl
    have k6 := kA 6 _ rfl
    have k7 := kA 7 _ rfl
    clear kA kB
    go_wp2_with fail
    refine (regOnly_any A _ _ hX9.out).mono ?_
    rintro e w1 ⟨v', rfl, ⟨p', m', rfl, hp1, hm1, np, nm⟩, hb1⟩
    have hZ1 := hZ9.out.keep hb1 (by omega)
    have K1 := Kept.mk hZ1
    have K2 := Kept.mk (hF9.out.keep hb1 (by omega))
    replace hB := Kept.mk (hB.out.trans (hb1.mono hB.out.size))
    obtain ⟨hBK, K4, K5⟩ := vset (onlyReg A) p' m' (g := w.heap.size + 3) (by omega) hB.out hZ1 rfl hp1 hm1 (np.ne (by omega)) (nm.ne (by omega))
    obtain ⟨hc', hp', hm'⟩ := K4.out
    replace np := np.low (B' := w.heap.size) (by omega)
    replace nm := nm.low (B' := w.heap.size) (by omega)
    clear K4 hp1 hm1 hZ1 hb1
    go_wp2_with (refine wpList_storeN 46 rfl (.tmp 6) (.tmp 33) rfl (w.heap.size + 3) [.int .i64 (onlyReg A).kind, .int .i64 (onlyReg A).time, .int .i64 (onlyReg A).node, .bool (onlyReg A).dead, .string ⟨(onlyReg A).text.toArray⟩, p', m', .int .u64 ((onlyReg A).flags.toNat : Int)] size_va rfl rfl K1.out rfl K2.out K5.out ?_)
    rw [HJ.out]
    exact bodyPost_ret (resultsN1 rfl _ _ (w.heap.size + 3) _ size_va agg_va rfl hc') rfl ⟨_, rfl, ⟨_, _, rfl, hp', hm', np, nm⟩, hBK.out⟩
  | false =>
    have HJ := Kept.mk (show joinReg A B = onlyReg B by unfold joinReg; rw [hz]; rfl)
    have k0 := kB 0 _ rfl
    have k1 := kB 1 _ rfl
    have k2 := kB 2 _ rfl
    have k3 := kB 3 _ rfl
    have k4 := kB 4 _ rfl
    have k5 := kB 5 _ rfl
    have k6 := kB 6 _ rfl
    have k7 := kB 7 _ rfl
    clear kA kB
    go_wp2_with fail
    refine (regOnly_any B _ _ gX9.out).mono ?_
    rintro e w1 ⟨v', rfl, ⟨p', m', rfl, hp1, hm1, np, nm⟩, hb1⟩
    have hZ1 := hZ9.out.keep hb1 (by omega)
    have K1 := Kept.mk hZ1
    have K2 := Kept.mk (hF9.out.keep hb1 (by omega))
    replace hB := Kept.mk (hB.out.trans (hb1.mono hB.out.size))
    obtain ⟨hBK, K4, K5⟩ := vset (onlyReg B) p' m' (g := w.heap.size + 3) (by omega) hB.out hZ1 rfl hp1 hm1 (np.ne (by omega)) (nm.ne (by omega))
    obtain ⟨hc', hp', hm'⟩ := K4.out
    replace np := np.low (B' := w.heap.size) (by omega)
    replace nm := nm.low (B' := w.heap.size) (by omega)
    clear K4 hp1 hm1 hZ1 hb1
    go_wp2_with (refine wpList_storeN 46 rfl (.tmp 6) (.tmp 36) rfl (w.heap.size + 3) [.int .i64 (onlyReg B).kind, .int .i64 (onlyReg B).time, .int .i64 (onlyReg B).node, .bool (onlyReg B).dead, .string ⟨(onlyReg B).text.toArray⟩, p', m', .int .u64 ((onlyReg B).flags.toNat : Int)] size_va rfl rfl K1.out rfl K2.out K5.out ?_)
    rw [HJ.out]
    exact bodyPost_ret (resultsN1 rfl _ _ (w.heap.size + 3) _ size_va agg_va rfl hc') rfl ⟨_, rfl, ⟨_, _, rfl, hp', hm', np, nm⟩, hBK.out⟩
end Go.Proofs.YtkjghoomdefbbaaGreatDoor
end
section
namespace Go.Proofs.YtkjghoomdefbbaaGreatDoor
open Go.RowKit
set_option linter.unusedVariables false
set_option linter.unusedSimpArgs false
attribute [local irreducible] setN

theorem own_slice {B : Nat} {e : TypeId} {cs : List Value} {v : Value} {w : World} (h : isOwn B e cs v w) : NewB B v ∧ ∃ a n c, v = .slice a n c := by
  obtain ⟨hl, ⟨rfl, _⟩ | ⟨g, cap, cur, rfl, hB, _⟩⟩ := h
  · exact ⟨newB_nil B, _, _, _, rfl⟩
  · exact ⟨newB_row hB _ _ _, _, _, _, rfl⟩
theorem built_count (a a2 : Option Addr) (n c n2 c2 : Nat) : Tryz.prog.built 46 [(0, .int .i64 2), (5, .slice a n c), (6, .slice a2 n2 c2)] = some #[.int .i64 2, .int .i64 0, .int .i64 0, .bool false, .string ⟨#[]⟩, .slice a n c, .slice a2 n2 c2, .int .u64 0] := by kernel_rfl
/-- A counter put together of two new rows. -/
def isCnt (B : Nat) (l m : List Value) : VP := fun v w => ∃ p' m', v = .agg #[.int .i64 2, .int .i64 0, .int .i64 0, .bool false, .string ⟨#[]⟩, p', m', .int .u64 0] ∧ isOwn B 3 l p' w ∧ isOwn B 3 m m' w
theorem stable_cnt (B : Nat) (l m : List Value) : Stable (isCnt B l m) := fun v w w' ⟨p', m', e, h1, h2⟩ hb => ⟨p', m', e, stable_own _ _ _ _ _ _ h1 hb, stable_own _ _ _ _ _ _ h2 hb⟩
theorem cnt_built {B : Nat} {l m : List Value} {u v : Value} {w : World} (h1 : isOwn B 3 l u w) (h2 : isOwn B 3 m v w) : ∃ cs, Tryz.prog.built 46 [(0, .int .i64 2), (5, u), (6, v)] = some cs ∧ isCnt B l m (.agg cs) w := by
  obtain ⟨_, a1, n1, c1, rfl⟩ := own_slice h1
  obtain ⟨_, a2, n2, c2, rfl⟩ := own_slice h2
  exact ⟨_, built_count _ _ _ _ _ _, _, _, rfl, h1, h2⟩
noncomputable def conlyOps : Array Oper := regionOf Tryz.f192 1
set_option maxRecDepth 100000 in
set_option maxHeartbeats 1000000 in
theorem conly_region (Q : Exit → Act → World → Prop) (a0 : Act) (w0 : World) (hsz : a0.tmps.size = 12) (A : Va) (g r : Nat) (vp vm : Value) (e3 : a0.tmps.getD 3 undef = .pointer (some ⟨g, 0, none⟩)) (e4 : a0.tmps.getD 4 undef = .pointer (some ⟨r, 0, none⟩)) (hc : CellsN w0 g [.int .i64 A.kind, .int .i64 A.time, .int .i64 A.node, .bool A.dead, .string ⟨A.text.toArray⟩, vp, vm, .int .u64 (A.flags.toNat : Int)]) (hr : CellsN w0 r [.int .i64 0, .int .i64 0, .int .i64 0, .bool false, .string ⟨#[]⟩, .slice none 0 0, .slice none 0 0, .int .u64 0]) (hf : Free5 w0 r)
    (hp : isCells (A.plus.map intC) vp w0) (hm : isCells (A.minus.map intC) vm w0) (hp1 : A.plus.length * 8 ≤ 140737488355328) (hm1 : A.minus.length * 8 ≤ 140737488355328)
    (hQ : ∀ (a : Act) (w1 : World) (p' m' : Value), a.defers = a0.defers → a.tmps.getD 4 undef = .pointer (some ⟨r, 0, none⟩) → Below w0.heap.size w0 w1 → isOwn w0.heap.size 3 (A.plus.map intC) p' w1 → isOwn w0.heap.size 3 (A.minus.map intC) m' w1 → Q .normal a (setN w1 r 0 [.int .i64 2, .int .i64 0, .int .i64 0, .bool false, .string ⟨#[]⟩, p', m', .int .u64 0])) :
    (Code.region 1 conlyOps true).wp Tryz.prog Q a0 w0 := by
  refine wp_region_tail 7 mixed (by rw [hsz]; kernel_rfl) (by kernel_rfl) ?_
  rw [show conlyOps.size - 7 = 1 by kernel_rfl]
  refine ⟨isVal (.pointer (some ⟨g, 5, none⟩)), step_field 46 (.tmp 3) 5 ⟨g, 0, none⟩ ⟨g, 5, none⟩ (by kernel_rfl) (wanted_none (by kernel_rfl)) (knows_old 3 (.pointer (some ⟨g, 0, none⟩)) (by kernel_rfl) e3) (field_va g 5 (by omega)), ?_⟩
  refine ⟨isVal vp, step_read 23 (.tmp 5) ⟨g, 5, none⟩ vp (by kernel_rfl) (wanted_none (by kernel_rfl)) (knows_new (V := isVal (.pointer (some ⟨g, 5, none⟩))) 5 0 (by kernel_rfl) (by kernel_rfl) (by kernel_rfl)) (hc.2 5 _ rfl) hc.1 agg_ints, ?_⟩
  refine ⟨(isOwn w0.heap.size 3 (A.plus.map intC)), step_call 74 #[.tmp 6] #[23] #[vp] (by kernel_rfl) (wanted_none (by kernel_rfl)) (stable_own _ _ _) (args1 (.tmp 6) vp (knows_new (V := isVal vp) 6 1 (by kernel_rfl) (by kernel_rfl) (by kernel_rfl))) (enters_of Tryz.func74 (by kernel_rfl) rfl) (by intro w hb; exact clone_i' w0.heap.size A.plus vp w (stable_cells _ _ _ _ hp hb) hp1 hb.size), ?_⟩
  refine ⟨isVal (.pointer (some ⟨g, 6, none⟩)), step_field 46 (.tmp 3) 6 ⟨g, 0, none⟩ ⟨g, 6, none⟩ (by kernel_rfl) (wanted_none (by kernel_rfl)) (knows_old 3 (.pointer (some ⟨g, 0, none⟩)) (by kernel_rfl) e3) (field_va g 6 (by omega)), ?_⟩
  refine ⟨isVal vm, step_read 23 (.tmp 8) ⟨g, 6, none⟩ vm (by kernel_rfl) (wanted_none (by kernel_rfl)) (knows_new (V := isVal (.pointer (some ⟨g, 6, none⟩))) 8 3 (by kernel_rfl) (by kernel_rfl) (by kernel_rfl)) (hc.2 6 _ rfl) hc.1 agg_ints, ?_⟩
  refine ⟨(isOwn w0.heap.size 3 (A.minus.map intC)), step_call 74 #[.tmp 9] #[23] #[vm] (by kernel_rfl) (wanted_none (by kernel_rfl)) (stable_own _ _ _) (args1 (.tmp 9) vm (knows_new (V := isVal vm) 9 4 (by kernel_rfl) (by kernel_rfl) (by kernel_rfl))) (enters_of Tryz.func74 (by kernel_rfl) rfl) (by intro w hb; exact clone_i' w0.heap.size A.minus vm w (stable_cells _ _ _ _ hm hb) hm1 hb.size), ?_⟩
  refine ⟨isCnt w0.heap.size (A.plus.map intC) (A.minus.map intC), step_buildP 46 #[(0, .const (.int .i64 2)), (5, .tmp 7), (6, .tmp 10)] (by kernel_rfl) (wanted_none (by kernel_rfl)) (stable_cnt _ _ _) (by
    intro a w hk hd
    have h1 := knows_new (ops := conlyOps) (a0 := a0) (V := isOwn w0.heap.size 3 (A.plus.map intC)) 7 2 (by kernel_rfl) (by kernel_rfl) (by kernel_rfl) a w hk hd
    have h2 := knows_new (ops := conlyOps) (a0 := a0) (V := isOwn w0.heap.size 3 (A.minus.map intC)) 10 5 (by kernel_rfl) (by kernel_rfl) (by kernel_rfl) a w hk hd
    have e0 : a.eval (.const (.int .i64 2)) = .int .i64 2 := rfl
    simpa [e0] using cnt_built h1 h2), ?_⟩
  intro a w hk hb hd
  obtain ⟨p', m', d11, o1, o2⟩ := fdone_of (hd 6 (by decide)) (t := 11) (V := isCnt w0.heap.size (A.plus.map intC) (A.minus.map intC)) (by kernel_rfl) (by kernel_rfl)
  have e4' : a.tmps.getD 4 undef = .pointer (some ⟨r, 0, none⟩) := (hk.2.2 4 (by kernel_rfl)).trans e4
  refine tail_storeN 46 (.tmp 4) (.tmp 11) r [.int .i64 2, .int .i64 0, .int .i64 0, .bool false, .string ⟨#[]⟩, p', m', .int .u64 0] _ (by kernel_rfl) (by kernel_rfl) size_va e4' d11 (hr.keep hb hr.1) rfl (hf.keep hb hr.1) ⟨rfl, rfl, rfl, rfl, rfl, o1.one.2, o2.one.2, rfl, trivial⟩ ?_
  exact hQ _ w _ _ hk.1 e4' hb o1 o2
set_option maxRecDepth 20000 in
set_option maxHeartbeats 1000000 in
theorem countOnly_any (A : Va) (v : Value) (w : World) (hv : isVa A v w) (hp1 : A.plus.length ≤ 1000000000) (hm1 : A.minus.length ≤ 1000000000) :
    Calls Tryz.prog 192 #[.agg #[], v] w fun e w' => ∃ v', e = .returned v' ∧ isVaN w.heap.size (onlyCount A) v' w' ∧ Below w.heap.size w w' := by
  obtain ⟨vp, vm, rfl, hp, hm⟩ := hv
  have hB0 := lit_below w (.cells #[] 163)
  obtain ⟨hB1, hV⟩ := vbox _ A vp vm (stable_cells _ _ _ _ hp hB0) (stable_cells _ _ _ _ hm hB0) (w.heap.size + 1) (by simp)
  have hB := Kept.mk (hB0.trans (hB1.out.mono hB0.size))
  have hB3 := lit_below ((w.alloc (.cells #[] 163)).alloc (.cells #[.int .i64 A.kind, .int .i64 A.time, .int .i64 A.node, .bool A.dead, .string ⟨A.text.toArray⟩, vp, vm, .int .u64 (A.flags.toNat : Int)] 46)) (.cells #[.int .i64 0, .int .i64 0, .int .i64 0, .bool false, .string ⟨#[]⟩, .slice none 0 0, .slice none 0 0, .int .u64 0] 46)
  have HC := Kept.mk ((cellsN_at (w.alloc (.cells #[] 163)) 46 [.int .i64 A.kind, .int .i64 A.time, .int .i64 A.node, .bool A.dead, .string ⟨A.text.toArray⟩, vp, vm, .int .u64 (A.flags.toNat : Int)] (w.heap.size + 1) (by simp)).keep hB3 (by simp))
  have HZ := Kept.mk (cellsN_at ((w.alloc (.cells #[] 163)).alloc (.cells #[.int .i64 A.kind, .int .i64 A.time, .int .i64 A.node, .bool A.dead, .string ⟨A.text.toArray⟩, vp, vm, .int .u64 (A.flags.toNat : Int)] 46)) 46 [.int .i64 0, .int .i64 0, .int .i64 0, .bool false, .string ⟨#[]⟩, .slice none 0 0, .slice none 0 0, .int .u64 0] (w.heap.size + 2) (by simp))
  have HF := Kept.mk (free5_at ((w.alloc (.cells #[] 163)).alloc (.cells #[.int .i64 A.kind, .int .i64 A.time, .int .i64 A.node, .bool A.dead, .string ⟨A.text.toArray⟩, vp, vm, .int .u64 (A.flags.toNat : Int)] 46)) #[.int .i64 0, .int .i64 0, .int .i64 0, .bool false, .string ⟨#[]⟩, .slice none 0 0, .slice none 0 0, .int .u64 0] 46 (w.heap.size + 2) (by simp))
  have hS : Kept (w.heap.size + 3 = (((w.alloc (.cells #[] 163)).alloc (.cells #[.int .i64 A.kind, .int .i64 A.time, .int .i64 A.node, .bool A.dead, .string ⟨A.text.toArray⟩, vp, vm, .int .u64 (A.flags.toNat : Int)] 46)).alloc (.cells #[.int .i64 0, .int .i64 0, .int .i64 0, .bool false, .string ⟨#[]⟩, .slice none 0 0, .slice none 0 0, .int .u64 0] 46)).heap.size) := ⟨by simp⟩
  replace hB := Kept.mk (hB.out.trans (hB3.mono hB.out.size))
  have HP := Kept.mk (stable_cells _ _ _ _ hp hB.out)
  have HM := Kept.mk (stable_cells _ _ _ _ hm hB.out)
  clear hp hm hB0 hB1 hV hB3
  go_enter Tryz.func192, Tryz.ntmps192
  go_wp2_with fail
  generalize ((w.alloc (.cells #[] 163)).alloc (.cells #[.int .i64 A.kind, .int .i64 A.time, .int .i64 A.node, .bool A.dead, .string ⟨A.text.toArray⟩, vp, vm, .int .u64 (A.flags.toNat : Int)] 46)).alloc (.cells #[.int .i64 0, .int .i64 0, .int .i64 0, .bool false, .string ⟨#[]⟩, .slice none 0 0, .slice none 0 0, .int .u64 0] 46) = W0 at *
  refine conly_region _ _ _ rfl A (w.heap.size + 1) (w.heap.size + 2) vp vm rfl rfl HC.out HZ.out HF.out HP.out HM.out (by omega) (by omega) ?_
  intro a w1 p' m' hd h4 hb1 o1 o2
  have hs := hS.out
  have hZ1 := HZ.out.keep hb1 HZ.out.1
  obtain ⟨np, _⟩ := own_slice o1
  obtain ⟨nm, _⟩ := own_slice o2
  obtain ⟨hBK, K4, K5⟩ := vset (onlyCount A) p' m' (g := w.heap.size + 2) (by omega) (hB.out.trans (hb1.mono hB.out.size)) hZ1 rfl o1.cells o2.cells (np.ne (by omega)) (nm.ne (by omega))
  obtain ⟨hc', hp', hm'⟩ := K4.out
  replace np := np.low (B' := w.heap.size) (by omega)
  replace nm := nm.low (B' := w.heap.size) (by omega)
  go_wp2
  exact bodyPost_ret (resultsN1 rfl _ _ (w.heap.size + 2) _ size_va agg_va h4 hc') hd ⟨_, rfl, ⟨_, _, rfl, hp', hm', np, nm⟩, hBK.out⟩
end Go.Proofs.YtkjghoomdefbbaaGreatDoor
end
section
namespace Go.Proofs.YtkjghoomdefbbaaGreatDoor
open Go.RowKit
set_option linter.unusedVariables false
set_option linter.unusedSimpArgs false

section
variable {P : Program} {ops : Array Oper} {base : World} {a0 : Act} {Q : Exit → Act → World → Prop} {kn : Nat → VP} {i : Nat} {V : VP}

end

end Go.Proofs.YtkjghoomdefbbaaGreatDoor
end
section
namespace Go.Proofs.YtkjghoomdefbbaaGreatDoor
open Go.RowKit
set_option linter.unusedVariables false
set_option linter.unusedSimpArgs false
attribute [local irreducible] setN

/-- A kind, as the program has it. -/
def ifaceK : Nat → Value
  | 1 => .iface 162 (.agg #[])
  | 2 => .iface 163 (.agg #[])
  | 3 => .iface 164 (.agg #[])
  | _ => .nilIface
def kOf (n : Int) : Nat := if n = 1 then 1 else if n = 2 then 2 else if n = 3 then 3 else 0
theorem kindOf_any (n : Int) (w : World) : Calls Tryz.prog 119 #[.int .i64 n] w fun e w' => e = .returned (.tuple #[ifaceK (kOf n), .bool (decide (kOf n ≠ 0))]) ∧ w = w' := by
  by_cases h1 : n = 1
  · subst h1
    go_enter Tryz.func119, Tryz.ntmps119
    go_wp2
    go_ret2
    exact ⟨rfl, rfl⟩
  · have d1 : (n == 1) = false := by simpa using h1
    by_cases h2 : n = 2
    · subst h2
      go_enter Tryz.func119, Tryz.ntmps119
      go_wp2
      go_ret2
      exact ⟨rfl, rfl⟩
    · have d2 : (n == 2) = false := by simpa using h2
      by_cases h3 : n = 3
      · subst h3
        go_enter Tryz.func119, Tryz.ntmps119
        go_wp2
        go_ret2
        exact ⟨rfl, rfl⟩
      · have d3 : (n == 3) = false := by simpa using h3
        have HK := Kept.mk (show kOf n = 0 by unfold kOf; rw [if_neg h1, if_neg h2, if_neg h3])
        clear h1 h2 h3
        go_enter Tryz.func119, Tryz.ntmps119
        go_wp2
        go_ret2
        exact ⟨by rw [HK.out]; rfl, rfl⟩
/-- What is looked at is small enough. -/
structure Fit (A : Va) : Prop where
  text : A.text.length ≤ 1000000000
  plus : A.plus.length ≤ 1000000
  minus : A.minus.length ≤ 1000000
theorem call_regIn (A : Va) (b : Bool) (v : Value) (w : World) (hv : isVa A v w) (hf : Fit A) (hb : inReg A = b) : Calls Tryz.prog 177 #[.agg #[], v] w fun e w' => ∃ x, e = .returned x ∧ isVal (.bool b) x w' ∧ Below w.heap.size w w' :=
  (regIn_any A v w hv hf.text).mono (by rintro e w' ⟨rfl, h⟩; exact ⟨_, rfl, by rw [hb]; rfl, h⟩)
theorem call_countIn (A : Va) (b : Bool) (v : Value) (w : World) (hv : isVa A v w) (hf : Fit A) (hb : inCount A = b) : Calls Tryz.prog 189 #[.agg #[], v] w fun e w' => ∃ x, e = .returned x ∧ isVal (.bool b) x w' ∧ Below w.heap.size w w' :=
  (countIn_any A v w hv (by have := hf.plus; omega) (by have := hf.minus; omega)).mono (by rintro e w' ⟨rfl, h⟩; exact ⟨_, rfl, by rw [hb]; rfl, h⟩)
theorem call_flagsIn (A : Va) (b : Bool) (v : Value) (w : World) (hv : isVa A v w) (hf : Fit A) (hb : true = b) : Calls Tryz.prog 201 #[.agg #[], v] w fun e w' => ∃ x, e = .returned x ∧ isVal (.bool b) x w' ∧ Below w.heap.size w w' :=
  (flagsInrange_any A v w hv).mono (by rintro e w' ⟨rfl, h⟩; exact ⟨_, rfl, by rw [hb]; rfl, h⟩)
theorem call_regOnly (A : Va) (v : Value) (w : World) (hv : isVa A v w) (hf : Fit A) : Calls Tryz.prog 180 #[.agg #[], v] w fun e w' => ∃ x, e = .returned x ∧ isVa (onlyReg A) x w' ∧ Below w.heap.size w w' :=
  (regOnly_any A v w hv).mono (by rintro e w' ⟨x, rfl, h, hb⟩; exact ⟨_, rfl, h.va, hb⟩)
theorem call_countOnly (A : Va) (v : Value) (w : World) (hv : isVa A v w) (hf : Fit A) : Calls Tryz.prog 192 #[.agg #[], v] w fun e w' => ∃ x, e = .returned x ∧ isVa (onlyCount A) x w' ∧ Below w.heap.size w w' :=
  (countOnly_any A v w hv (by have := hf.plus; omega) (by have := hf.minus; omega)).mono (by rintro e w' ⟨x, rfl, h, hb⟩; exact ⟨_, rfl, h.va, hb⟩)
theorem call_flagsOnly (A : Va) (v : Value) (w : World) (hv : isVa A v w) (hf : Fit A) : Calls Tryz.prog 204 #[.agg #[], v] w fun e w' => ∃ x, e = .returned x ∧ isVa (onlyFlags A) x w' ∧ Below w.heap.size w w' :=
  (flagsOnly_any A v w hv).mono (by rintro e w' ⟨x, rfl, h, hb⟩; exact ⟨_, rfl, h.va, hb⟩)
theorem call_same (A B : Va) (v u : Value) (w : World) (hv : isVa A v w) (hu : isVa B u w) (h1 : Fit A) (h2 : B.plus.length ≤ 1000000) (h3 : B.minus.length ≤ 1000000) :
    Calls Tryz.prog 117 #[v, u] w fun e w' => ∃ x, e = .returned x ∧ isVal (.bool (decide (A = B))) x w' ∧ Below w.heap.size w w' :=
  (vsame_any A B v u w hv hu (by have := h1.plus; omega) (by have := h1.minus; omega) (by omega) (by omega)).mono (by rintro e w' ⟨rfl, h⟩; exact ⟨_, rfl, rfl, h⟩)
theorem same_self (B : Va) (h : Fit B) : (onlyReg B).plus.length ≤ 1000000 ∧ (onlyReg B).minus.length ≤ 1000000 ∧ (onlyCount B).plus.length ≤ 1000000 ∧ (onlyCount B).minus.length ≤ 1000000 ∧ (onlyFlags B).plus.length ≤ 1000000 ∧ (onlyFlags B).minus.length ≤ 1000000 :=
  ⟨Nat.zero_le _, Nat.zero_le _, h.plus, h.minus, Nat.zero_le _, Nat.zero_le _⟩
noncomputable def kv_noneOps : Array Oper := regionOf Tryz.f106 2
set_option maxRecDepth 100000 in
set_option maxHeartbeats 2000000 in
theorem kv_none_region (Q : Exit → Act → World → Prop) (a0 : Act) (w0 : World) (hsz : a0.tmps.size = 29) (A : Va) (g : Nat) (vp vm : Value) (e1 : a0.tmps.getD 1 undef = .pointer (some ⟨g, 0, none⟩)) (e4 : a0.tmps.getD 4 undef = .nilIface) (e5 : a0.tmps.getD 5 undef = .bool false) (hc : CellsN w0 g [.int .i64 A.kind, .int .i64 A.time, .int .i64 A.node, .bool A.dead, .string ⟨A.text.toArray⟩, vp, vm, .int .u64 (A.flags.toNat : Int)]) (hX : isVa A (.agg #[.int .i64 A.kind, .int .i64 A.time, .int .i64 A.node, .bool A.dead, .string ⟨A.text.toArray⟩, vp, vm, .int .u64 (A.flags.toNat : Int)]) w0) (hF : Fit A)
    (hQ : ∀ (g : Nat → Value) (w : World), g 27 = .bool true → Below w0.heap.size w0 w → Q .normal { tmps := [12, 13, 14, 15, 16, 17, 18, 19, 20, 21, 22, 23, 24, 25, 26, 27].foldl (fun t s => t.setIfInBounds s (g s)) a0.tmps, defers := a0.defers } w) :
    (Code.region 2 kv_noneOps true).wp Tryz.prog Q a0 w0 := by
  refine wp_region_flow mixed (by rw [hsz]; kernel_rfl) ?_
  rw [show kv_noneOps.size = 16 by kernel_rfl]
  refine ⟨isVal (.bool false), step_move (.tmp 5) (by kernel_rfl) (wanted_none (by kernel_rfl)) (stable_val _) (knows_old 5 (.bool false) (by kernel_rfl) e5), ?_⟩
  refine ⟨isVal (.bool true), step_un .not 4 (.tmp 12) (.bool false) (.bool true) (by kernel_rfl) (wanted_none (by kernel_rfl)) (knows_new (V := isVal (.bool false)) 12 0 (by kernel_rfl) (by kernel_rfl) (by kernel_rfl)) (fun _ => rfl), ?_⟩
  refine ⟨isVal (.bool true), step_move (.tmp 13) (by kernel_rfl) (wanted_none (by kernel_rfl)) (stable_val _) (knows_new (V := isVal (.bool true)) 13 1 (by kernel_rfl) (by kernel_rfl) (by kernel_rfl)), ?_⟩
  refine ⟨_, step_skip 2 14 false true (by kernel_rfl) (by kernel_rfl) (by kernel_rfl) (by kernel_rfl) rfl, ?_⟩
  refine ⟨_, step_skip 2 14 false true (by kernel_rfl) (by kernel_rfl) (by kernel_rfl) (by kernel_rfl) rfl, ?_⟩
  refine ⟨_, step_skip 2 14 false true (by kernel_rfl) (by kernel_rfl) (by kernel_rfl) (by kernel_rfl) rfl, ?_⟩
  refine ⟨_, step_skip 2 14 false true (by kernel_rfl) (by kernel_rfl) (by kernel_rfl) (by kernel_rfl) rfl, ?_⟩
  refine ⟨isVal (.bool true), step_pick (.tmp 14) (.const (.bool true)) (.tmp 18) true (by kernel_rfl) (wanted_none (by kernel_rfl)) (stable_val _) (knows_new (V := isVal (.bool true)) 14 2 (by kernel_rfl) (by kernel_rfl) (by kernel_rfl)) (knows_const _), ?_⟩
  refine ⟨isVal (.bool true), step_move (.tmp 19) (by kernel_rfl) (wanted_none (by kernel_rfl)) (stable_val _) (knows_new (V := isVal (.bool true)) 19 7 (by kernel_rfl) (by kernel_rfl) (by kernel_rfl)), ?_⟩
  refine ⟨_, step_skip 8 20 false true (by kernel_rfl) (by kernel_rfl) (by kernel_rfl) (by kernel_rfl) rfl, ?_⟩
  refine ⟨_, step_skip 8 20 false true (by kernel_rfl) (by kernel_rfl) (by kernel_rfl) (by kernel_rfl) rfl, ?_⟩
  refine ⟨_, step_skip 8 20 false true (by kernel_rfl) (by kernel_rfl) (by kernel_rfl) (by kernel_rfl) rfl, ?_⟩
  refine ⟨_, step_skip 8 20 false true (by kernel_rfl) (by kernel_rfl) (by kernel_rfl) (by kernel_rfl) rfl, ?_⟩
  refine ⟨_, step_skip 8 20 false true (by kernel_rfl) (by kernel_rfl) (by kernel_rfl) (by kernel_rfl) rfl, ?_⟩
  refine ⟨_, step_skip 8 20 false true (by kernel_rfl) (by kernel_rfl) (by kernel_rfl) (by kernel_rfl) rfl, ?_⟩
  refine ⟨isVal (.bool true), step_pick (.tmp 20) (.const (.bool true)) (.tmp 26) true (by kernel_rfl) (wanted_none (by kernel_rfl)) (stable_val _) (knows_new (V := isVal (.bool true)) 20 8 (by kernel_rfl) (by kernel_rfl) (by kernel_rfl)) (knows_const _), ?_⟩
  intro a w hkp hb hd
  rw [kept_of hkp [some 12, some 13, some 14, some 15, some 16, some 17, some 18, some 19, some 20, some 21, some 22, some 23, some 24, some 25, some 26, some 27] [12, 13, 14, 15, 16, 17, 18, 19, 20, 21, 22, 23, 24, 25, 26, 27] (by kernel_rfl) (by decide)]
  have d27 := fdone_of (hd 15 (by rw [show kv_noneOps.size = 16 by kernel_rfl]; decide)) (t := 27) (V := isVal (.bool true)) (by kernel_rfl) (by kernel_rfl)
  exact hQ (fun s => a.tmps.getD s undef) w d27 hb
set_option maxRecDepth 20000 in
set_option maxHeartbeats 1000000 in
theorem kv_none_any (A : Va) (v : Value) (w : World) (hv : isVa A v w) (hF : Fit A) (hk : kOf A.kind = 0) :
    Calls Tryz.prog 106 #[v] w fun e w' => e = .returned (.tuple #[ifaceK 0, .bool false]) ∧ Below w.heap.size w w' := by
  obtain ⟨vp, vm, rfl, hp, hm⟩ := hv
  obtain ⟨hB, hV⟩ := vbox w A vp vm hp hm w.heap.size rfl
  have hX := Kept.mk (show isVa A (.agg #[.int .i64 A.kind, .int .i64 A.time, .int .i64 A.node, .bool A.dead, .string ⟨A.text.toArray⟩, vp, vm, .int .u64 (A.flags.toNat : Int)]) (w.alloc (.cells #[.int .i64 A.kind, .int .i64 A.time, .int .i64 A.node, .bool A.dead, .string ⟨A.text.toArray⟩, vp, vm, .int .u64 (A.flags.toNat : Int)] 46)) from ⟨vp, vm, rfl, stable_cells _ _ _ _ hp hB.out, stable_cells _ _ _ _ hm hB.out⟩)
  have HC := Kept.mk (cellsN_at w 46 [.int .i64 A.kind, .int .i64 A.time, .int .i64 A.node, .bool A.dead, .string ⟨A.text.toArray⟩, vp, vm, .int .u64 (A.flags.toNat : Int)] w.heap.size rfl)
  have HK := Kept.mk (show kOf A.kind = 0 by exact hk)
  have HK2 := Kept.mk hk
  clear hp hm hV hk
  go_enter Tryz.func106, Tryz.ntmps106
  go_wp2_with fail
  refine (kindOf_any A.kind _).mono ?_; rintro e w' ⟨rfl, rfl⟩
  rewrite [HK.out]
  go_wp2_with fail
  refine kv_none_region _ _ _ rfl A w.heap.size vp vm rfl rfl rfl HC.out hX.out hF ?_
  intro f9 W9 d27 hb9
  simp only [List.foldl_cons, List.foldl_nil, d27]
  generalize f9 12 = y12
  generalize f9 13 = y13
  generalize f9 14 = y14
  generalize f9 15 = y15
  generalize f9 16 = y16
  generalize f9 17 = y17
  generalize f9 18 = y18
  generalize f9 19 = y19
  generalize f9 20 = y20
  generalize f9 21 = y21
  generalize f9 22 = y22
  generalize f9 23 = y23
  generalize f9 24 = y24
  generalize f9 25 = y25
  generalize f9 26 = y26
  clear d27
  simp only [List.setIfInBounds_toArray, List.set_cons_succ, List.set_cons_zero]
  replace hB := Kept.mk (hB.out.trans (hb9.mono hB.out.size))
  clear hb9 hX HC
  go_wp2
  go_ret2
  exact ⟨rfl, hB.out⟩
noncomputable def kv_reg0Ops : Array Oper := regionOf Tryz.f106 2
set_option maxRecDepth 100000 in
set_option maxHeartbeats 2000000 in
theorem kv_reg0_region (Q : Exit → Act → World → Prop) (a0 : Act) (w0 : World) (hsz : a0.tmps.size = 29) (A : Va) (g : Nat) (vp vm : Value) (e1 : a0.tmps.getD 1 undef = .pointer (some ⟨g, 0, none⟩)) (e4 : a0.tmps.getD 4 undef = (.iface 162 (.agg #[]))) (e5 : a0.tmps.getD 5 undef = .bool true) (hc : CellsN w0 g [.int .i64 A.kind, .int .i64 A.time, .int .i64 A.node, .bool A.dead, .string ⟨A.text.toArray⟩, vp, vm, .int .u64 (A.flags.toNat : Int)]) (hX : isVa A (.agg #[.int .i64 A.kind, .int .i64 A.time, .int .i64 A.node, .bool A.dead, .string ⟨A.text.toArray⟩, vp, vm, .int .u64 (A.flags.toNat : Int)]) w0) (hF : Fit A) (hI : inReg A = false)
    (hQ : ∀ (g : Nat → Value) (w : World), g 27 = .bool true → Below w0.heap.size w0 w → Q .normal { tmps := [12, 13, 14, 15, 16, 17, 18, 19, 20, 21, 22, 23, 24, 25, 26, 27].foldl (fun t s => t.setIfInBounds s (g s)) a0.tmps, defers := a0.defers } w) :
    (Code.region 2 kv_reg0Ops true).wp Tryz.prog Q a0 w0 := by
  refine wp_region_flow mixed (by rw [hsz]; kernel_rfl) ?_
  rw [show kv_reg0Ops.size = 16 by kernel_rfl]
  refine ⟨isVal (.bool true), step_move (.tmp 5) (by kernel_rfl) (wanted_none (by kernel_rfl)) (stable_val _) (knows_old 5 (.bool true) (by kernel_rfl) e5), ?_⟩
  refine ⟨isVal (.bool false), step_un .not 4 (.tmp 12) (.bool true) (.bool false) (by kernel_rfl) (wanted_none (by kernel_rfl)) (knows_new (V := isVal (.bool true)) 12 0 (by kernel_rfl) (by kernel_rfl) (by kernel_rfl)) (fun _ => rfl), ?_⟩
  refine ⟨isVal (.bool false), step_move (.tmp 13) (by kernel_rfl) (wanted_none (by kernel_rfl)) (stable_val _) (knows_new (V := isVal (.bool false)) 13 1 (by kernel_rfl) (by kernel_rfl) (by kernel_rfl)), ?_⟩
  refine ⟨isVal (.iface 162 (.agg #[])), step_move (.tmp 4) (by kernel_rfl) (wanted_some 2 14 false (by kernel_rfl) (by kernel_rfl) (by kernel_rfl) (by kernel_rfl)) (stable_val _) (knows_old 4 (.iface 162 (.agg #[])) (by kernel_rfl) e4), ?_⟩
  refine ⟨isVal (.agg #[.int .i64 A.kind, .int .i64 A.time, .int .i64 A.node, .bool A.dead, .string ⟨A.text.toArray⟩, vp, vm, .int .u64 (A.flags.toNat : Int)]), step_loadN 46 (.tmp 1) (g) [.int .i64 A.kind, .int .i64 A.time, .int .i64 A.node, .bool A.dead, .string ⟨A.text.toArray⟩, vp, vm, .int .u64 (A.flags.toNat : Int)] (by kernel_rfl) (wanted_some 2 14 false (by kernel_rfl) (by kernel_rfl) (by kernel_rfl) (by kernel_rfl)) (knows_old 1 (.pointer (some ⟨g, 0, none⟩)) (by kernel_rfl) e1) size_va agg_va hc, ?_⟩
  refine ⟨isVal (.bool false), step_invoke "ouroboros/value.inRange" (.tmp 15) (.iface 162 (.agg #[])) 177 #[.tmp 16] #[46] #[.agg #[.int .i64 A.kind, .int .i64 A.time, .int .i64 A.node, .bool A.dead, .string ⟨A.text.toArray⟩, vp, vm, .int .u64 (A.flags.toNat : Int)]] #[.agg #[], .agg #[.int .i64 A.kind, .int .i64 A.time, .int .i64 A.node, .bool A.dead, .string ⟨A.text.toArray⟩, vp, vm, .int .u64 (A.flags.toNat : Int)]] (by kernel_rfl) (wanted_some 2 14 false (by kernel_rfl) (by kernel_rfl) (by kernel_rfl) (by kernel_rfl)) (stable_val _) (args1 (.tmp 16) (.agg #[.int .i64 A.kind, .int .i64 A.time, .int .i64 A.node, .bool A.dead, .string ⟨A.text.toArray⟩, vp, vm, .int .u64 (A.flags.toNat : Int)]) (knows_new (V := isVal (.agg #[.int .i64 A.kind, .int .i64 A.time, .int .i64 A.node, .bool A.dead, .string ⟨A.text.toArray⟩, vp, vm, .int .u64 (A.flags.toNat : Int)])) 16 4 (by kernel_rfl) (by kernel_rfl) (by kernel_rfl))) (knows_new (V := isVal (.iface 162 (.agg #[]))) 15 3 (by kernel_rfl) (by kernel_rfl) (by kernel_rfl)) (fun w => by kernel_rfl) (by intro w hb; exact call_regIn A false _ w (va_grow hX hb) hF hI), ?_⟩
  refine ⟨isVal (.bool true), step_un .not 4 (.tmp 17) (.bool false) (.bool true) (by kernel_rfl) (wanted_some 2 14 false (by kernel_rfl) (by kernel_rfl) (by kernel_rfl) (by kernel_rfl)) (knows_new (V := isVal (.bool false)) 17 5 (by kernel_rfl) (by kernel_rfl) (by kernel_rfl)) (fun _ => rfl), ?_⟩
  refine ⟨isVal (.bool true), step_pick (.tmp 14) (.const (.bool true)) (.tmp 18) false (by kernel_rfl) (wanted_none (by kernel_rfl)) (stable_val _) (knows_new (V := isVal (.bool false)) 14 2 (by kernel_rfl) (by kernel_rfl) (by kernel_rfl)) (knows_new (V := isVal (.bool true)) 18 6 (by kernel_rfl) (by kernel_rfl) (by kernel_rfl)), ?_⟩
  refine ⟨isVal (.bool true), step_move (.tmp 19) (by kernel_rfl) (wanted_none (by kernel_rfl)) (stable_val _) (knows_new (V := isVal (.bool true)) 19 7 (by kernel_rfl) (by kernel_rfl) (by kernel_rfl)), ?_⟩
  refine ⟨_, step_skip 8 20 false true (by kernel_rfl) (by kernel_rfl) (by kernel_rfl) (by kernel_rfl) rfl, ?_⟩
  refine ⟨_, step_skip 8 20 false true (by kernel_rfl) (by kernel_rfl) (by kernel_rfl) (by kernel_rfl) rfl, ?_⟩
  refine ⟨_, step_skip 8 20 false true (by kernel_rfl) (by kernel_rfl) (by kernel_rfl) (by kernel_rfl) rfl, ?_⟩
  refine ⟨_, step_skip 8 20 false true (by kernel_rfl) (by kernel_rfl) (by kernel_rfl) (by kernel_rfl) rfl, ?_⟩
  refine ⟨_, step_skip 8 20 false true (by kernel_rfl) (by kernel_rfl) (by kernel_rfl) (by kernel_rfl) rfl, ?_⟩
  refine ⟨_, step_skip 8 20 false true (by kernel_rfl) (by kernel_rfl) (by kernel_rfl) (by kernel_rfl) rfl, ?_⟩
  refine ⟨isVal (.bool true), step_pick (.tmp 20) (.const (.bool true)) (.tmp 26) true (by kernel_rfl) (wanted_none (by kernel_rfl)) (stable_val _) (knows_new (V := isVal (.bool true)) 20 8 (by kernel_rfl) (by kernel_rfl) (by kernel_rfl)) (knows_const _), ?_⟩
  intro a w hkp hb hd
  rw [kept_of hkp [some 12, some 13, some 14, some 15, some 16, some 17, some 18, some 19, some 20, some 21, some 22, some 23, some 24, some 25, some 26, some 27] [12, 13, 14, 15, 16, 17, 18, 19, 20, 21, 22, 23, 24, 25, 26, 27] (by kernel_rfl) (by decide)]
  have d27 := fdone_of (hd 15 (by rw [show kv_reg0Ops.size = 16 by kernel_rfl]; decide)) (t := 27) (V := isVal (.bool true)) (by kernel_rfl) (by kernel_rfl)
  exact hQ (fun s => a.tmps.getD s undef) w d27 hb
set_option maxRecDepth 20000 in
set_option maxHeartbeats 1000000 in
theorem kv_reg0_any (A : Va) (v : Value) (w : World) (hv : isVa A v w) (hF : Fit A) (hk : A.kind = 1) (hI : inReg A = false) :
    Calls Tryz.prog 106 #[v] w fun e w' => e = .returned (.tuple #[ifaceK 0, .bool false]) ∧ Below w.heap.size w w' := by
  obtain ⟨vp, vm, rfl, hp, hm⟩ := hv
  obtain ⟨hB, hV⟩ := vbox w A vp vm hp hm w.heap.size rfl
  have hX := Kept.mk (show isVa A (.agg #[.int .i64 A.kind, .int .i64 A.time, .int .i64 A.node, .bool A.dead, .string ⟨A.text.toArray⟩, vp, vm, .int .u64 (A.flags.toNat : Int)]) (w.alloc (.cells #[.int .i64 A.kind, .int .i64 A.time, .int .i64 A.node, .bool A.dead, .string ⟨A.text.toArray⟩, vp, vm, .int .u64 (A.flags.toNat : Int)] 46)) from ⟨vp, vm, rfl, stable_cells _ _ _ _ hp hB.out, stable_cells _ _ _ _ hm hB.out⟩)
  have HC := Kept.mk (cellsN_at w 46 [.int .i64 A.kind, .int .i64 A.time, .int .i64 A.node, .bool A.dead, .string ⟨A.text.toArray⟩, vp, vm, .int .u64 (A.flags.toNat : Int)] w.heap.size rfl)
  have HK := Kept.mk (show kOf A.kind = 1 by rw [hk]; rfl)
  have HK2 := Kept.mk hk
  clear hp hm hV hk
  have HI := Kept.mk hI
  clear hI
  go_enter Tryz.func106, Tryz.ntmps106
  go_wp2_with fail
  refine (kindOf_any A.kind _).mono ?_; rintro e w' ⟨rfl, rfl⟩
  rewrite [HK.out]
  go_wp2_with fail
  refine kv_reg0_region _ _ _ rfl A w.heap.size vp vm rfl rfl rfl HC.out hX.out hF HI.out ?_
  intro f9 W9 d27 hb9
  simp only [List.foldl_cons, List.foldl_nil, d27]
  generalize f9 12 = y12
  generalize f9 13 = y13
  generalize f9 14 = y14
  generalize f9 15 = y15
  generalize f9 16 = y16
  generalize f9 17 = y17
  generalize f9 18 = y18
  generalize f9 19 = y19
  generalize f9 20 = y20
  generalize f9 21 = y21
  generalize f9 22 = y22
  generalize f9 23 = y23
  generalize f9 24 = y24
  generalize f9 25 = y25
  generalize f9 26 = y26
  clear d27
  simp only [List.setIfInBounds_toArray, List.set_cons_succ, List.set_cons_zero]
  replace hB := Kept.mk (hB.out.trans (hb9.mono hB.out.size))
  clear hb9 hX HC
  go_wp2
  go_ret2
  exact ⟨rfl, hB.out⟩
noncomputable def kv_reg1Ops : Array Oper := regionOf Tryz.f106 2
set_option maxRecDepth 100000 in
set_option maxHeartbeats 2000000 in
theorem kv_reg1_region (Q : Exit → Act → World → Prop) (a0 : Act) (w0 : World) (hsz : a0.tmps.size = 29) (A : Va) (g : Nat) (vp vm : Value) (e1 : a0.tmps.getD 1 undef = .pointer (some ⟨g, 0, none⟩)) (e4 : a0.tmps.getD 4 undef = (.iface 162 (.agg #[]))) (e5 : a0.tmps.getD 5 undef = .bool true) (hc : CellsN w0 g [.int .i64 A.kind, .int .i64 A.time, .int .i64 A.node, .bool A.dead, .string ⟨A.text.toArray⟩, vp, vm, .int .u64 (A.flags.toNat : Int)]) (hX : isVa A (.agg #[.int .i64 A.kind, .int .i64 A.time, .int .i64 A.node, .bool A.dead, .string ⟨A.text.toArray⟩, vp, vm, .int .u64 (A.flags.toNat : Int)]) w0) (hF : Fit A) (hI : inReg A = true)
    (hQ : ∀ (g : Nat → Value) (w : World), g 27 = .bool (!decide (A = onlyReg A)) → Below w0.heap.size w0 w → Q .normal { tmps := [12, 13, 14, 15, 16, 17, 18, 19, 20, 21, 22, 23, 24, 25, 26, 27].foldl (fun t s => t.setIfInBounds s (g s)) a0.tmps, defers := a0.defers } w) :
    (Code.region 2 kv_reg1Ops true).wp Tryz.prog Q a0 w0 := by
  refine wp_region_flow mixed (by rw [hsz]; kernel_rfl) ?_
  rw [show kv_reg1Ops.size = 16 by kernel_rfl]
  refine ⟨isVal (.bool true), step_move (.tmp 5) (by kernel_rfl) (wanted_none (by kernel_rfl)) (stable_val _) (knows_old 5 (.bool true) (by kernel_rfl) e5), ?_⟩
  refine ⟨isVal (.bool false), step_un .not 4 (.tmp 12) (.bool true) (.bool false) (by kernel_rfl) (wanted_none (by kernel_rfl)) (knows_new (V := isVal (.bool true)) 12 0 (by kernel_rfl) (by kernel_rfl) (by kernel_rfl)) (fun _ => rfl), ?_⟩
  refine ⟨isVal (.bool false), step_move (.tmp 13) (by kernel_rfl) (wanted_none (by kernel_rfl)) (stable_val _) (knows_new (V := isVal (.bool false)) 13 1 (by kernel_rfl) (by kernel_rfl) (by kernel_rfl)), ?_⟩
  refine ⟨isVal (.iface 162 (.agg #[])), step_move (.tmp 4) (by kernel_rfl) (wanted_some 2 14 false (by kernel_rfl) (by kernel_rfl) (by kernel_rfl) (by kernel_rfl)) (stable_val _) (knows_old 4 (.iface 162 (.agg #[])) (by kernel_rfl) e4), ?_⟩
  refine ⟨isVal (.agg #[.int .i64 A.kind, .int .i64 A.time, .int .i64 A.node, .bool A.dead, .string ⟨A.text.toArray⟩, vp, vm, .int .u64 (A.flags.toNat : Int)]), step_loadN 46 (.tmp 1) (g) [.int .i64 A.kind, .int .i64 A.time, .int .i64 A.node, .bool A.dead, .string ⟨A.text.toArray⟩, vp, vm, .int .u64 (A.flags.toNat : Int)] (by kernel_rfl) (wanted_some 2 14 false (by kernel_rfl) (by kernel_rfl) (by kernel_rfl) (by kernel_rfl)) (knows_old 1 (.pointer (some ⟨g, 0, none⟩)) (by kernel_rfl) e1) size_va agg_va hc, ?_⟩
  refine ⟨isVal (.bool true), step_invoke "ouroboros/value.inRange" (.tmp 15) (.iface 162 (.agg #[])) 177 #[.tmp 16] #[46] #[.agg #[.int .i64 A.kind, .int .i64 A.time, .int .i64 A.node, .bool A.dead, .string ⟨A.text.toArray⟩, vp, vm, .int .u64 (A.flags.toNat : Int)]] #[.agg #[], .agg #[.int .i64 A.kind, .int .i64 A.time, .int .i64 A.node, .bool A.dead, .string ⟨A.text.toArray⟩, vp, vm, .int .u64 (A.flags.toNat : Int)]] (by kernel_rfl) (wanted_some 2 14 false (by kernel_rfl) (by kernel_rfl) (by kernel_rfl) (by kernel_rfl)) (stable_val _) (args1 (.tmp 16) (.agg #[.int .i64 A.kind, .int .i64 A.time, .int .i64 A.node, .bool A.dead, .string ⟨A.text.toArray⟩, vp, vm, .int .u64 (A.flags.toNat : Int)]) (knows_new (V := isVal (.agg #[.int .i64 A.kind, .int .i64 A.time, .int .i64 A.node, .bool A.dead, .string ⟨A.text.toArray⟩, vp, vm, .int .u64 (A.flags.toNat : Int)])) 16 4 (by kernel_rfl) (by kernel_rfl) (by kernel_rfl))) (knows_new (V := isVal (.iface 162 (.agg #[]))) 15 3 (by kernel_rfl) (by kernel_rfl) (by kernel_rfl)) (fun w => by kernel_rfl) (by intro w hb; exact call_regIn A true _ w (va_grow hX hb) hF hI), ?_⟩
  refine ⟨isVal (.bool false), step_un .not 4 (.tmp 17) (.bool true) (.bool false) (by kernel_rfl) (wanted_some 2 14 false (by kernel_rfl) (by kernel_rfl) (by kernel_rfl) (by kernel_rfl)) (knows_new (V := isVal (.bool true)) 17 5 (by kernel_rfl) (by kernel_rfl) (by kernel_rfl)) (fun _ => rfl), ?_⟩
  refine ⟨isVal (.bool false), step_pick (.tmp 14) (.const (.bool true)) (.tmp 18) false (by kernel_rfl) (wanted_none (by kernel_rfl)) (stable_val _) (knows_new (V := isVal (.bool false)) 14 2 (by kernel_rfl) (by kernel_rfl) (by kernel_rfl)) (knows_new (V := isVal (.bool false)) 18 6 (by kernel_rfl) (by kernel_rfl) (by kernel_rfl)), ?_⟩
  refine ⟨isVal (.bool false), step_move (.tmp 19) (by kernel_rfl) (wanted_none (by kernel_rfl)) (stable_val _) (knows_new (V := isVal (.bool false)) 19 7 (by kernel_rfl) (by kernel_rfl) (by kernel_rfl)), ?_⟩
  refine ⟨isVal (.agg #[.int .i64 A.kind, .int .i64 A.time, .int .i64 A.node, .bool A.dead, .string ⟨A.text.toArray⟩, vp, vm, .int .u64 (A.flags.toNat : Int)]), step_loadN 46 (.tmp 1) (g) [.int .i64 A.kind, .int .i64 A.time, .int .i64 A.node, .bool A.dead, .string ⟨A.text.toArray⟩, vp, vm, .int .u64 (A.flags.toNat : Int)] (by kernel_rfl) (wanted_some 8 20 false (by kernel_rfl) (by kernel_rfl) (by kernel_rfl) (by kernel_rfl)) (knows_old 1 (.pointer (some ⟨g, 0, none⟩)) (by kernel_rfl) e1) size_va agg_va hc, ?_⟩
  refine ⟨isVal (.iface 162 (.agg #[])), step_move (.tmp 4) (by kernel_rfl) (wanted_some 8 20 false (by kernel_rfl) (by kernel_rfl) (by kernel_rfl) (by kernel_rfl)) (stable_val _) (knows_old 4 (.iface 162 (.agg #[])) (by kernel_rfl) e4), ?_⟩
  refine ⟨isVal (.agg #[.int .i64 A.kind, .int .i64 A.time, .int .i64 A.node, .bool A.dead, .string ⟨A.text.toArray⟩, vp, vm, .int .u64 (A.flags.toNat : Int)]), step_loadN 46 (.tmp 1) (g) [.int .i64 A.kind, .int .i64 A.time, .int .i64 A.node, .bool A.dead, .string ⟨A.text.toArray⟩, vp, vm, .int .u64 (A.flags.toNat : Int)] (by kernel_rfl) (wanted_some 8 20 false (by kernel_rfl) (by kernel_rfl) (by kernel_rfl) (by kernel_rfl)) (knows_old 1 (.pointer (some ⟨g, 0, none⟩)) (by kernel_rfl) e1) size_va agg_va hc, ?_⟩
  refine ⟨(isVa (onlyReg A)), step_invoke "ouroboros/value.only" (.tmp 22) (.iface 162 (.agg #[])) 180 #[.tmp 23] #[46] #[.agg #[.int .i64 A.kind, .int .i64 A.time, .int .i64 A.node, .bool A.dead, .string ⟨A.text.toArray⟩, vp, vm, .int .u64 (A.flags.toNat : Int)]] #[.agg #[], .agg #[.int .i64 A.kind, .int .i64 A.time, .int .i64 A.node, .bool A.dead, .string ⟨A.text.toArray⟩, vp, vm, .int .u64 (A.flags.toNat : Int)]] (by kernel_rfl) (wanted_some 8 20 false (by kernel_rfl) (by kernel_rfl) (by kernel_rfl) (by kernel_rfl)) (stable_va _) (args1 (.tmp 23) (.agg #[.int .i64 A.kind, .int .i64 A.time, .int .i64 A.node, .bool A.dead, .string ⟨A.text.toArray⟩, vp, vm, .int .u64 (A.flags.toNat : Int)]) (knows_new (V := isVal (.agg #[.int .i64 A.kind, .int .i64 A.time, .int .i64 A.node, .bool A.dead, .string ⟨A.text.toArray⟩, vp, vm, .int .u64 (A.flags.toNat : Int)])) 23 11 (by kernel_rfl) (by kernel_rfl) (by kernel_rfl))) (knows_new (V := isVal (.iface 162 (.agg #[]))) 22 10 (by kernel_rfl) (by kernel_rfl) (by kernel_rfl)) (fun w => by kernel_rfl) (by intro w hb; exact call_regOnly A _ w (va_grow hX hb) hF), ?_⟩
  refine ⟨isVal (.bool (decide (A = onlyReg A))), step_callP 117 #[.tmp 21, .tmp 24] #[46, 46] (by kernel_rfl) (wanted_some 8 20 false (by kernel_rfl) (by kernel_rfl) (by kernel_rfl) (by kernel_rfl)) (stable_val _) (enters_of Tryz.func117 (by kernel_rfl) rfl) (fun vs w => ∃ u v, vs = #[u, v] ∧ isVal (.agg #[.int .i64 A.kind, .int .i64 A.time, .int .i64 A.node, .bool A.dead, .string ⟨A.text.toArray⟩, vp, vm, .int .u64 (A.flags.toNat : Int)]) u w ∧ isVa (onlyReg A) v w) (pre2 (knows_new (V := isVal (.agg #[.int .i64 A.kind, .int .i64 A.time, .int .i64 A.node, .bool A.dead, .string ⟨A.text.toArray⟩, vp, vm, .int .u64 (A.flags.toNat : Int)])) 21 9 (by kernel_rfl) (by kernel_rfl) (by kernel_rfl)) (knows_new (V := (isVa (onlyReg A))) 24 12 (by kernel_rfl) (by kernel_rfl) (by kernel_rfl))) (by rintro vs w hb ⟨u, v, rfl, rfl, hv⟩; exact call_same A (onlyReg A) _ v w (va_grow hX hb) hv hF (same_self A hF).1 (same_self A hF).2.1), ?_⟩
  refine ⟨isVal (.bool (!decide (A = onlyReg A))), step_un .not 4 (.tmp 25) (.bool (decide (A = onlyReg A))) (.bool (!decide (A = onlyReg A))) (by kernel_rfl) (wanted_some 8 20 false (by kernel_rfl) (by kernel_rfl) (by kernel_rfl) (by kernel_rfl)) (knows_new (V := isVal (.bool (decide (A = onlyReg A)))) 25 13 (by kernel_rfl) (by kernel_rfl) (by kernel_rfl)) (fun _ => rfl), ?_⟩
  refine ⟨isVal (.bool (!decide (A = onlyReg A))), step_pick (.tmp 20) (.const (.bool true)) (.tmp 26) false (by kernel_rfl) (wanted_none (by kernel_rfl)) (stable_val _) (knows_new (V := isVal (.bool false)) 20 8 (by kernel_rfl) (by kernel_rfl) (by kernel_rfl)) (knows_new (V := isVal (.bool (!decide (A = onlyReg A)))) 26 14 (by kernel_rfl) (by kernel_rfl) (by kernel_rfl)), ?_⟩
  intro a w hkp hb hd
  rw [kept_of hkp [some 12, some 13, some 14, some 15, some 16, some 17, some 18, some 19, some 20, some 21, some 22, some 23, some 24, some 25, some 26, some 27] [12, 13, 14, 15, 16, 17, 18, 19, 20, 21, 22, 23, 24, 25, 26, 27] (by kernel_rfl) (by decide)]
  have d27 := fdone_of (hd 15 (by rw [show kv_reg1Ops.size = 16 by kernel_rfl]; decide)) (t := 27) (V := isVal (.bool (!decide (A = onlyReg A)))) (by kernel_rfl) (by kernel_rfl)
  exact hQ (fun s => a.tmps.getD s undef) w d27 hb
set_option maxRecDepth 20000 in
set_option maxHeartbeats 1000000 in
theorem kv_reg1_any (A : Va) (v : Value) (w : World) (hv : isVa A v w) (hF : Fit A) (hk : A.kind = 1) (hI : inReg A = true) (z : Bool) (hz : decide (A = onlyReg A) = z) :
    Calls Tryz.prog 106 #[v] w fun e w' => e = .returned (.tuple #[ifaceK (if z = true then 1 else 0), .bool z]) ∧ Below w.heap.size w w' := by
  obtain ⟨vp, vm, rfl, hp, hm⟩ := hv
  obtain ⟨hB, hV⟩ := vbox w A vp vm hp hm w.heap.size rfl
  have hX := Kept.mk (show isVa A (.agg #[.int .i64 A.kind, .int .i64 A.time, .int .i64 A.node, .bool A.dead, .string ⟨A.text.toArray⟩, vp, vm, .int .u64 (A.flags.toNat : Int)]) (w.alloc (.cells #[.int .i64 A.kind, .int .i64 A.time, .int .i64 A.node, .bool A.dead, .string ⟨A.text.toArray⟩, vp, vm, .int .u64 (A.flags.toNat : Int)] 46)) from ⟨vp, vm, rfl, stable_cells _ _ _ _ hp hB.out, stable_cells _ _ _ _ hm hB.out⟩)
  have HC := Kept.mk (cellsN_at w 46 [.int .i64 A.kind, .int .i64 A.time, .int .i64 A.node, .bool A.dead, .string ⟨A.text.toArray⟩, vp, vm, .int .u64 (A.flags.toNat : Int)] w.heap.size rfl)
  have HK := Kept.mk (show kOf A.kind = 1 by rw [hk]; rfl)
  have HK2 := Kept.mk hk
  clear hp hm hV hk
  have HZ := Kept.mk hz
  clear hz
  have HI := Kept.mk hI
  clear hI
  go_enter Tryz.func106, Tryz.ntmps106
  go_wp2_with fail
  refine (kindOf_any A.kind _).mono ?_; rintro e w' ⟨rfl, rfl⟩
  rewrite [HK.out]
  go_wp2_with fail
  refine kv_reg1_region _ _ _ rfl A w.heap.size vp vm rfl rfl rfl HC.out hX.out hF HI.out ?_
  intro f9 W9 d27 hb9
  simp only [List.foldl_cons, List.foldl_nil, d27]
  generalize f9 12 = y12
  generalize f9 13 = y13
  generalize f9 14 = y14
  generalize f9 15 = y15
  generalize f9 16 = y16
  generalize f9 17 = y17
  generalize f9 18 = y18
  generalize f9 19 = y19
  generalize f9 20 = y20
  generalize f9 21 = y21
  generalize f9 22 = y22
  generalize f9 23 = y23
  generalize f9 24 = y24
  generalize f9 25 = y25
  generalize f9 26 = y26
  clear d27
  simp only [List.setIfInBounds_toArray, List.set_cons_succ, List.set_cons_zero]
  replace hB := Kept.mk (hB.out.trans (hb9.mono hB.out.size))
  clear hb9 hX HC
  rw [HZ.out]
  cases z
  · go_wp2
    go_ret2
    exact ⟨rfl, hB.out⟩
  · go_wp2
    go_ret2
    exact ⟨rfl, hB.out⟩
noncomputable def kv_count0Ops : Array Oper := regionOf Tryz.f106 2
set_option maxRecDepth 100000 in
set_option maxHeartbeats 2000000 in
theorem kv_count0_region (Q : Exit → Act → World → Prop) (a0 : Act) (w0 : World) (hsz : a0.tmps.size = 29) (A : Va) (g : Nat) (vp vm : Value) (e1 : a0.tmps.getD 1 undef = .pointer (some ⟨g, 0, none⟩)) (e4 : a0.tmps.getD 4 undef = (.iface 163 (.agg #[]))) (e5 : a0.tmps.getD 5 undef = .bool true) (hc : CellsN w0 g [.int .i64 A.kind, .int .i64 A.time, .int .i64 A.node, .bool A.dead, .string ⟨A.text.toArray⟩, vp, vm, .int .u64 (A.flags.toNat : Int)]) (hX : isVa A (.agg #[.int .i64 A.kind, .int .i64 A.time, .int .i64 A.node, .bool A.dead, .string ⟨A.text.toArray⟩, vp, vm, .int .u64 (A.flags.toNat : Int)]) w0) (hF : Fit A) (hI : inCount A = false)
    (hQ : ∀ (g : Nat → Value) (w : World), g 27 = .bool true → Below w0.heap.size w0 w → Q .normal { tmps := [12, 13, 14, 15, 16, 17, 18, 19, 20, 21, 22, 23, 24, 25, 26, 27].foldl (fun t s => t.setIfInBounds s (g s)) a0.tmps, defers := a0.defers } w) :
    (Code.region 2 kv_count0Ops true).wp Tryz.prog Q a0 w0 := by
  refine wp_region_flow mixed (by rw [hsz]; kernel_rfl) ?_
  rw [show kv_count0Ops.size = 16 by kernel_rfl]
  refine ⟨isVal (.bool true), step_move (.tmp 5) (by kernel_rfl) (wanted_none (by kernel_rfl)) (stable_val _) (knows_old 5 (.bool true) (by kernel_rfl) e5), ?_⟩
  refine ⟨isVal (.bool false), step_un .not 4 (.tmp 12) (.bool true) (.bool false) (by kernel_rfl) (wanted_none (by kernel_rfl)) (knows_new (V := isVal (.bool true)) 12 0 (by kernel_rfl) (by kernel_rfl) (by kernel_rfl)) (fun _ => rfl), ?_⟩
  refine ⟨isVal (.bool false), step_move (.tmp 13) (by kernel_rfl) (wanted_none (by kernel_rfl)) (stable_val _) (knows_new (V := isVal (.bool false)) 13 1 (by kernel_rfl) (by kernel_rfl) (by kernel_rfl)), ?_⟩
  refine ⟨isVal (.iface 163 (.agg #[])), step_move (.tmp 4) (by kernel_rfl) (wanted_some 2 14 false (by kernel_rfl) (by kernel_rfl) (by kernel_rfl) (by kernel_rfl)) (stable_val _) (knows_old 4 (.iface 163 (.agg #[])) (by kernel_rfl) e4), ?_⟩
  refine ⟨isVal (.agg #[.int .i64 A.kind, .int .i64 A.time, .int .i64 A.node, .bool A.dead, .string ⟨A.text.toArray⟩, vp, vm, .int .u64 (A.flags.toNat : Int)]), step_loadN 46 (.tmp 1) (g) [.int .i64 A.kind, .int .i64 A.time, .int .i64 A.node, .bool A.dead, .string ⟨A.text.toArray⟩, vp, vm, .int .u64 (A.flags.toNat : Int)] (by kernel_rfl) (wanted_some 2 14 false (by kernel_rfl) (by kernel_rfl) (by kernel_rfl) (by kernel_rfl)) (knows_old 1 (.pointer (some ⟨g, 0, none⟩)) (by kernel_rfl) e1) size_va agg_va hc, ?_⟩
  refine ⟨isVal (.bool false), step_invoke "ouroboros/value.inRange" (.tmp 15) (.iface 163 (.agg #[])) 189 #[.tmp 16] #[46] #[.agg #[.int .i64 A.kind, .int .i64 A.time, .int .i64 A.node, .bool A.dead, .string ⟨A.text.toArray⟩, vp, vm, .int .u64 (A.flags.toNat : Int)]] #[.agg #[], .agg #[.int .i64 A.kind, .int .i64 A.time, .int .i64 A.node, .bool A.dead, .string ⟨A.text.toArray⟩, vp, vm, .int .u64 (A.flags.toNat : Int)]] (by kernel_rfl) (wanted_some 2 14 false (by kernel_rfl) (by kernel_rfl) (by kernel_rfl) (by kernel_rfl)) (stable_val _) (args1 (.tmp 16) (.agg #[.int .i64 A.kind, .int .i64 A.time, .int .i64 A.node, .bool A.dead, .string ⟨A.text.toArray⟩, vp, vm, .int .u64 (A.flags.toNat : Int)]) (knows_new (V := isVal (.agg #[.int .i64 A.kind, .int .i64 A.time, .int .i64 A.node, .bool A.dead, .string ⟨A.text.toArray⟩, vp, vm, .int .u64 (A.flags.toNat : Int)])) 16 4 (by kernel_rfl) (by kernel_rfl) (by kernel_rfl))) (knows_new (V := isVal (.iface 163 (.agg #[]))) 15 3 (by kernel_rfl) (by kernel_rfl) (by kernel_rfl)) (fun w => by kernel_rfl) (by intro w hb; exact call_countIn A false _ w (va_grow hX hb) hF hI), ?_⟩
  refine ⟨isVal (.bool true), step_un .not 4 (.tmp 17) (.bool false) (.bool true) (by kernel_rfl) (wanted_some 2 14 false (by kernel_rfl) (by kernel_rfl) (by kernel_rfl) (by kernel_rfl)) (knows_new (V := isVal (.bool false)) 17 5 (by kernel_rfl) (by kernel_rfl) (by kernel_rfl)) (fun _ => rfl), ?_⟩
  refine ⟨isVal (.bool true), step_pick (.tmp 14) (.const (.bool true)) (.tmp 18) false (by kernel_rfl) (wanted_none (by kernel_rfl)) (stable_val _) (knows_new (V := isVal (.bool false)) 14 2 (by kernel_rfl) (by kernel_rfl) (by kernel_rfl)) (knows_new (V := isVal (.bool true)) 18 6 (by kernel_rfl) (by kernel_rfl) (by kernel_rfl)), ?_⟩
  refine ⟨isVal (.bool true), step_move (.tmp 19) (by kernel_rfl) (wanted_none (by kernel_rfl)) (stable_val _) (knows_new (V := isVal (.bool true)) 19 7 (by kernel_rfl) (by kernel_rfl) (by kernel_rfl)), ?_⟩
  refine ⟨_, step_skip 8 20 false true (by kernel_rfl) (by kernel_rfl) (by kernel_rfl) (by kernel_rfl) rfl, ?_⟩
  refine ⟨_, step_skip 8 20 false true (by kernel_rfl) (by kernel_rfl) (by kernel_rfl) (by kernel_rfl) rfl, ?_⟩
  refine ⟨_, step_skip 8 20 false true (by kernel_rfl) (by kernel_rfl) (by kernel_rfl) (by kernel_rfl) rfl, ?_⟩
  refine ⟨_, step_skip 8 20 false true (by kernel_rfl) (by kernel_rfl) (by kernel_rfl) (by kernel_rfl) rfl, ?_⟩
  refine ⟨_, step_skip 8 20 false true (by kernel_rfl) (by kernel_rfl) (by kernel_rfl) (by kernel_rfl) rfl, ?_⟩
  refine ⟨_, step_skip 8 20 false true (by kernel_rfl) (by kernel_rfl) (by kernel_rfl) (by kernel_rfl) rfl, ?_⟩
  refine ⟨isVal (.bool true), step_pick (.tmp 20) (.const (.bool true)) (.tmp 26) true (by kernel_rfl) (wanted_none (by kernel_rfl)) (stable_val _) (knows_new (V := isVal (.bool true)) 20 8 (by kernel_rfl) (by kernel_rfl) (by kernel_rfl)) (knows_const _), ?_⟩
  intro a w hkp hb hd
  rw [kept_of hkp [some 12, some 13, some 14, some 15, some 16, some 17, some 18, some 19, some 20, some 21, some 22, some 23, some 24, some 25, some 26, some 27] [12, 13, 14, 15, 16, 17, 18, 19, 20, 21, 22, 23, 24, 25, 26, 27] (by kernel_rfl) (by decide)]
  have d27 := fdone_of (hd 15 (by rw [show kv_count0Ops.size = 16 by kernel_rfl]; decide)) (t := 27) (V := isVal (.bool true)) (by kernel_rfl) (by kernel_rfl)
  exact hQ (fun s => a.tmps.getD s undef) w d27 hb
set_option maxRecDepth 20000 in
set_option maxHeartbeats 1000000 in
theorem kv_count0_any (A : Va) (v : Value) (w : World) (hv : isVa A v w) (hF : Fit A) (hk : A.kind = 2) (hI : inCount A = false) :
    Calls Tryz.prog 106 #[v] w fun e w' => e = .returned (.tuple #[ifaceK 0, .bool false]) ∧ Below w.heap.size w w' := by
  obtain ⟨vp, vm, rfl, hp, hm⟩ := hv
  obtain ⟨hB, hV⟩ := vbox w A vp vm hp hm w.heap.size rfl
  have hX := Kept.mk (show isVa A (.agg #[.int .i64 A.kind, .int .i64 A.time, .int .i64 A.node, .bool A.dead, .string ⟨A.text.toArray⟩, vp, vm, .int .u64 (A.flags.toNat : Int)]) (w.alloc (.cells #[.int .i64 A.kind, .int .i64 A.time, .int .i64 A.node, .bool A.dead, .string ⟨A.text.toArray⟩, vp, vm, .int .u64 (A.flags.toNat : Int)] 46)) from ⟨vp, vm, rfl, stable_cells _ _ _ _ hp hB.out, stable_cells _ _ _ _ hm hB.out⟩)
  have HC := Kept.mk (cellsN_at w 46 [.int .i64 A.kind, .int .i64 A.time, .int .i64 A.node, .bool A.dead, .string ⟨A.text.toArray⟩, vp, vm, .int .u64 (A.flags.toNat : Int)] w.heap.size rfl)
  have HK := Kept.mk (show kOf A.kind = 2 by rw [hk]; rfl)
  have HK2 := Kept.mk hk
  clear hp hm hV hk
  have HI := Kept.mk hI
  clear hI
  go_enter Tryz.func106, Tryz.ntmps106
  go_wp2_with fail
  refine (kindOf_any A.kind _).mono ?_; rintro e w' ⟨rfl, rfl⟩
  rewrite [HK.out]
  go_wp2_with fail
  refine kv_count0_region _ _ _ rfl A w.heap.size vp vm rfl rfl rfl HC.out hX.out hF HI.out ?_
  intro f9 W9 d27 hb9
  simp only [List.foldl_cons, List.foldl_nil, d27]
  generalize f9 12 = y12
  generalize f9 13 = y13
  generalize f9 14 = y14
  generalize f9 15 = y15
  generalize f9 16 = y16
  generalize f9 17 = y17
  generalize f9 18 = y18
  generalize f9 19 = y19
  generalize f9 20 = y20
  generalize f9 21 = y21
  generalize f9 22 = y22
  generalize f9 23 = y23
  generalize f9 24 = y24
  generalize f9 25 = y25
  generalize f9 26 = y26
  clear d27
  simp only [List.setIfInBounds_toArray, List.set_cons_succ, List.set_cons_zero]
  replace hB := Kept.mk (hB.out.trans (hb9.mono hB.out.size))
  clear hb9 hX HC
  go_wp2
  go_ret2
  exact ⟨rfl, hB.out⟩
noncomputable def kv_count1Ops : Array Oper := regionOf Tryz.f106 2
set_option maxRecDepth 100000 in
set_option maxHeartbeats 2000000 in
theorem kv_count1_region (Q : Exit → Act → World → Prop) (a0 : Act) (w0 : World) (hsz : a0.tmps.size = 29) (A : Va) (g : Nat) (vp vm : Value) (e1 : a0.tmps.getD 1 undef = .pointer (some ⟨g, 0, none⟩)) (e4 : a0.tmps.getD 4 undef = (.iface 163 (.agg #[]))) (e5 : a0.tmps.getD 5 undef = .bool true) (hc : CellsN w0 g [.int .i64 A.kind, .int .i64 A.time, .int .i64 A.node, .bool A.dead, .string ⟨A.text.toArray⟩, vp, vm, .int .u64 (A.flags.toNat : Int)]) (hX : isVa A (.agg #[.int .i64 A.kind, .int .i64 A.time, .int .i64 A.node, .bool A.dead, .string ⟨A.text.toArray⟩, vp, vm, .int .u64 (A.flags.toNat : Int)]) w0) (hF : Fit A) (hI : inCount A = true)
    (hQ : ∀ (g : Nat → Value) (w : World), g 27 = .bool (!decide (A = onlyCount A)) → Below w0.heap.size w0 w → Q .normal { tmps := [12, 13, 14, 15, 16, 17, 18, 19, 20, 21, 22, 23, 24, 25, 26, 27].foldl (fun t s => t.setIfInBounds s (g s)) a0.tmps, defers := a0.defers } w) :
    (Code.region 2 kv_count1Ops true).wp Tryz.prog Q a0 w0 := by
  refine wp_region_flow mixed (by rw [hsz]; kernel_rfl) ?_
  rw [show kv_count1Ops.size = 16 by kernel_rfl]
  refine ⟨isVal (.bool true), step_move (.tmp 5) (by kernel_rfl) (wanted_none (by kernel_rfl)) (stable_val _) (knows_old 5 (.bool true) (by kernel_rfl) e5), ?_⟩
  refine ⟨isVal (.bool false), step_un .not 4 (.tmp 12) (.bool true) (.bool false) (by kernel_rfl) (wanted_none (by kernel_rfl)) (knows_new (V := isVal (.bool true)) 12 0 (by kernel_rfl) (by kernel_rfl) (by kernel_rfl)) (fun _ => rfl), ?_⟩
  refine ⟨isVal (.bool false), step_move (.tmp 13) (by kernel_rfl) (wanted_none (by kernel_rfl)) (stable_val _) (knows_new (V := isVal (.bool false)) 13 1 (by kernel_rfl) (by kernel_rfl) (by kernel_rfl)), ?_⟩
  refine ⟨isVal (.iface 163 (.agg #[])), step_move (.tmp 4) (by kernel_rfl) (wanted_some 2 14 false (by kernel_rfl) (by kernel_rfl) (by kernel_rfl) (by kernel_rfl)) (stable_val _) (knows_old 4 (.iface 163 (.agg #[])) (by kernel_rfl) e4), ?_⟩
  refine ⟨isVal (.agg #[.int .i64 A.kind, .int .i64 A.time, .int .i64 A.node, .bool A.dead, .string ⟨A.text.toArray⟩, vp, vm, .int .u64 (A.flags.toNat : Int)]), step_loadN 46 (.tmp 1) (g) [.int .i64 A.kind, .int .i64 A.time, .int .i64 A.node, .bool A.dead, .string ⟨A.text.toArray⟩, vp, vm, .int .u64 (A.flags.toNat : Int)] (by kernel_rfl) (wanted_some 2 14 false (by kernel_rfl) (by kernel_rfl) (by kernel_rfl) (by kernel_rfl)) (knows_old 1 (.pointer (some ⟨g, 0, none⟩)) (by kernel_rfl) e1) size_va agg_va hc, ?_⟩
  refine ⟨isVal (.bool true), step_invoke "ouroboros/value.inRange" (.tmp 15) (.iface 163 (.agg #[])) 189 #[.tmp 16] #[46] #[.agg #[.int .i64 A.kind, .int .i64 A.time, .int .i64 A.node, .bool A.dead, .string ⟨A.text.toArray⟩, vp, vm, .int .u64 (A.flags.toNat : Int)]] #[.agg #[], .agg #[.int .i64 A.kind, .int .i64 A.time, .int .i64 A.node, .bool A.dead, .string ⟨A.text.toArray⟩, vp, vm, .int .u64 (A.flags.toNat : Int)]] (by kernel_rfl) (wanted_some 2 14 false (by kernel_rfl) (by kernel_rfl) (by kernel_rfl) (by kernel_rfl)) (stable_val _) (args1 (.tmp 16) (.agg #[.int .i64 A.kind, .int .i64 A.time, .int .i64 A.node, .bool A.dead, .string ⟨A.text.toArray⟩, vp, vm, .int .u64 (A.flags.toNat : Int)]) (knows_new (V := isVal (.agg #[.int .i64 A.kind, .int .i64 A.time, .int .i64 A.node, .bool A.dead, .string ⟨A.text.toArray⟩, vp, vm, .int .u64 (A.flags.toNat : Int)])) 16 4 (by kernel_rfl) (by kernel_rfl) (by kernel_rfl))) (knows_new (V := isVal (.iface 163 (.agg #[]))) 15 3 (by kernel_rfl) (by kernel_rfl) (by kernel_rfl)) (fun w => by kernel_rfl) (by intro w hb; exact call_countIn A true _ w (va_grow hX hb) hF hI), ?_⟩
  refine ⟨isVal (.bool false), step_un .not 4 (.tmp 17) (.bool true) (.bool false) (by kernel_rfl) (wanted_some 2 14 false (by kernel_rfl) (by kernel_rfl) (by kernel_rfl) (by kernel_rfl)) (knows_new (V := isVal (.bool true)) 17 5 (by kernel_rfl) (by kernel_rfl) (by kernel_rfl)) (fun _ => rfl), ?_⟩
  refine ⟨isVal (.bool false), step_pick (.tmp 14) (.const (.bool true)) (.tmp 18) false (by kernel_rfl) (wanted_none (by kernel_rfl)) (stable_val _) (knows_new (V := isVal (.bool false)) 14 2 (by kernel_rfl) (by kernel_rfl) (by kernel_rfl)) (knows_new (V := isVal (.bool false)) 18 6 (by kernel_rfl) (by kernel_rfl) (by kernel_rfl)), ?_⟩
  refine ⟨isVal (.bool false), step_move (.tmp 19) (by kernel_rfl) (wanted_none (by kernel_rfl)) (stable_val _) (knows_new (V := isVal (.bool false)) 19 7 (by kernel_rfl) (by kernel_rfl) (by kernel_rfl)), ?_⟩
  refine ⟨isVal (.agg #[.int .i64 A.kind, .int .i64 A.time, .int .i64 A.node, .bool A.dead, .string ⟨A.text.toArray⟩, vp, vm, .int .u64 (A.flags.toNat : Int)]), step_loadN 46 (.tmp 1) (g) [.int .i64 A.kind, .int .i64 A.time, .int .i64 A.node, .bool A.dead, .string ⟨A.text.toArray⟩, vp, vm, .int .u64 (A.flags.toNat : Int)] (by kernel_rfl) (wanted_some 8 20 false (by kernel_rfl) (by kernel_rfl) (by kernel_rfl) (by kernel_rfl)) (knows_old 1 (.pointer (some ⟨g, 0, none⟩)) (by kernel_rfl) e1) size_va agg_va hc, ?_⟩
  refine ⟨isVal (.iface 163 (.agg #[])), step_move (.tmp 4) (by kernel_rfl) (wanted_some 8 20 false (by kernel_rfl) (by kernel_rfl) (by kernel_rfl) (by kernel_rfl)) (stable_val _) (knows_old 4 (.iface 163 (.agg #[])) (by kernel_rfl) e4), ?_⟩
  refine ⟨isVal (.agg #[.int .i64 A.kind, .int .i64 A.time, .int .i64 A.node, .bool A.dead, .string ⟨A.text.toArray⟩, vp, vm, .int .u64 (A.flags.toNat : Int)]), step_loadN 46 (.tmp 1) (g) [.int .i64 A.kind, .int .i64 A.time, .int .i64 A.node, .bool A.dead, .string ⟨A.text.toArray⟩, vp, vm, .int .u64 (A.flags.toNat : Int)] (by kernel_rfl) (wanted_some 8 20 false (by kernel_rfl) (by kernel_rfl) (by kernel_rfl) (by kernel_rfl)) (knows_old 1 (.pointer (some ⟨g, 0, none⟩)) (by kernel_rfl) e1) size_va agg_va hc, ?_⟩
  refine ⟨(isVa (onlyCount A)), step_invoke "ouroboros/value.only" (.tmp 22) (.iface 163 (.agg #[])) 192 #[.tmp 23] #[46] #[.agg #[.int .i64 A.kind, .int .i64 A.time, .int .i64 A.node, .bool A.dead, .string ⟨A.text.toArray⟩, vp, vm, .int .u64 (A.flags.toNat : Int)]] #[.agg #[], .agg #[.int .i64 A.kind, .int .i64 A.time, .int .i64 A.node, .bool A.dead, .string ⟨A.text.toArray⟩, vp, vm, .int .u64 (A.flags.toNat : Int)]] (by kernel_rfl) (wanted_some 8 20 false (by kernel_rfl) (by kernel_rfl) (by kernel_rfl) (by kernel_rfl)) (stable_va _) (args1 (.tmp 23) (.agg #[.int .i64 A.kind, .int .i64 A.time, .int .i64 A.node, .bool A.dead, .string ⟨A.text.toArray⟩, vp, vm, .int .u64 (A.flags.toNat : Int)]) (knows_new (V := isVal (.agg #[.int .i64 A.kind, .int .i64 A.time, .int .i64 A.node, .bool A.dead, .string ⟨A.text.toArray⟩, vp, vm, .int .u64 (A.flags.toNat : Int)])) 23 11 (by kernel_rfl) (by kernel_rfl) (by kernel_rfl))) (knows_new (V := isVal (.iface 163 (.agg #[]))) 22 10 (by kernel_rfl) (by kernel_rfl) (by kernel_rfl)) (fun w => by kernel_rfl) (by intro w hb; exact call_countOnly A _ w (va_grow hX hb) hF), ?_⟩
  refine ⟨isVal (.bool (decide (A = onlyCount A))), step_callP 117 #[.tmp 21, .tmp 24] #[46, 46] (by kernel_rfl) (wanted_some 8 20 false (by kernel_rfl) (by kernel_rfl) (by kernel_rfl) (by kernel_rfl)) (stable_val _) (enters_of Tryz.func117 (by kernel_rfl) rfl) (fun vs w => ∃ u v, vs = #[u, v] ∧ isVal (.agg #[.int .i64 A.kind, .int .i64 A.time, .int .i64 A.node, .bool A.dead, .string ⟨A.text.toArray⟩, vp, vm, .int .u64 (A.flags.toNat : Int)]) u w ∧ isVa (onlyCount A) v w) (pre2 (knows_new (V := isVal (.agg #[.int .i64 A.kind, .int .i64 A.time, .int .i64 A.node, .bool A.dead, .string ⟨A.text.toArray⟩, vp, vm, .int .u64 (A.flags.toNat : Int)])) 21 9 (by kernel_rfl) (by kernel_rfl) (by kernel_rfl)) (knows_new (V := (isVa (onlyCount A))) 24 12 (by kernel_rfl) (by kernel_rfl) (by kernel_rfl))) (by rintro vs w hb ⟨u, v, rfl, rfl, hv⟩; exact call_same A (onlyCount A) _ v w (va_grow hX hb) hv hF (same_self A hF).2.2.1 (same_self A hF).2.2.2.1), ?_⟩
  refine ⟨isVal (.bool (!decide (A = onlyCount A))), step_un .not 4 (.tmp 25) (.bool (decide (A = onlyCount A))) (.bool (!decide (A = onlyCount A))) (by kernel_rfl) (wanted_some 8 20 false (by kernel_rfl) (by kernel_rfl) (by kernel_rfl) (by kernel_rfl)) (knows_new (V := isVal (.bool (decide (A = onlyCount A)))) 25 13 (by kernel_rfl) (by kernel_rfl) (by kernel_rfl)) (fun _ => rfl), ?_⟩
  refine ⟨isVal (.bool (!decide (A = onlyCount A))), step_pick (.tmp 20) (.const (.bool true)) (.tmp 26) false (by kernel_rfl) (wanted_none (by kernel_rfl)) (stable_val _) (knows_new (V := isVal (.bool false)) 20 8 (by kernel_rfl) (by kernel_rfl) (by kernel_rfl)) (knows_new (V := isVal (.bool (!decide (A = onlyCount A)))) 26 14 (by kernel_rfl) (by kernel_rfl) (by kernel_rfl)), ?_⟩
  intro a w hkp hb hd
  rw [kept_of hkp [some 12, some 13, some 14, some 15, some 16, some 17, some 18, some 19, some 20, some 21, some 22, some 23, some 24, some 25, some 26, some 27] [12, 13, 14, 15, 16, 17, 18, 19, 20, 21, 22, 23, 24, 25, 26, 27] (by kernel_rfl) (by decide)]
  have d27 := fdone_of (hd 15 (by rw [show kv_count1Ops.size = 16 by kernel_rfl]; decide)) (t := 27) (V := isVal (.bool (!decide (A = onlyCount A)))) (by kernel_rfl) (by kernel_rfl)
  exact hQ (fun s => a.tmps.getD s undef) w d27 hb
set_option maxRecDepth 20000 in
set_option maxHeartbeats 1000000 in
theorem kv_count1_any (A : Va) (v : Value) (w : World) (hv : isVa A v w) (hF : Fit A) (hk : A.kind = 2) (hI : inCount A = true) (z : Bool) (hz : decide (A = onlyCount A) = z) :
    Calls Tryz.prog 106 #[v] w fun e w' => e = .returned (.tuple #[ifaceK (if z = true then 2 else 0), .bool z]) ∧ Below w.heap.size w w' := by
  obtain ⟨vp, vm, rfl, hp, hm⟩ := hv
  obtain ⟨hB, hV⟩ := vbox w A vp vm hp hm w.heap.size rfl
  have hX := Kept.mk (show isVa A (.agg #[.int .i64 A.kind, .int .i64 A.time, .int .i64 A.node, .bool A.dead, .string ⟨A.text.toArray⟩, vp, vm, .int .u64 (A.flags.toNat : Int)]) (w.alloc (.cells #[.int .i64 A.kind, .int .i64 A.time, .int .i64 A.node, .bool A.dead, .string ⟨A.text.toArray⟩, vp, vm, .int .u64 (A.flags.toNat : Int)] 46)) from ⟨vp, vm, rfl, stable_cells _ _ _ _ hp hB.out, stable_cells _ _ _ _ hm hB.out⟩)
  have HC := Kept.mk (cellsN_at w 46 [.int .i64 A.kind, .int .i64 A.time, .int .i64 A.node, .bool A.dead, .string ⟨A.text.toArray⟩, vp, vm, .int .u64 (A.flags.toNat : Int)] w.heap.size rfl)
  have HK := Kept.mk (show kOf A.kind = 2 by rw [hk]; rfl)
  have HK2 := Kept.mk hk
  clear hp hm hV hk
  have HZ := Kept.mk hz
  clear hz
  have HI := Kept.mk hI
  clear hI
  go_enter Tryz.func106, Tryz.ntmps106
  go_wp2_with fail
  refine (kindOf_any A.kind _).mono ?_; rintro e w' ⟨rfl, rfl⟩
  rewrite [HK.out]
  go_wp2_with fail
  refine kv_count1_region _ _ _ rfl A w.heap.size vp vm rfl rfl rfl HC.out hX.out hF HI.out ?_
  intro f9 W9 d27 hb9
  simp only [List.foldl_cons, List.foldl_nil, d27]
  generalize f9 12 = y12
  generalize f9 13 = y13
  generalize f9 14 = y14
  generalize f9 15 = y15
  generalize f9 16 = y16
  generalize f9 17 = y17
  generalize f9 18 = y18
  generalize f9 19 = y19
  generalize f9 20 = y20
  generalize f9 21 = y21
  generalize f9 22 = y22
  generalize f9 23 = y23
  generalize f9 24 = y24
  generalize f9 25 = y25
  generalize f9 26 = y26
  clear d27
  simp only [List.setIfInBounds_toArray, List.set_cons_succ, List.set_cons_zero]
  replace hB := Kept.mk (hB.out.trans (hb9.mono hB.out.size))
  clear hb9 hX HC
  rw [HZ.out]
  cases z
  · go_wp2
    go_ret2
    exact ⟨rfl, hB.out⟩
  · go_wp2
    go_ret2
    exact ⟨rfl, hB.out⟩
noncomputable def kv_flags1Ops : Array Oper := regionOf Tryz.f106 2
set_option maxRecDepth 100000 in
set_option maxHeartbeats 2000000 in
theorem kv_flags1_region (Q : Exit → Act → World → Prop) (a0 : Act) (w0 : World) (hsz : a0.tmps.size = 29) (A : Va) (g : Nat) (vp vm : Value) (e1 : a0.tmps.getD 1 undef = .pointer (some ⟨g, 0, none⟩)) (e4 : a0.tmps.getD 4 undef = (.iface 164 (.agg #[]))) (e5 : a0.tmps.getD 5 undef = .bool true) (hc : CellsN w0 g [.int .i64 A.kind, .int .i64 A.time, .int .i64 A.node, .bool A.dead, .string ⟨A.text.toArray⟩, vp, vm, .int .u64 (A.flags.toNat : Int)]) (hX : isVa A (.agg #[.int .i64 A.kind, .int .i64 A.time, .int .i64 A.node, .bool A.dead, .string ⟨A.text.toArray⟩, vp, vm, .int .u64 (A.flags.toNat : Int)]) w0) (hF : Fit A) (hI : true = true)
    (hQ : ∀ (g : Nat → Value) (w : World), g 27 = .bool (!decide (A = onlyFlags A)) → Below w0.heap.size w0 w → Q .normal { tmps := [12, 13, 14, 15, 16, 17, 18, 19, 20, 21, 22, 23, 24, 25, 26, 27].foldl (fun t s => t.setIfInBounds s (g s)) a0.tmps, defers := a0.defers } w) :
    (Code.region 2 kv_flags1Ops true).wp Tryz.prog Q a0 w0 := by
  refine wp_region_flow mixed (by rw [hsz]; kernel_rfl) ?_
  rw [show kv_flags1Ops.size = 16 by kernel_rfl]
  refine ⟨isVal (.bool true), step_move (.tmp 5) (by kernel_rfl) (wanted_none (by kernel_rfl)) (stable_val _) (knows_old 5 (.bool true) (by kernel_rfl) e5), ?_⟩
  refine ⟨isVal (.bool false), step_un .not 4 (.tmp 12) (.bool true) (.bool false) (by kernel_rfl) (wanted_none (by kernel_rfl)) (knows_new (V := isVal (.bool true)) 12 0 (by kernel_rfl) (by kernel_rfl) (by kernel_rfl)) (fun _ => rfl), ?_⟩
  refine ⟨isVal (.bool false), step_move (.tmp 13) (by kernel_rfl) (wanted_none (by kernel_rfl)) (stable_val _) (knows_new (V := isVal (.bool false)) 13 1 (by kernel_rfl) (by kernel_rfl) (by kernel_rfl)), ?_⟩
  refine ⟨isVal (.iface 164 (.agg #[])), step_move (.tmp 4) (by kernel_rfl) (wanted_some 2 14 false (by kernel_rfl) (by kernel_rfl) (by kernel_rfl) (by kernel_rfl)) (stable_val _) (knows_old 4 (.iface 164 (.agg #[])) (by kernel_rfl) e4), ?_⟩
  refine ⟨isVal (.agg #[.int .i64 A.kind, .int .i64 A.time, .int .i64 A.node, .bool A.dead, .string ⟨A.text.toArray⟩, vp, vm, .int .u64 (A.flags.toNat : Int)]), step_loadN 46 (.tmp 1) (g) [.int .i64 A.kind, .int .i64 A.time, .int .i64 A.node, .bool A.dead, .string ⟨A.text.toArray⟩, vp, vm, .int .u64 (A.flags.toNat : Int)] (by kernel_rfl) (wanted_some 2 14 false (by kernel_rfl) (by kernel_rfl) (by kernel_rfl) (by kernel_rfl)) (knows_old 1 (.pointer (some ⟨g, 0, none⟩)) (by kernel_rfl) e1) size_va agg_va hc, ?_⟩
  refine ⟨isVal (.bool true), step_invoke "ouroboros/value.inRange" (.tmp 15) (.iface 164 (.agg #[])) 201 #[.tmp 16] #[46] #[.agg #[.int .i64 A.kind, .int .i64 A.time, .int .i64 A.node, .bool A.dead, .string ⟨A.text.toArray⟩, vp, vm, .int .u64 (A.flags.toNat : Int)]] #[.agg #[], .agg #[.int .i64 A.kind, .int .i64 A.time, .int .i64 A.node, .bool A.dead, .string ⟨A.text.toArray⟩, vp, vm, .int .u64 (A.flags.toNat : Int)]] (by kernel_rfl) (wanted_some 2 14 false (by kernel_rfl) (by kernel_rfl) (by kernel_rfl) (by kernel_rfl)) (stable_val _) (args1 (.tmp 16) (.agg #[.int .i64 A.kind, .int .i64 A.time, .int .i64 A.node, .bool A.dead, .string ⟨A.text.toArray⟩, vp, vm, .int .u64 (A.flags.toNat : Int)]) (knows_new (V := isVal (.agg #[.int .i64 A.kind, .int .i64 A.time, .int .i64 A.node, .bool A.dead, .string ⟨A.text.toArray⟩, vp, vm, .int .u64 (A.flags.toNat : Int)])) 16 4 (by kernel_rfl) (by kernel_rfl) (by kernel_rfl))) (knows_new (V := isVal (.iface 164 (.agg #[]))) 15 3 (by kernel_rfl) (by kernel_rfl) (by kernel_rfl)) (fun w => by kernel_rfl) (by intro w hb; exact call_flagsIn A true _ w (va_grow hX hb) hF hI), ?_⟩
  refine ⟨isVal (.bool false), step_un .not 4 (.tmp 17) (.bool true) (.bool false) (by kernel_rfl) (wanted_some 2 14 false (by kernel_rfl) (by kernel_rfl) (by kernel_rfl) (by kernel_rfl)) (knows_new (V := isVal (.bool true)) 17 5 (by kernel_rfl) (by kernel_rfl) (by kernel_rfl)) (fun _ => rfl), ?_⟩
  refine ⟨isVal (.bool false), step_pick (.tmp 14) (.const (.bool true)) (.tmp 18) false (by kernel_rfl) (wanted_none (by kernel_rfl)) (stable_val _) (knows_new (V := isVal (.bool false)) 14 2 (by kernel_rfl) (by kernel_rfl) (by kernel_rfl)) (knows_new (V := isVal (.bool false)) 18 6 (by kernel_rfl) (by kernel_rfl) (by kernel_rfl)), ?_⟩
  refine ⟨isVal (.bool false), step_move (.tmp 19) (by kernel_rfl) (wanted_none (by kernel_rfl)) (stable_val _) (knows_new (V := isVal (.bool false)) 19 7 (by kernel_rfl) (by kernel_rfl) (by kernel_rfl)), ?_⟩
  refine ⟨isVal (.agg #[.int .i64 A.kind, .int .i64 A.time, .int .i64 A.node, .bool A.dead, .string ⟨A.text.toArray⟩, vp, vm, .int .u64 (A.flags.toNat : Int)]), step_loadN 46 (.tmp 1) (g) [.int .i64 A.kind, .int .i64 A.time, .int .i64 A.node, .bool A.dead, .string ⟨A.text.toArray⟩, vp, vm, .int .u64 (A.flags.toNat : Int)] (by kernel_rfl) (wanted_some 8 20 false (by kernel_rfl) (by kernel_rfl) (by kernel_rfl) (by kernel_rfl)) (knows_old 1 (.pointer (some ⟨g, 0, none⟩)) (by kernel_rfl) e1) size_va agg_va hc, ?_⟩
  refine ⟨isVal (.iface 164 (.agg #[])), step_move (.tmp 4) (by kernel_rfl) (wanted_some 8 20 false (by kernel_rfl) (by kernel_rfl) (by kernel_rfl) (by kernel_rfl)) (stable_val _) (knows_old 4 (.iface 164 (.agg #[])) (by kernel_rfl) e4), ?_⟩
  refine ⟨isVal (.agg #[.int .i64 A.kind, .int .i64 A.time, .int .i64 A.node, .bool A.dead, .string ⟨A.text.toArray⟩, vp, vm, .int .u64 (A.flags.toNat : Int)]), step_loadN 46 (.tmp 1) (g) [.int .i64 A.kind, .int .i64 A.time, .int .i64 A.node, .bool A.dead, .string ⟨A.text.toArray⟩, vp, vm, .int .u64 (A.flags.toNat : Int)] (by kernel_rfl) (wanted_some 8 20 false (by kernel_rfl) (by kernel_rfl) (by kernel_rfl) (by kernel_rfl)) (knows_old 1 (.pointer (some ⟨g, 0, none⟩)) (by kernel_rfl) e1) size_va agg_va hc, ?_⟩
  refine ⟨(isVa (onlyFlags A)), step_invoke "ouroboros/value.only" (.tmp 22) (.iface 164 (.agg #[])) 204 #[.tmp 23] #[46] #[.agg #[.int .i64 A.kind, .int .i64 A.time, .int .i64 A.node, .bool A.dead, .string ⟨A.text.toArray⟩, vp, vm, .int .u64 (A.flags.toNat : Int)]] #[.agg #[], .agg #[.int .i64 A.kind, .int .i64 A.time, .int .i64 A.node, .bool A.dead, .string ⟨A.text.toArray⟩, vp, vm, .int .u64 (A.flags.toNat : Int)]] (by kernel_rfl) (wanted_some 8 20 false (by kernel_rfl) (by kernel_rfl) (by kernel_rfl) (by kernel_rfl)) (stable_va _) (args1 (.tmp 23) (.agg #[.int .i64 A.kind, .int .i64 A.time, .int .i64 A.node, .bool A.dead, .string ⟨A.text.toArray⟩, vp, vm, .int .u64 (A.flags.toNat : Int)]) (knows_new (V := isVal (.agg #[.int .i64 A.kind, .int .i64 A.time, .int .i64 A.node, .bool A.dead, .string ⟨A.text.toArray⟩, vp, vm, .int .u64 (A.flags.toNat : Int)])) 23 11 (by kernel_rfl) (by kernel_rfl) (by kernel_rfl))) (knows_new (V := isVal (.iface 164 (.agg #[]))) 22 10 (by kernel_rfl) (by kernel_rfl) (by kernel_rfl)) (fun w => by kernel_rfl) (by intro w hb; exact call_flagsOnly A _ w (va_grow hX hb) hF), ?_⟩
  refine ⟨isVal (.bool (decide (A = onlyFlags A))), step_callP 117 #[.tmp 21, .tmp 24] #[46, 46] (by kernel_rfl) (wanted_some 8 20 false (by kernel_rfl) (by kernel_rfl) (by kernel_rfl) (by kernel_rfl)) (stable_val _) (enters_of Tryz.func117 (by kernel_rfl) rfl) (fun vs w => ∃ u v, vs = #[u, v] ∧ isVal (.agg #[.int .i64 A.kind, .int .i64 A.time, .int .i64 A.node, .bool A.dead, .string ⟨A.text.toArray⟩, vp, vm, .int .u64 (A.flags.toNat : Int)]) u w ∧ isVa (onlyFlags A) v w) (pre2 (knows_new (V := isVal (.agg #[.int .i64 A.kind, .int .i64 A.time, .int .i64 A.node, .bool A.dead, .string ⟨A.text.toArray⟩, vp, vm, .int .u64 (A.flags.toNat : Int)])) 21 9 (by kernel_rfl) (by kernel_rfl) (by kernel_rfl)) (knows_new (V := (isVa (onlyFlags A))) 24 12 (by kernel_rfl) (by kernel_rfl) (by kernel_rfl))) (by rintro vs w hb ⟨u, v, rfl, rfl, hv⟩; exact call_same A (onlyFlags A) _ v w (va_grow hX hb) hv hF (same_self A hF).2.2.2.2.1 (same_self A hF).2.2.2.2.2), ?_⟩
  refine ⟨isVal (.bool (!decide (A = onlyFlags A))), step_un .not 4 (.tmp 25) (.bool (decide (A = onlyFlags A))) (.bool (!decide (A = onlyFlags A))) (by kernel_rfl) (wanted_some 8 20 false (by kernel_rfl) (by kernel_rfl) (by kernel_rfl) (by kernel_rfl)) (knows_new (V := isVal (.bool (decide (A = onlyFlags A)))) 25 13 (by kernel_rfl) (by kernel_rfl) (by kernel_rfl)) (fun _ => rfl), ?_⟩
  refine ⟨isVal (.bool (!decide (A = onlyFlags A))), step_pick (.tmp 20) (.const (.bool true)) (.tmp 26) false (by kernel_rfl) (wanted_none (by kernel_rfl)) (stable_val _) (knows_new (V := isVal (.bool false)) 20 8 (by kernel_rfl) (by kernel_rfl) (by kernel_rfl)) (knows_new (V := isVal (.bool (!decide (A = onlyFlags A)))) 26 14 (by kernel_rfl) (by kernel_rfl) (by kernel_rfl)), ?_⟩
  intro a w hkp hb hd
  rw [kept_of hkp [some 12, some 13, some 14, some 15, some 16, some 17, some 18, some 19, some 20, some 21, some 22, some 23, some 24, some 25, some 26, some 27] [12, 13, 14, 15, 16, 17, 18, 19, 20, 21, 22, 23, 24, 25, 26, 27] (by kernel_rfl) (by decide)]
  have d27 := fdone_of (hd 15 (by rw [show kv_flags1Ops.size = 16 by kernel_rfl]; decide)) (t := 27) (V := isVal (.bool (!decide (A = onlyFlags A)))) (by kernel_rfl) (by kernel_rfl)
  exact hQ (fun s => a.tmps.getD s undef) w d27 hb
set_option maxRecDepth 20000 in
set_option maxHeartbeats 1000000 in
theorem kv_flags1_any (A : Va) (v : Value) (w : World) (hv : isVa A v w) (hF : Fit A) (hk : A.kind = 3) (z : Bool) (hz : decide (A = onlyFlags A) = z) :
    Calls Tryz.prog 106 #[v] w fun e w' => e = .returned (.tuple #[ifaceK (if z = true then 3 else 0), .bool z]) ∧ Below w.heap.size w w' := by
  obtain ⟨vp, vm, rfl, hp, hm⟩ := hv
  obtain ⟨hB, hV⟩ := vbox w A vp vm hp hm w.heap.size rfl
  have hX := Kept.mk (show isVa A (.agg #[.int .i64 A.kind, .int .i64 A.time, .int .i64 A.node, .bool A.dead, .string ⟨A.text.toArray⟩, vp, vm, .int .u64 (A.flags.toNat : Int)]) (w.alloc (.cells #[.int .i64 A.kind, .int .i64 A.time, .int .i64 A.node, .bool A.dead, .string ⟨A.text.toArray⟩, vp, vm, .int .u64 (A.flags.toNat : Int)] 46)) from ⟨vp, vm, rfl, stable_cells _ _ _ _ hp hB.out, stable_cells _ _ _ _ hm hB.out⟩)
  have HC := Kept.mk (cellsN_at w 46 [.int .i64 A.kind, .int .i64 A.time, .int .i64 A.node, .bool A.dead, .string ⟨A.text.toArray⟩, vp, vm, .int .u64 (A.flags.toNat : Int)] w.heap.size rfl)
  have HK := Kept.mk (show kOf A.kind = 3 by rw [hk]; rfl)
  have HK2 := Kept.mk hk
  clear hp hm hV hk
  have HZ := Kept.mk hz
  clear hz
  go_enter Tryz.func106, Tryz.ntmps106
  go_wp2_with fail
  refine (kindOf_any A.kind _).mono ?_; rintro e w' ⟨rfl, rfl⟩
  rewrite [HK.out]
  go_wp2_with fail
  refine kv_flags1_region _ _ _ rfl A w.heap.size vp vm rfl rfl rfl HC.out hX.out hF rfl ?_
  intro f9 W9 d27 hb9
  simp only [List.foldl_cons, List.foldl_nil, d27]
  generalize f9 12 = y12
  generalize f9 13 = y13
  generalize f9 14 = y14
  generalize f9 15 = y15
  generalize f9 16 = y16
  generalize f9 17 = y17
  generalize f9 18 = y18
  generalize f9 19 = y19
  generalize f9 20 = y20
  generalize f9 21 = y21
  generalize f9 22 = y22
  generalize f9 23 = y23
  generalize f9 24 = y24
  generalize f9 25 = y25
  generalize f9 26 = y26
  clear d27
  simp only [List.setIfInBounds_toArray, List.set_cons_succ, List.set_cons_zero]
  replace hB := Kept.mk (hB.out.trans (hb9.mono hB.out.size))
  clear hb9 hX HC
  rw [HZ.out]
  cases z
  · go_wp2
    go_ret2
    exact ⟨rfl, hB.out⟩
  · go_wp2
    go_ret2
    exact ⟨rfl, hB.out⟩
end Go.Proofs.YtkjghoomdefbbaaGreatDoor
end
section
namespace Go.Proofs.YtkjghoomdefbbaaGreatDoor
open Go.RowKit
set_option linter.unusedVariables false
set_option linter.unusedSimpArgs false
attribute [local irreducible] setN

theorem kv_any (A : Va) (v : Value) (w : World) (hv : isVa A v w) (hF : Fit A) :
    Calls Tryz.prog 106 #[v] w fun e w' => e = .returned (.tuple #[ifaceK (kindN A), .bool (okV A)]) ∧ Below w.heap.size w w' := by
  unfold okV
  by_cases h1 : A.kind = 1
  · have hk : kindN A = if (inReg A && decide (A = onlyReg A)) = true then 1 else 0 := by unfold kindN; rw [if_pos h1]
    cases hI : inReg A with
    | false => rw [hk, hI]; exact kv_reg0_any A v w hv hF h1 hI
    | true =>
      have := kv_reg1_any A v w hv hF h1 hI _ rfl
      rw [hk, hI, Bool.true_and]
      cases hz : decide (A = onlyReg A) with
      | false => rw [hz] at this; exact this
      | true => rw [hz] at this; exact this
  · by_cases h2 : A.kind = 2
    · have hk : kindN A = if (inCount A && decide (A = onlyCount A)) = true then 2 else 0 := by unfold kindN; rw [if_neg h1, if_pos h2]
      cases hI : inCount A with
      | false => rw [hk, hI]; exact kv_count0_any A v w hv hF h2 hI
      | true =>
        have := kv_count1_any A v w hv hF h2 hI _ rfl
        rw [hk, hI, Bool.true_and]
        cases hz : decide (A = onlyCount A) with
        | false => rw [hz] at this; exact this
        | true => rw [hz] at this; exact this
    · by_cases h3 : A.kind = 3
      · have hk : kindN A = if decide (A = onlyFlags A) = true then 3 else 0 := by unfold kindN; rw [if_neg h1, if_neg h2, if_pos h3]
        have := kv_flags1_any A v w hv hF h3 _ rfl
        rw [hk]
        cases hz : decide (A = onlyFlags A) with
        | false => rw [hz] at this; exact this
        | true => rw [hz] at this; exact this
      · have hk : kindN A = 0 := by unfold kindN; rw [if_neg h1, if_neg h2, if_neg h3]
        rw [hk]
        exact kv_none_any A v w hv hF (by unfold kOf; rw [if_neg h1, if_neg h2, if_neg h3])
def checkV (A : Va) : Int := if okV A = true then 0 else 2
set_option maxRecDepth 20000 in
set_option maxHeartbeats 1000000 in
theorem vcheck_any (A : Va) (v : Value) (w : World) (hv : isVa A v w) (hF : Fit A) :
    Calls Tryz.prog 86 #[v] w fun e w' => e = .returned (.int .i64 (checkV A)) ∧ Below w.heap.size w w' := by
  obtain ⟨vp, vm, rfl, hp, hm⟩ := hv
  obtain ⟨hB, hV⟩ := vbox w A vp vm hp hm w.heap.size rfl
  have hX := Kept.mk (show isVa A (.agg #[.int .i64 A.kind, .int .i64 A.time, .int .i64 A.node, .bool A.dead, .string ⟨A.text.toArray⟩, vp, vm, .int .u64 (A.flags.toNat : Int)]) (w.alloc (.cells #[.int .i64 A.kind, .int .i64 A.time, .int .i64 A.node, .bool A.dead, .string ⟨A.text.toArray⟩, vp, vm, .int .u64 (A.flags.toNat : Int)] 46)) from ⟨vp, vm, rfl, stable_cells _ _ _ _ hp hB.out, stable_cells _ _ _ _ hm hB.out⟩)
  clear hp hm
  have HC := Kept.mk (show checkV A = if okV A = true then 0 else 2 from rfl)
  go_enter Tryz.func86, Tryz.ntmps86
  go_wp2_with fail
  refine (kv_any A _ _ hX.out hF).mono ?_
  rintro e w1 ⟨rfl, hb1⟩
  replace hB := Kept.mk (hB.out.trans (hb1.mono hB.out.size))
  clear hb1 hX hV
  generalize kindN A = kn
  cases hz : okV A with
  | false =>
    rw [hz] at HC
    go_wp2
    go_ret
    exact ⟨by rw [HC.out]; rfl, hB.out⟩
  | true =>
    rw [hz] at HC
    go_wp2
    go_ret
    exact ⟨by rw [HC.out]; rfl, hB.out⟩
end Go.Proofs.YtkjghoomdefbbaaGreatDoor
end
section
namespace Go.Proofs.YtkjghoomdefbbaaGreatDoor
open Go.RowKit
set_option linter.unusedVariables false
set_option linter.unusedSimpArgs false
attribute [local irreducible] setN

theorem kindN_two {A : Va} (h : kindN A = 2) : okV A = true ∧ A.kind = 2 ∧ okRow A.plus = true ∧ okRow A.minus = true := by
  have ho : okV A = true := by unfold okV; rw [h]; rfl
  have hk : A.kind = 2 := by have := kindN_ok ho; rw [h] at this; omega
  have := (ok_count ho hk).1
  unfold inCount at this
  rw [Bool.and_eq_true] at this
  exact ⟨ho, hk, this⟩
set_option maxRecDepth 20000 in
set_option maxHeartbeats 1000000 in
theorem vjoin_no1 (A B : Va) (v u : Value) (w : World) (hv : isVa A v w) (hu : isVa B u w) (hA : Fit A) (hB0 : Fit B) (h : okV A = false) :
    Calls Tryz.prog 116 #[v, u] w fun e w' => ∃ v', e = .returned (.tuple #[v', .int .i64 2]) ∧ isVaN w.heap.size zeroV v' w' ∧ Below w.heap.size w w' := by
  obtain ⟨vp, vm, rfl, hp, hm⟩ := hv
  obtain ⟨up, um, rfl, gp, gm⟩ := hu
  obtain ⟨hB1, hV⟩ := vbox w A vp vm hp hm w.heap.size rfl
  obtain ⟨hB2, hU⟩ := vbox (w.alloc (.cells #[.int .i64 A.kind, .int .i64 A.time, .int .i64 A.node, .bool A.dead, .string ⟨A.text.toArray⟩, vp, vm, .int .u64 (A.flags.toNat : Int)] 46)) B up um (stable_cells _ _ _ _ gp hB1.out) (stable_cells _ _ _ _ gm hB1.out) (w.heap.size + 1) (by simp)
  have hB3 := lit_below ((w.alloc (.cells #[.int .i64 A.kind, .int .i64 A.time, .int .i64 A.node, .bool A.dead, .string ⟨A.text.toArray⟩, vp, vm, .int .u64 (A.flags.toNat : Int)] 46)).alloc (.cells #[.int .i64 B.kind, .int .i64 B.time, .int .i64 B.node, .bool B.dead, .string ⟨B.text.toArray⟩, up, um, .int .u64 (B.flags.toNat : Int)] 46)) (.cells #[.int .i64 0, .int .i64 0, .int .i64 0, .bool false, .string ⟨#[]⟩, .slice none 0 0, .slice none 0 0, .int .u64 0] 46)
  have HZ := Kept.mk (cellsN_at ((w.alloc (.cells #[.int .i64 A.kind, .int .i64 A.time, .int .i64 A.node, .bool A.dead, .string ⟨A.text.toArray⟩, vp, vm, .int .u64 (A.flags.toNat : Int)] 46)).alloc (.cells #[.int .i64 B.kind, .int .i64 B.time, .int .i64 B.node, .bool B.dead, .string ⟨B.text.toArray⟩, up, um, .int .u64 (B.flags.toNat : Int)] 46)) 46 [.int .i64 0, .int .i64 0, .int .i64 0, .bool false, .string ⟨#[]⟩, .slice none 0 0, .slice none 0 0, .int .u64 0] (w.heap.size + 2) (by simp))
  have HF := Kept.mk (free5_at ((w.alloc (.cells #[.int .i64 A.kind, .int .i64 A.time, .int .i64 A.node, .bool A.dead, .string ⟨A.text.toArray⟩, vp, vm, .int .u64 (A.flags.toNat : Int)] 46)).alloc (.cells #[.int .i64 B.kind, .int .i64 B.time, .int .i64 B.node, .bool B.dead, .string ⟨B.text.toArray⟩, up, um, .int .u64 (B.flags.toNat : Int)] 46)) #[.int .i64 0, .int .i64 0, .int .i64 0, .bool false, .string ⟨#[]⟩, .slice none 0 0, .slice none 0 0, .int .u64 0] 46 (w.heap.size + 2) (by simp))
  replace hV := Kept.mk ((hV.out.keep hB2.out).keep hB3)
  replace hU := Kept.mk (hU.out.keep hB3)
  have hB := Kept.mk ((hB1.out.trans (hB2.out.mono hB1.out.size)).trans (hB3.mono (hB1.out.trans (hB2.out.mono hB1.out.size)).size))
  have hX := Kept.mk (show isVa A (.agg #[.int .i64 A.kind, .int .i64 A.time, .int .i64 A.node, .bool A.dead, .string ⟨A.text.toArray⟩, vp, vm, .int .u64 (A.flags.toNat : Int)]) (((w.alloc (.cells #[.int .i64 A.kind, .int .i64 A.time, .int .i64 A.node, .bool A.dead, .string ⟨A.text.toArray⟩, vp, vm, .int .u64 (A.flags.toNat : Int)] 46)).alloc (.cells #[.int .i64 B.kind, .int .i64 B.time, .int .i64 B.node, .bool B.dead, .string ⟨B.text.toArray⟩, up, um, .int .u64 (B.flags.toNat : Int)] 46)).alloc (.cells #[.int .i64 0, .int .i64 0, .int .i64 0, .bool false, .string ⟨#[]⟩, .slice none 0 0, .slice none 0 0, .int .u64 0] 46)) from ⟨vp, vm, rfl, stable_cells _ _ _ _ hp hB.out, stable_cells _ _ _ _ hm hB.out⟩)
  have hs : (((w.alloc (.cells #[.int .i64 A.kind, .int .i64 A.time, .int .i64 A.node, .bool A.dead, .string ⟨A.text.toArray⟩, vp, vm, .int .u64 (A.flags.toNat : Int)] 46)).alloc (.cells #[.int .i64 B.kind, .int .i64 B.time, .int .i64 B.node, .bool B.dead, .string ⟨B.text.toArray⟩, up, um, .int .u64 (B.flags.toNat : Int)] 46)).alloc (.cells #[.int .i64 0, .int .i64 0, .int .i64 0, .bool false, .string ⟨#[]⟩, .slice none 0 0, .slice none 0 0, .int .u64 0] 46)).heap.size = w.heap.size + 3 := by simp
  clear hp hm gp gm hB1 hB2 hB3
  have HO := Kept.mk h
  clear h
  go_enter Tryz.func116, Tryz.ntmps116
  go_wp2_with fail
  generalize ((w.alloc (.cells #[.int .i64 A.kind, .int .i64 A.time, .int .i64 A.node, .bool A.dead, .string ⟨A.text.toArray⟩, vp, vm, .int .u64 (A.flags.toNat : Int)] 46)).alloc (.cells #[.int .i64 B.kind, .int .i64 B.time, .int .i64 B.node, .bool B.dead, .string ⟨B.text.toArray⟩, up, um, .int .u64 (B.flags.toNat : Int)] 46)).alloc (.cells #[.int .i64 0, .int .i64 0, .int .i64 0, .bool false, .string ⟨#[]⟩, .slice none 0 0, .slice none 0 0, .int .u64 0] 46) = W0 at *
  refine (kv_any A _ _ hX.out hA).mono ?_
  rintro e w1 ⟨rfl, hb1⟩
  replace hV := Kept.mk (hV.out.keep hb1)
  replace hU := Kept.mk (hU.out.keep hb1)
  replace HF := Kept.mk (HF.out.keep hb1 HZ.out.1)
  replace HZ := Kept.mk (HZ.out.keep hb1 HZ.out.1)
  replace hB := Kept.mk (hB.out.trans (hb1.mono hB.out.size))
  have hs1 := hb1.size
  clear hb1 hX
  rewrite [HO.out]
  generalize ifaceK (kindN A) = ik
  obtain ⟨hBK, K4, K5⟩ := vset zeroV (.slice none 0 0) (.slice none 0 0) (g := w.heap.size + 2) (by omega) hB.out HZ.out rfl (.inl ⟨rfl, rfl⟩) (.inl ⟨rfl, rfl⟩) (by intro h; cases h) (by intro h; cases h)
  obtain ⟨hc', hp', hm'⟩ := K4.out
  clear K4
  go_wp2_with (refine wpList_storeN 46 rfl (.tmp 4) (.tmp 20) rfl (w.heap.size + 2) [.int .i64 0, .int .i64 0, .int .i64 0, .bool false, .string ⟨#[]⟩, .slice none 0 0, .slice none 0 0, .int .u64 0] size_va rfl rfl HZ.out rfl HF.out K5.out ?_)
  exact bodyPost_ret (resultsN2 rfl _ _ (w.heap.size + 2) _ (.int .i64 2) size_va agg_va rfl rfl hc') rfl ⟨_, rfl, ⟨_, _, rfl, hp', hm', newB_nil _, newB_nil _⟩, hBK.out⟩
set_option maxRecDepth 20000 in
set_option maxHeartbeats 1000000 in
theorem vjoin_no2 (A B : Va) (v u : Value) (w : World) (hv : isVa A v w) (hu : isVa B u w) (hA : Fit A) (hB0 : Fit B) (h : okV A = true) (h2 : okV B = false) :
    Calls Tryz.prog 116 #[v, u] w fun e w' => ∃ v', e = .returned (.tuple #[v', .int .i64 2]) ∧ isVaN w.heap.size zeroV v' w' ∧ Below w.heap.size w w' := by
  obtain ⟨vp, vm, rfl, hp, hm⟩ := hv
  obtain ⟨up, um, rfl, gp, gm⟩ := hu
  obtain ⟨hB1, hV⟩ := vbox w A vp vm hp hm w.heap.size rfl
  obtain ⟨hB2, hU⟩ := vbox (w.alloc (.cells #[.int .i64 A.kind, .int .i64 A.time, .int .i64 A.node, .bool A.dead, .string ⟨A.text.toArray⟩, vp, vm, .int .u64 (A.flags.toNat : Int)] 46)) B up um (stable_cells _ _ _ _ gp hB1.out) (stable_cells _ _ _ _ gm hB1.out) (w.heap.size + 1) (by simp)
  have hB3 := lit_below ((w.alloc (.cells #[.int .i64 A.kind, .int .i64 A.time, .int .i64 A.node, .bool A.dead, .string ⟨A.text.toArray⟩, vp, vm, .int .u64 (A.flags.toNat : Int)] 46)).alloc (.cells #[.int .i64 B.kind, .int .i64 B.time, .int .i64 B.node, .bool B.dead, .string ⟨B.text.toArray⟩, up, um, .int .u64 (B.flags.toNat : Int)] 46)) (.cells #[.int .i64 0, .int .i64 0, .int .i64 0, .bool false, .string ⟨#[]⟩, .slice none 0 0, .slice none 0 0, .int .u64 0] 46)
  have HZ := Kept.mk (cellsN_at ((w.alloc (.cells #[.int .i64 A.kind, .int .i64 A.time, .int .i64 A.node, .bool A.dead, .string ⟨A.text.toArray⟩, vp, vm, .int .u64 (A.flags.toNat : Int)] 46)).alloc (.cells #[.int .i64 B.kind, .int .i64 B.time, .int .i64 B.node, .bool B.dead, .string ⟨B.text.toArray⟩, up, um, .int .u64 (B.flags.toNat : Int)] 46)) 46 [.int .i64 0, .int .i64 0, .int .i64 0, .bool false, .string ⟨#[]⟩, .slice none 0 0, .slice none 0 0, .int .u64 0] (w.heap.size + 2) (by simp))
  have HF := Kept.mk (free5_at ((w.alloc (.cells #[.int .i64 A.kind, .int .i64 A.time, .int .i64 A.node, .bool A.dead, .string ⟨A.text.toArray⟩, vp, vm, .int .u64 (A.flags.toNat : Int)] 46)).alloc (.cells #[.int .i64 B.kind, .int .i64 B.time, .int .i64 B.node, .bool B.dead, .string ⟨B.text.toArray⟩, up, um, .int .u64 (B.flags.toNat : Int)] 46)) #[.int .i64 0, .int .i64 0, .int .i64 0, .bool false, .string ⟨#[]⟩, .slice none 0 0, .slice none 0 0, .int .u64 0] 46 (w.heap.size + 2) (by simp))
  replace hV := Kept.mk ((hV.out.keep hB2.out).keep hB3)
  replace hU := Kept.mk (hU.out.keep hB3)
  have hB := Kept.mk ((hB1.out.trans (hB2.out.mono hB1.out.size)).trans (hB3.mono (hB1.out.trans (hB2.out.mono hB1.out.size)).size))
  have hX := Kept.mk (show isVa A (.agg #[.int .i64 A.kind, .int .i64 A.time, .int .i64 A.node, .bool A.dead, .string ⟨A.text.toArray⟩, vp, vm, .int .u64 (A.flags.toNat : Int)]) (((w.alloc (.cells #[.int .i64 A.kind, .int .i64 A.time, .int .i64 A.node, .bool A.dead, .string ⟨A.text.toArray⟩, vp, vm, .int .u64 (A.flags.toNat : Int)] 46)).alloc (.cells #[.int .i64 B.kind, .int .i64 B.time, .int .i64 B.node, .bool B.dead, .string ⟨B.text.toArray⟩, up, um, .int .u64 (B.flags.toNat : Int)] 46)).alloc (.cells #[.int .i64 0, .int .i64 0, .int .i64 0, .bool false, .string ⟨#[]⟩, .slice none 0 0, .slice none 0 0, .int .u64 0] 46)) from ⟨vp, vm, rfl, stable_cells _ _ _ _ hp hB.out, stable_cells _ _ _ _ hm hB.out⟩)
  have hs : (((w.alloc (.cells #[.int .i64 A.kind, .int .i64 A.time, .int .i64 A.node, .bool A.dead, .string ⟨A.text.toArray⟩, vp, vm, .int .u64 (A.flags.toNat : Int)] 46)).alloc (.cells #[.int .i64 B.kind, .int .i64 B.time, .int .i64 B.node, .bool B.dead, .string ⟨B.text.toArray⟩, up, um, .int .u64 (B.flags.toNat : Int)] 46)).alloc (.cells #[.int .i64 0, .int .i64 0, .int .i64 0, .bool false, .string ⟨#[]⟩, .slice none 0 0, .slice none 0 0, .int .u64 0] 46)).heap.size = w.heap.size + 3 := by simp
  clear hp hm gp gm hB1 hB2 hB3
  have HO := Kept.mk h
  have HC : Kept (checkV B = 2) := ⟨by unfold checkV; rw [h2]; rfl⟩
  clear h h2
  go_enter Tryz.func116, Tryz.ntmps116
  go_wp2_with fail
  generalize ((w.alloc (.cells #[.int .i64 A.kind, .int .i64 A.time, .int .i64 A.node, .bool A.dead, .string ⟨A.text.toArray⟩, vp, vm, .int .u64 (A.flags.toNat : Int)] 46)).alloc (.cells #[.int .i64 B.kind, .int .i64 B.time, .int .i64 B.node, .bool B.dead, .string ⟨B.text.toArray⟩, up, um, .int .u64 (B.flags.toNat : Int)] 46)).alloc (.cells #[.int .i64 0, .int .i64 0, .int .i64 0, .bool false, .string ⟨#[]⟩, .slice none 0 0, .slice none 0 0, .int .u64 0] 46) = W0 at *
  refine (kv_any A _ _ hX.out hA).mono ?_
  rintro e w1 ⟨rfl, hb1⟩
  replace hV := Kept.mk (hV.out.keep hb1)
  replace hU := Kept.mk (hU.out.keep hb1)
  replace HF := Kept.mk (HF.out.keep hb1 HZ.out.1)
  replace HZ := Kept.mk (HZ.out.keep hb1 HZ.out.1)
  replace hB := Kept.mk (hB.out.trans (hb1.mono hB.out.size))
  have hs1 := hb1.size
  clear hb1 hX
  rewrite [HO.out]
  generalize ifaceK (kindN A) = ik
  obtain ⟨qb, rb, xb, _, _, kb0, kb1, kb2, kb3, kb4, kb5, kb6, kb7⟩ := hU.out.open_
  have Xb := Kept.mk xb
  clear xb
  go_wp2_with fail
  refine (vcheck_any B _ _ Xb.out hB0).mono ?_
  rintro e w2 ⟨rfl, hb2⟩
  replace hV := Kept.mk (hV.out.keep hb2)
  replace hU := Kept.mk (hU.out.keep hb2)
  replace HF := Kept.mk (HF.out.keep hb2 HZ.out.1)
  replace HZ := Kept.mk (HZ.out.keep hb2 HZ.out.1)
  replace hB := Kept.mk (hB.out.trans (hb2.mono hB.out.size))
  have hs2 := hb2.size
  rewrite [HC.out]
  clear hb2
  clear Xb kb0 kb1 kb2 kb3 kb4 kb5 kb6 kb7
  obtain ⟨hBK, K4, K5⟩ := vset zeroV (.slice none 0 0) (.slice none 0 0) (g := w.heap.size + 2) (by omega) hB.out HZ.out rfl (.inl ⟨rfl, rfl⟩) (.inl ⟨rfl, rfl⟩) (by intro h; cases h) (by intro h; cases h)
  obtain ⟨hc', hp', hm'⟩ := K4.out
  clear K4
  go_wp2_with (refine wpList_storeN 46 rfl (.tmp 4) (.tmp 20) rfl (w.heap.size + 2) [.int .i64 0, .int .i64 0, .int .i64 0, .bool false, .string ⟨#[]⟩, .slice none 0 0, .slice none 0 0, .int .u64 0] size_va rfl rfl HZ.out rfl HF.out K5.out ?_)
  exact bodyPost_ret (resultsN2 rfl _ _ (w.heap.size + 2) _ (.int .i64 2) size_va agg_va rfl rfl hc') rfl ⟨_, rfl, ⟨_, _, rfl, hp', hm', newB_nil _, newB_nil _⟩, hBK.out⟩
set_option maxRecDepth 20000 in
set_option maxHeartbeats 1000000 in
theorem vjoin_no3 (A B : Va) (v u : Value) (w : World) (hv : isVa A v w) (hu : isVa B u w) (hA : Fit A) (hB0 : Fit B) (h : okV A = true) (h2 : okV B = true) (h3 : A.kind ≠ B.kind) :
    Calls Tryz.prog 116 #[v, u] w fun e w' => ∃ v', e = .returned (.tuple #[v', .int .i64 3]) ∧ isVaN w.heap.size zeroV v' w' ∧ Below w.heap.size w w' := by
  obtain ⟨vp, vm, rfl, hp, hm⟩ := hv
  obtain ⟨up, um, rfl, gp, gm⟩ := hu
  obtain ⟨hB1, hV⟩ := vbox w A vp vm hp hm w.heap.size rfl
  obtain ⟨hB2, hU⟩ := vbox (w.alloc (.cells #[.int .i64 A.kind, .int .i64 A.time, .int .i64 A.node, .bool A.dead, .string ⟨A.text.toArray⟩, vp, vm, .int .u64 (A.flags.toNat : Int)] 46)) B up um (stable_cells _ _ _ _ gp hB1.out) (stable_cells _ _ _ _ gm hB1.out) (w.heap.size + 1) (by simp)
  have hB3 := lit_below ((w.alloc (.cells #[.int .i64 A.kind, .int .i64 A.time, .int .i64 A.node, .bool A.dead, .string ⟨A.text.toArray⟩, vp, vm, .int .u64 (A.flags.toNat : Int)] 46)).alloc (.cells #[.int .i64 B.kind, .int .i64 B.time, .int .i64 B.node, .bool B.dead, .string ⟨B.text.toArray⟩, up, um, .int .u64 (B.flags.toNat : Int)] 46)) (.cells #[.int .i64 0, .int .i64 0, .int .i64 0, .bool false, .string ⟨#[]⟩, .slice none 0 0, .slice none 0 0, .int .u64 0] 46)
  have HZ := Kept.mk (cellsN_at ((w.alloc (.cells #[.int .i64 A.kind, .int .i64 A.time, .int .i64 A.node, .bool A.dead, .string ⟨A.text.toArray⟩, vp, vm, .int .u64 (A.flags.toNat : Int)] 46)).alloc (.cells #[.int .i64 B.kind, .int .i64 B.time, .int .i64 B.node, .bool B.dead, .string ⟨B.text.toArray⟩, up, um, .int .u64 (B.flags.toNat : Int)] 46)) 46 [.int .i64 0, .int .i64 0, .int .i64 0, .bool false, .string ⟨#[]⟩, .slice none 0 0, .slice none 0 0, .int .u64 0] (w.heap.size + 2) (by simp))
  have HF := Kept.mk (free5_at ((w.alloc (.cells #[.int .i64 A.kind, .int .i64 A.time, .int .i64 A.node, .bool A.dead, .string ⟨A.text.toArray⟩, vp, vm, .int .u64 (A.flags.toNat : Int)] 46)).alloc (.cells #[.int .i64 B.kind, .int .i64 B.time, .int .i64 B.node, .bool B.dead, .string ⟨B.text.toArray⟩, up, um, .int .u64 (B.flags.toNat : Int)] 46)) #[.int .i64 0, .int .i64 0, .int .i64 0, .bool false, .string ⟨#[]⟩, .slice none 0 0, .slice none 0 0, .int .u64 0] 46 (w.heap.size + 2) (by simp))
  replace hV := Kept.mk ((hV.out.keep hB2.out).keep hB3)
  replace hU := Kept.mk (hU.out.keep hB3)
  have hB := Kept.mk ((hB1.out.trans (hB2.out.mono hB1.out.size)).trans (hB3.mono (hB1.out.trans (hB2.out.mono hB1.out.size)).size))
  have hX := Kept.mk (show isVa A (.agg #[.int .i64 A.kind, .int .i64 A.time, .int .i64 A.node, .bool A.dead, .string ⟨A.text.toArray⟩, vp, vm, .int .u64 (A.flags.toNat : Int)]) (((w.alloc (.cells #[.int .i64 A.kind, .int .i64 A.time, .int .i64 A.node, .bool A.dead, .string ⟨A.text.toArray⟩, vp, vm, .int .u64 (A.flags.toNat : Int)] 46)).alloc (.cells #[.int .i64 B.kind, .int .i64 B.time, .int .i64 B.node, .bool B.dead, .string ⟨B.text.toArray⟩, up, um, .int .u64 (B.flags.toNat : Int)] 46)).alloc (.cells #[.int .i64 0, .int .i64 0, .int .i64 0, .bool false, .string ⟨#[]⟩, .slice none 0 0, .slice none 0 0, .int .u64 0] 46)) from ⟨vp, vm, rfl, stable_cells _ _ _ _ hp hB.out, stable_cells _ _ _ _ hm hB.out⟩)
  have hs : (((w.alloc (.cells #[.int .i64 A.kind, .int .i64 A.time, .int .i64 A.node, .bool A.dead, .string ⟨A.text.toArray⟩, vp, vm, .int .u64 (A.flags.toNat : Int)] 46)).alloc (.cells #[.int .i64 B.kind, .int .i64 B.time, .int .i64 B.node, .bool B.dead, .string ⟨B.text.toArray⟩, up, um, .int .u64 (B.flags.toNat : Int)] 46)).alloc (.cells #[.int .i64 0, .int .i64 0, .int .i64 0, .bool false, .string ⟨#[]⟩, .slice none 0 0, .slice none 0 0, .int .u64 0] 46)).heap.size = w.heap.size + 3 := by simp
  clear hp hm gp gm hB1 hB2 hB3
  have HO := Kept.mk h
  have HC : Kept (checkV B = 0) := ⟨by unfold checkV; rw [h2]; rfl⟩
  have d3 : (A.kind == B.kind) = false := by simpa using h3
  clear h h2 h3
  go_enter Tryz.func116, Tryz.ntmps116
  go_wp2_with fail
  generalize ((w.alloc (.cells #[.int .i64 A.kind, .int .i64 A.time, .int .i64 A.node, .bool A.dead, .string ⟨A.text.toArray⟩, vp, vm, .int .u64 (A.flags.toNat : Int)] 46)).alloc (.cells #[.int .i64 B.kind, .int .i64 B.time, .int .i64 B.node, .bool B.dead, .string ⟨B.text.toArray⟩, up, um, .int .u64 (B.flags.toNat : Int)] 46)).alloc (.cells #[.int .i64 0, .int .i64 0, .int .i64 0, .bool false, .string ⟨#[]⟩, .slice none 0 0, .slice none 0 0, .int .u64 0] 46) = W0 at *
  refine (kv_any A _ _ hX.out hA).mono ?_
  rintro e w1 ⟨rfl, hb1⟩
  replace hV := Kept.mk (hV.out.keep hb1)
  replace hU := Kept.mk (hU.out.keep hb1)
  replace HF := Kept.mk (HF.out.keep hb1 HZ.out.1)
  replace HZ := Kept.mk (HZ.out.keep hb1 HZ.out.1)
  replace hB := Kept.mk (hB.out.trans (hb1.mono hB.out.size))
  have hs1 := hb1.size
  clear hb1 hX
  rewrite [HO.out]
  generalize ifaceK (kindN A) = ik
  obtain ⟨qb, rb, xb, _, _, kb0, kb1, kb2, kb3, kb4, kb5, kb6, kb7⟩ := hU.out.open_
  have Xb := Kept.mk xb
  clear xb
  go_wp2_with fail
  refine (vcheck_any B _ _ Xb.out hB0).mono ?_
  rintro e w2 ⟨rfl, hb2⟩
  replace hV := Kept.mk (hV.out.keep hb2)
  replace hU := Kept.mk (hU.out.keep hb2)
  replace HF := Kept.mk (HF.out.keep hb2 HZ.out.1)
  replace HZ := Kept.mk (HZ.out.keep hb2 HZ.out.1)
  replace hB := Kept.mk (hB.out.trans (hb2.mono hB.out.size))
  have hs2 := hb2.size
  rewrite [HC.out]
  clear hb2
  clear Xb kb0 kb1 kb2 kb3 kb4 kb5 kb6 kb7
  obtain ⟨qa, ra, xa, _, _, ka0, ka1, ka2, ka3, ka4, ka5, ka6, ka7⟩ := hV.out.open_
  have Xa := Kept.mk xa
  clear xa
  obtain ⟨qb, rb, xb, _, _, kb0, kb1, kb2, kb3, kb4, kb5, kb6, kb7⟩ := hU.out.open_
  have Xb := Kept.mk xb
  clear xb
  obtain ⟨hBK, K4, K5⟩ := vset zeroV (.slice none 0 0) (.slice none 0 0) (g := w.heap.size + 2) (by omega) hB.out HZ.out rfl (.inl ⟨rfl, rfl⟩) (.inl ⟨rfl, rfl⟩) (by intro h; cases h) (by intro h; cases h)
  obtain ⟨hc', hp', hm'⟩ := K4.out
  clear K4
  go_wp2_with (refine wpList_storeN 46 rfl (.tmp 4) (.tmp 26) rfl (w.heap.size + 2) [.int .i64 0, .int .i64 0, .int .i64 0, .bool false, .string ⟨#[]⟩, .slice none 0 0, .slice none 0 0, .int .u64 0] size_va rfl rfl HZ.out rfl HF.out K5.out ?_)
  exact bodyPost_ret (resultsN2 rfl _ _ (w.heap.size + 2) _ (.int .i64 3) size_va agg_va rfl rfl hc') rfl ⟨_, rfl, ⟨_, _, rfl, hp', hm', newB_nil _, newB_nil _⟩, hBK.out⟩
set_option maxRecDepth 20000 in
set_option maxHeartbeats 1000000 in
theorem vjoin_reg (A B : Va) (v u : Value) (w : World) (hv : isVa A v w) (hu : isVa B u w) (hA : Fit A) (hB0 : Fit B) (h : kindN A = 1) (h2 : okV B = true) (h3 : A.kind = B.kind) :
    Calls Tryz.prog 116 #[v, u] w fun e w' => ∃ v', e = .returned (.tuple #[v', .int .i64 0]) ∧ isVaN w.heap.size (joinReg A B) v' w' ∧ Below w.heap.size w w' := by
  obtain ⟨vp, vm, rfl, hp, hm⟩ := hv
  obtain ⟨up, um, rfl, gp, gm⟩ := hu
  obtain ⟨hB1, hV⟩ := vbox w A vp vm hp hm w.heap.size rfl
  obtain ⟨hB2, hU⟩ := vbox (w.alloc (.cells #[.int .i64 A.kind, .int .i64 A.time, .int .i64 A.node, .bool A.dead, .string ⟨A.text.toArray⟩, vp, vm, .int .u64 (A.flags.toNat : Int)] 46)) B up um (stable_cells _ _ _ _ gp hB1.out) (stable_cells _ _ _ _ gm hB1.out) (w.heap.size + 1) (by simp)
  have hB3 := lit_below ((w.alloc (.cells #[.int .i64 A.kind, .int .i64 A.time, .int .i64 A.node, .bool A.dead, .string ⟨A.text.toArray⟩, vp, vm, .int .u64 (A.flags.toNat : Int)] 46)).alloc (.cells #[.int .i64 B.kind, .int .i64 B.time, .int .i64 B.node, .bool B.dead, .string ⟨B.text.toArray⟩, up, um, .int .u64 (B.flags.toNat : Int)] 46)) (.cells #[.int .i64 0, .int .i64 0, .int .i64 0, .bool false, .string ⟨#[]⟩, .slice none 0 0, .slice none 0 0, .int .u64 0] 46)
  have HZ := Kept.mk (cellsN_at ((w.alloc (.cells #[.int .i64 A.kind, .int .i64 A.time, .int .i64 A.node, .bool A.dead, .string ⟨A.text.toArray⟩, vp, vm, .int .u64 (A.flags.toNat : Int)] 46)).alloc (.cells #[.int .i64 B.kind, .int .i64 B.time, .int .i64 B.node, .bool B.dead, .string ⟨B.text.toArray⟩, up, um, .int .u64 (B.flags.toNat : Int)] 46)) 46 [.int .i64 0, .int .i64 0, .int .i64 0, .bool false, .string ⟨#[]⟩, .slice none 0 0, .slice none 0 0, .int .u64 0] (w.heap.size + 2) (by simp))
  have HF := Kept.mk (free5_at ((w.alloc (.cells #[.int .i64 A.kind, .int .i64 A.time, .int .i64 A.node, .bool A.dead, .string ⟨A.text.toArray⟩, vp, vm, .int .u64 (A.flags.toNat : Int)] 46)).alloc (.cells #[.int .i64 B.kind, .int .i64 B.time, .int .i64 B.node, .bool B.dead, .string ⟨B.text.toArray⟩, up, um, .int .u64 (B.flags.toNat : Int)] 46)) #[.int .i64 0, .int .i64 0, .int .i64 0, .bool false, .string ⟨#[]⟩, .slice none 0 0, .slice none 0 0, .int .u64 0] 46 (w.heap.size + 2) (by simp))
  replace hV := Kept.mk ((hV.out.keep hB2.out).keep hB3)
  replace hU := Kept.mk (hU.out.keep hB3)
  have hB := Kept.mk ((hB1.out.trans (hB2.out.mono hB1.out.size)).trans (hB3.mono (hB1.out.trans (hB2.out.mono hB1.out.size)).size))
  have hX := Kept.mk (show isVa A (.agg #[.int .i64 A.kind, .int .i64 A.time, .int .i64 A.node, .bool A.dead, .string ⟨A.text.toArray⟩, vp, vm, .int .u64 (A.flags.toNat : Int)]) (((w.alloc (.cells #[.int .i64 A.kind, .int .i64 A.time, .int .i64 A.node, .bool A.dead, .string ⟨A.text.toArray⟩, vp, vm, .int .u64 (A.flags.toNat : Int)] 46)).alloc (.cells #[.int .i64 B.kind, .int .i64 B.time, .int .i64 B.node, .bool B.dead, .string ⟨B.text.toArray⟩, up, um, .int .u64 (B.flags.toNat : Int)] 46)).alloc (.cells #[.int .i64 0, .int .i64 0, .int .i64 0, .bool false, .string ⟨#[]⟩, .slice none 0 0, .slice none 0 0, .int .u64 0] 46)) from ⟨vp, vm, rfl, stable_cells _ _ _ _ hp hB.out, stable_cells _ _ _ _ hm hB.out⟩)
  have hs : (((w.alloc (.cells #[.int .i64 A.kind, .int .i64 A.time, .int .i64 A.node, .bool A.dead, .string ⟨A.text.toArray⟩, vp, vm, .int .u64 (A.flags.toNat : Int)] 46)).alloc (.cells #[.int .i64 B.kind, .int .i64 B.time, .int .i64 B.node, .bool B.dead, .string ⟨B.text.toArray⟩, up, um, .int .u64 (B.flags.toNat : Int)] 46)).alloc (.cells #[.int .i64 0, .int .i64 0, .int .i64 0, .bool false, .string ⟨#[]⟩, .slice none 0 0, .slice none 0 0, .int .u64 0] 46)).heap.size = w.heap.size + 3 := by simp
  clear hp hm gp gm hB1 hB2 hB3
  have HO : Kept (okV A = true) := ⟨by unfold okV; rw [h]; rfl⟩
  have HC : Kept (checkV B = 0) := ⟨by unfold checkV; rw [h2]; rfl⟩
  have HK := Kept.mk h
  have HI : Kept (ifaceK 1 = .iface 162 (.agg #[])) := ⟨rfl⟩
  have d3 : (A.kind == B.kind) = true := by simpa using h3
  clear h h2 h3
  go_enter Tryz.func116, Tryz.ntmps116
  go_wp2_with fail
  generalize ((w.alloc (.cells #[.int .i64 A.kind, .int .i64 A.time, .int .i64 A.node, .bool A.dead, .string ⟨A.text.toArray⟩, vp, vm, .int .u64 (A.flags.toNat : Int)] 46)).alloc (.cells #[.int .i64 B.kind, .int .i64 B.time, .int .i64 B.node, .bool B.dead, .string ⟨B.text.toArray⟩, up, um, .int .u64 (B.flags.toNat : Int)] 46)).alloc (.cells #[.int .i64 0, .int .i64 0, .int .i64 0, .bool false, .string ⟨#[]⟩, .slice none 0 0, .slice none 0 0, .int .u64 0] 46) = W0 at *
  refine (kv_any A _ _ hX.out hA).mono ?_
  rintro e w1 ⟨rfl, hb1⟩
  replace hV := Kept.mk (hV.out.keep hb1)
  replace hU := Kept.mk (hU.out.keep hb1)
  replace HF := Kept.mk (HF.out.keep hb1 HZ.out.1)
  replace HZ := Kept.mk (HZ.out.keep hb1 HZ.out.1)
  replace hB := Kept.mk (hB.out.trans (hb1.mono hB.out.size))
  have hs1 := hb1.size
  clear hb1 hX
  rewrite [HO.out, HK.out, HI.out]
  obtain ⟨qb, rb, xb, _, _, kb0, kb1, kb2, kb3, kb4, kb5, kb6, kb7⟩ := hU.out.open_
  have Xb := Kept.mk xb
  clear xb
  go_wp2_with fail
  refine (vcheck_any B _ _ Xb.out hB0).mono ?_
  rintro e w2 ⟨rfl, hb2⟩
  replace hV := Kept.mk (hV.out.keep hb2)
  replace hU := Kept.mk (hU.out.keep hb2)
  replace HF := Kept.mk (HF.out.keep hb2 HZ.out.1)
  replace HZ := Kept.mk (HZ.out.keep hb2 HZ.out.1)
  replace hB := Kept.mk (hB.out.trans (hb2.mono hB.out.size))
  have hs2 := hb2.size
  rewrite [HC.out]
  clear hb2
  clear Xb kb0 kb1 kb2 kb3 kb4 kb5 kb6 kb7
  obtain ⟨qa, ra, xa, _, _, ka0, ka1, ka2, ka3, ka4, ka5, ka6, ka7⟩ := hV.out.open_
  have Xa := Kept.mk xa
  clear xa
  obtain ⟨qb, rb, xb, _, _, kb0, kb1, kb2, kb3, kb4, kb5, kb6, kb7⟩ := hU.out.open_
  have Xb := Kept.mk xb
  clear xb
  have hinv : ∀ W : World, (invoke (.fn (.method "ouroboros/value.join") #[]) #[.iface 162 (.agg #[]), .agg #[.int .i64 A.kind, .int .i64 A.time, .int .i64 A.node, .bool A.dead, .string ⟨A.text.toArray⟩, qa, ra, .int .u64 (A.flags.toNat : Int)], .agg #[.int .i64 B.kind, .int .i64 B.time, .int .i64 B.node, .bool B.dead, .string ⟨B.text.toArray⟩, qb, rb, .int .u64 (B.flags.toNat : Int)]]).run Tryz.prog W = .ok (.enter 178 #[.agg #[], .agg #[.int .i64 A.kind, .int .i64 A.time, .int .i64 A.node, .bool A.dead, .string ⟨A.text.toArray⟩, qa, ra, .int .u64 (A.flags.toNat : Int)], .agg #[.int .i64 B.kind, .int .i64 B.time, .int .i64 B.node, .bool B.dead, .string ⟨B.text.toArray⟩, qb, rb, .int .u64 (B.flags.toNat : Int)]]) W := fun W => by kernel_rfl
  go_wp2_with fail
  refine (regJoin_any A B _ _ _ Xa.out Xb.out).mono ?_
  rintro e w3 ⟨v', rfl, ⟨p', m', rfl, hp1, hm1, np, nm⟩, hb3⟩
  have hZ1 := HZ.out.keep hb3 HZ.out.1
  have K1 := Kept.mk hZ1
  have K2 := Kept.mk (HF.out.keep hb3 HZ.out.1)
  obtain ⟨hBK, K4, K5⟩ := vset (joinReg A B) p' m' (g := w.heap.size + 2) (by omega) (hB.out.trans (hb3.mono hB.out.size)) hZ1 rfl hp1 hm1 (np.ne (by omega)) (nm.ne (by omega))
  obtain ⟨hc', hp', hm'⟩ := K4.out
  replace np := np.low (B' := w.heap.size) (by omega)
  replace nm := nm.low (B' := w.heap.size) (by omega)
  clear K4 hp1 hm1 hZ1 hb3 hinv
  clear Xa ka0 ka1 ka2 ka3 ka4 ka5 ka6 ka7
  clear Xb kb0 kb1 kb2 kb3 kb4 kb5 kb6 kb7
  go_wp2_with (refine wpList_storeN 46 rfl (.tmp 4) (.tmp 30) rfl (w.heap.size + 2) [.int .i64 (joinReg A B).kind, .int .i64 (joinReg A B).time, .int .i64 (joinReg A B).node, .bool (joinReg A B).dead, .string ⟨(joinReg A B).text.toArray⟩, p', m', .int .u64 ((joinReg A B).flags.toNat : Int)] size_va rfl rfl K1.out rfl K2.out K5.out ?_)
  exact bodyPost_ret (resultsN2 rfl _ _ (w.heap.size + 2) _ (.int .i64 0) size_va agg_va rfl rfl hc') rfl ⟨_, rfl, ⟨_, _, rfl, hp', hm', np, nm⟩, hBK.out⟩
set_option maxRecDepth 20000 in
set_option maxHeartbeats 1000000 in
theorem vjoin_count (A B : Va) (v u : Value) (w : World) (hv : isVa A v w) (hu : isVa B u w) (hA : Fit A) (hB0 : Fit B) (h : kindN A = 2) (h2 : okV B = true) (h3 : A.kind = B.kind) (l1 : A.plus.length = 8) (l2 : A.minus.length = 8) (l3 : B.plus.length = 8) (l4 : B.minus.length = 8) :
    Calls Tryz.prog 116 #[v, u] w fun e w' => ∃ v', e = .returned (.tuple #[v', .int .i64 0]) ∧ isVaN w.heap.size (joinCount A B) v' w' ∧ Below w.heap.size w w' := by
  obtain ⟨vp, vm, rfl, hp, hm⟩ := hv
  obtain ⟨up, um, rfl, gp, gm⟩ := hu
  obtain ⟨hB1, hV⟩ := vbox w A vp vm hp hm w.heap.size rfl
  obtain ⟨hB2, hU⟩ := vbox (w.alloc (.cells #[.int .i64 A.kind, .int .i64 A.time, .int .i64 A.node, .bool A.dead, .string ⟨A.text.toArray⟩, vp, vm, .int .u64 (A.flags.toNat : Int)] 46)) B up um (stable_cells _ _ _ _ gp hB1.out) (stable_cells _ _ _ _ gm hB1.out) (w.heap.size + 1) (by simp)
  have hB3 := lit_below ((w.alloc (.cells #[.int .i64 A.kind, .int .i64 A.time, .int .i64 A.node, .bool A.dead, .string ⟨A.text.toArray⟩, vp, vm, .int .u64 (A.flags.toNat : Int)] 46)).alloc (.cells #[.int .i64 B.kind, .int .i64 B.time, .int .i64 B.node, .bool B.dead, .string ⟨B.text.toArray⟩, up, um, .int .u64 (B.flags.toNat : Int)] 46)) (.cells #[.int .i64 0, .int .i64 0, .int .i64 0, .bool false, .string ⟨#[]⟩, .slice none 0 0, .slice none 0 0, .int .u64 0] 46)
  have HZ := Kept.mk (cellsN_at ((w.alloc (.cells #[.int .i64 A.kind, .int .i64 A.time, .int .i64 A.node, .bool A.dead, .string ⟨A.text.toArray⟩, vp, vm, .int .u64 (A.flags.toNat : Int)] 46)).alloc (.cells #[.int .i64 B.kind, .int .i64 B.time, .int .i64 B.node, .bool B.dead, .string ⟨B.text.toArray⟩, up, um, .int .u64 (B.flags.toNat : Int)] 46)) 46 [.int .i64 0, .int .i64 0, .int .i64 0, .bool false, .string ⟨#[]⟩, .slice none 0 0, .slice none 0 0, .int .u64 0] (w.heap.size + 2) (by simp))
  have HF := Kept.mk (free5_at ((w.alloc (.cells #[.int .i64 A.kind, .int .i64 A.time, .int .i64 A.node, .bool A.dead, .string ⟨A.text.toArray⟩, vp, vm, .int .u64 (A.flags.toNat : Int)] 46)).alloc (.cells #[.int .i64 B.kind, .int .i64 B.time, .int .i64 B.node, .bool B.dead, .string ⟨B.text.toArray⟩, up, um, .int .u64 (B.flags.toNat : Int)] 46)) #[.int .i64 0, .int .i64 0, .int .i64 0, .bool false, .string ⟨#[]⟩, .slice none 0 0, .slice none 0 0, .int .u64 0] 46 (w.heap.size + 2) (by simp))
  replace hV := Kept.mk ((hV.out.keep hB2.out).keep hB3)
  replace hU := Kept.mk (hU.out.keep hB3)
  have hB := Kept.mk ((hB1.out.trans (hB2.out.mono hB1.out.size)).trans (hB3.mono (hB1.out.trans (hB2.out.mono hB1.out.size)).size))
  have hX := Kept.mk (show isVa A (.agg #[.int .i64 A.kind, .int .i64 A.time, .int .i64 A.node, .bool A.dead, .string ⟨A.text.toArray⟩, vp, vm, .int .u64 (A.flags.toNat : Int)]) (((w.alloc (.cells #[.int .i64 A.kind, .int .i64 A.time, .int .i64 A.node, .bool A.dead, .string ⟨A.text.toArray⟩, vp, vm, .int .u64 (A.flags.toNat : Int)] 46)).alloc (.cells #[.int .i64 B.kind, .int .i64 B.time, .int .i64 B.node, .bool B.dead, .string ⟨B.text.toArray⟩, up, um, .int .u64 (B.flags.toNat : Int)] 46)).alloc (.cells #[.int .i64 0, .int .i64 0, .int .i64 0, .bool false, .string ⟨#[]⟩, .slice none 0 0, .slice none 0 0, .int .u64 0] 46)) from ⟨vp, vm, rfl, stable_cells _ _ _ _ hp hB.out, stable_cells _ _ _ _ hm hB.out⟩)
  have hs : (((w.alloc (.cells #[.int .i64 A.kind, .int .i64 A.time, .int .i64 A.node, .bool A.dead, .string ⟨A.text.toArray⟩, vp, vm, .int .u64 (A.flags.toNat : Int)] 46)).alloc (.cells #[.int .i64 B.kind, .int .i64 B.time, .int .i64 B.node, .bool B.dead, .string ⟨B.text.toArray⟩, up, um, .int .u64 (B.flags.toNat : Int)] 46)).alloc (.cells #[.int .i64 0, .int .i64 0, .int .i64 0, .bool false, .string ⟨#[]⟩, .slice none 0 0, .slice none 0 0, .int .u64 0] 46)).heap.size = w.heap.size + 3 := by simp
  clear hp hm gp gm hB1 hB2 hB3
  have HO : Kept (okV A = true) := ⟨by unfold okV; rw [h]; rfl⟩
  have HC : Kept (checkV B = 0) := ⟨by unfold checkV; rw [h2]; rfl⟩
  have HK := Kept.mk h
  have HI : Kept (ifaceK 2 = .iface 163 (.agg #[])) := ⟨rfl⟩
  have d3 : (A.kind == B.kind) = true := by simpa using h3
  clear h h2 h3
  go_enter Tryz.func116, Tryz.ntmps116
  go_wp2_with fail
  generalize ((w.alloc (.cells #[.int .i64 A.kind, .int .i64 A.time, .int .i64 A.node, .bool A.dead, .string ⟨A.text.toArray⟩, vp, vm, .int .u64 (A.flags.toNat : Int)] 46)).alloc (.cells #[.int .i64 B.kind, .int .i64 B.time, .int .i64 B.node, .bool B.dead, .string ⟨B.text.toArray⟩, up, um, .int .u64 (B.flags.toNat : Int)] 46)).alloc (.cells #[.int .i64 0, .int .i64 0, .int .i64 0, .bool false, .string ⟨#[]⟩, .slice none 0 0, .slice none 0 0, .int .u64 0] 46) = W0 at *
  refine (kv_any A _ _ hX.out hA).mono ?_
  rintro e w1 ⟨rfl, hb1⟩
  replace hV := Kept.mk (hV.out.keep hb1)
  replace hU := Kept.mk (hU.out.keep hb1)
  replace HF := Kept.mk (HF.out.keep hb1 HZ.out.1)
  replace HZ := Kept.mk (HZ.out.keep hb1 HZ.out.1)
  replace hB := Kept.mk (hB.out.trans (hb1.mono hB.out.size))
  have hs1 := hb1.size
  clear hb1 hX
  rewrite [HO.out, HK.out, HI.out]
  obtain ⟨qb, rb, xb, _, _, kb0, kb1, kb2, kb3, kb4, kb5, kb6, kb7⟩ := hU.out.open_
  have Xb := Kept.mk xb
  clear xb
  go_wp2_with fail
  refine (vcheck_any B _ _ Xb.out hB0).mono ?_
  rintro e w2 ⟨rfl, hb2⟩
  replace hV := Kept.mk (hV.out.keep hb2)
  replace hU := Kept.mk (hU.out.keep hb2)
  replace HF := Kept.mk (HF.out.keep hb2 HZ.out.1)
  replace HZ := Kept.mk (HZ.out.keep hb2 HZ.out.1)
  replace hB := Kept.mk (hB.out.trans (hb2.mono hB.out.size))
  have hs2 := hb2.size
  rewrite [HC.out]
  clear hb2
  clear Xb kb0 kb1 kb2 kb3 kb4 kb5 kb6 kb7
  obtain ⟨qa, ra, xa, _, _, ka0, ka1, ka2, ka3, ka4, ka5, ka6, ka7⟩ := hV.out.open_
  have Xa := Kept.mk xa
  clear xa
  obtain ⟨qb, rb, xb, _, _, kb0, kb1, kb2, kb3, kb4, kb5, kb6, kb7⟩ := hU.out.open_
  have Xb := Kept.mk xb
  clear xb
  have hinv : ∀ W : World, (invoke (.fn (.method "ouroboros/value.join") #[]) #[.iface 163 (.agg #[]), .agg #[.int .i64 A.kind, .int .i64 A.time, .int .i64 A.node, .bool A.dead, .string ⟨A.text.toArray⟩, qa, ra, .int .u64 (A.flags.toNat : Int)], .agg #[.int .i64 B.kind, .int .i64 B.time, .int .i64 B.node, .bool B.dead, .string ⟨B.text.toArray⟩, qb, rb, .int .u64 (B.flags.toNat : Int)]]).run Tryz.prog W = .ok (.enter 190 #[.agg #[], .agg #[.int .i64 A.kind, .int .i64 A.time, .int .i64 A.node, .bool A.dead, .string ⟨A.text.toArray⟩, qa, ra, .int .u64 (A.flags.toNat : Int)], .agg #[.int .i64 B.kind, .int .i64 B.time, .int .i64 B.node, .bool B.dead, .string ⟨B.text.toArray⟩, qb, rb, .int .u64 (B.flags.toNat : Int)]]) W := fun W => by kernel_rfl
  go_wp2_with fail
  refine (countJoin_any A B _ _ _ Xa.out Xb.out l1 l2 l3 l4).mono ?_
  rintro e w3 ⟨v', rfl, ⟨p', m', rfl, hp1, hm1, np, nm⟩, hb3⟩
  have hZ1 := HZ.out.keep hb3 HZ.out.1
  have K1 := Kept.mk hZ1
  have K2 := Kept.mk (HF.out.keep hb3 HZ.out.1)
  obtain ⟨hBK, K4, K5⟩ := vset (joinCount A B) p' m' (g := w.heap.size + 2) (by omega) (hB.out.trans (hb3.mono hB.out.size)) hZ1 rfl hp1 hm1 (np.ne (by omega)) (nm.ne (by omega))
  obtain ⟨hc', hp', hm'⟩ := K4.out
  replace np := np.low (B' := w.heap.size) (by omega)
  replace nm := nm.low (B' := w.heap.size) (by omega)
  clear K4 hp1 hm1 hZ1 hb3 hinv
  clear Xa ka0 ka1 ka2 ka3 ka4 ka5 ka6 ka7
  clear Xb kb0 kb1 kb2 kb3 kb4 kb5 kb6 kb7
  go_wp2_with (refine wpList_storeN 46 rfl (.tmp 4) (.tmp 30) rfl (w.heap.size + 2) [.int .i64 (joinCount A B).kind, .int .i64 (joinCount A B).time, .int .i64 (joinCount A B).node, .bool (joinCount A B).dead, .string ⟨(joinCount A B).text.toArray⟩, p', m', .int .u64 ((joinCount A B).flags.toNat : Int)] size_va rfl rfl K1.out rfl K2.out K5.out ?_)
  exact bodyPost_ret (resultsN2 rfl _ _ (w.heap.size + 2) _ (.int .i64 0) size_va agg_va rfl rfl hc') rfl ⟨_, rfl, ⟨_, _, rfl, hp', hm', np, nm⟩, hBK.out⟩
set_option maxRecDepth 20000 in
set_option maxHeartbeats 1000000 in
theorem vjoin_flags (A B : Va) (v u : Value) (w : World) (hv : isVa A v w) (hu : isVa B u w) (hA : Fit A) (hB0 : Fit B) (h : kindN A = 3) (h2 : okV B = true) (h3 : A.kind = B.kind) :
    Calls Tryz.prog 116 #[v, u] w fun e w' => ∃ v', e = .returned (.tuple #[v', .int .i64 0]) ∧ isVaN w.heap.size (joinFlags A B) v' w' ∧ Below w.heap.size w w' := by
  obtain ⟨vp, vm, rfl, hp, hm⟩ := hv
  obtain ⟨up, um, rfl, gp, gm⟩ := hu
  obtain ⟨hB1, hV⟩ := vbox w A vp vm hp hm w.heap.size rfl
  obtain ⟨hB2, hU⟩ := vbox (w.alloc (.cells #[.int .i64 A.kind, .int .i64 A.time, .int .i64 A.node, .bool A.dead, .string ⟨A.text.toArray⟩, vp, vm, .int .u64 (A.flags.toNat : Int)] 46)) B up um (stable_cells _ _ _ _ gp hB1.out) (stable_cells _ _ _ _ gm hB1.out) (w.heap.size + 1) (by simp)
  have hB3 := lit_below ((w.alloc (.cells #[.int .i64 A.kind, .int .i64 A.time, .int .i64 A.node, .bool A.dead, .string ⟨A.text.toArray⟩, vp, vm, .int .u64 (A.flags.toNat : Int)] 46)).alloc (.cells #[.int .i64 B.kind, .int .i64 B.time, .int .i64 B.node, .bool B.dead, .string ⟨B.text.toArray⟩, up, um, .int .u64 (B.flags.toNat : Int)] 46)) (.cells #[.int .i64 0, .int .i64 0, .int .i64 0, .bool false, .string ⟨#[]⟩, .slice none 0 0, .slice none 0 0, .int .u64 0] 46)
  have HZ := Kept.mk (cellsN_at ((w.alloc (.cells #[.int .i64 A.kind, .int .i64 A.time, .int .i64 A.node, .bool A.dead, .string ⟨A.text.toArray⟩, vp, vm, .int .u64 (A.flags.toNat : Int)] 46)).alloc (.cells #[.int .i64 B.kind, .int .i64 B.time, .int .i64 B.node, .bool B.dead, .string ⟨B.text.toArray⟩, up, um, .int .u64 (B.flags.toNat : Int)] 46)) 46 [.int .i64 0, .int .i64 0, .int .i64 0, .bool false, .string ⟨#[]⟩, .slice none 0 0, .slice none 0 0, .int .u64 0] (w.heap.size + 2) (by simp))
  have HF := Kept.mk (free5_at ((w.alloc (.cells #[.int .i64 A.kind, .int .i64 A.time, .int .i64 A.node, .bool A.dead, .string ⟨A.text.toArray⟩, vp, vm, .int .u64 (A.flags.toNat : Int)] 46)).alloc (.cells #[.int .i64 B.kind, .int .i64 B.time, .int .i64 B.node, .bool B.dead, .string ⟨B.text.toArray⟩, up, um, .int .u64 (B.flags.toNat : Int)] 46)) #[.int .i64 0, .int .i64 0, .int .i64 0, .bool false, .string ⟨#[]⟩, .slice none 0 0, .slice none 0 0, .int .u64 0] 46 (w.heap.size + 2) (by simp))
  replace hV := Kept.mk ((hV.out.keep hB2.out).keep hB3)
  replace hU := Kept.mk (hU.out.keep hB3)
  have hB := Kept.mk ((hB1.out.trans (hB2.out.mono hB1.out.size)).trans (hB3.mono (hB1.out.trans (hB2.out.mono hB1.out.size)).size))
  have hX := Kept.mk (show isVa A (.agg #[.int .i64 A.kind, .int .i64 A.time, .int .i64 A.node, .bool A.dead, .string ⟨A.text.toArray⟩, vp, vm, .int .u64 (A.flags.toNat : Int)]) (((w.alloc (.cells #[.int .i64 A.kind, .int .i64 A.time, .int .i64 A.node, .bool A.dead, .string ⟨A.text.toArray⟩, vp, vm, .int .u64 (A.flags.toNat : Int)] 46)).alloc (.cells #[.int .i64 B.kind, .int .i64 B.time, .int .i64 B.node, .bool B.dead, .string ⟨B.text.toArray⟩, up, um, .int .u64 (B.flags.toNat : Int)] 46)).alloc (.cells #[.int .i64 0, .int .i64 0, .int .i64 0, .bool false, .string ⟨#[]⟩, .slice none 0 0, .slice none 0 0, .int .u64 0] 46)) from ⟨vp, vm, rfl, stable_cells _ _ _ _ hp hB.out, stable_cells _ _ _ _ hm hB.out⟩)
  have hs : (((w.alloc (.cells #[.int .i64 A.kind, .int .i64 A.time, .int .i64 A.node, .bool A.dead, .string ⟨A.text.toArray⟩, vp, vm, .int .u64 (A.flags.toNat : Int)] 46)).alloc (.cells #[.int .i64 B.kind, .int .i64 B.time, .int .i64 B.node, .bool B.dead, .string ⟨B.text.toArray⟩, up, um, .int .u64 (B.flags.toNat : Int)] 46)).alloc (.cells #[.int .i64 0, .int .i64 0, .int .i64 0, .bool false, .string ⟨#[]⟩, .slice none 0 0, .slice none 0 0, .int .u64 0] 46)).heap.size = w.heap.size + 3 := by simp
  clear hp hm gp gm hB1 hB2 hB3
  have HO : Kept (okV A = true) := ⟨by unfold okV; rw [h]; rfl⟩
  have HC : Kept (checkV B = 0) := ⟨by unfold checkV; rw [h2]; rfl⟩
  have HK := Kept.mk h
  have HI : Kept (ifaceK 3 = .iface 164 (.agg #[])) := ⟨rfl⟩
  have d3 : (A.kind == B.kind) = true := by simpa using h3
  clear h h2 h3
  go_enter Tryz.func116, Tryz.ntmps116
  go_wp2_with fail
  generalize ((w.alloc (.cells #[.int .i64 A.kind, .int .i64 A.time, .int .i64 A.node, .bool A.dead, .string ⟨A.text.toArray⟩, vp, vm, .int .u64 (A.flags.toNat : Int)] 46)).alloc (.cells #[.int .i64 B.kind, .int .i64 B.time, .int .i64 B.node, .bool B.dead, .string ⟨B.text.toArray⟩, up, um, .int .u64 (B.flags.toNat : Int)] 46)).alloc (.cells #[.int .i64 0, .int .i64 0, .int .i64 0, .bool false, .string ⟨#[]⟩, .slice none 0 0, .slice none 0 0, .int .u64 0] 46) = W0 at *
  refine (kv_any A _ _ hX.out hA).mono ?_
  rintro e w1 ⟨rfl, hb1⟩
  replace hV := Kept.mk (hV.out.keep hb1)
  replace hU := Kept.mk (hU.out.keep hb1)
  replace HF := Kept.mk (HF.out.keep hb1 HZ.out.1)
  replace HZ := Kept.mk (HZ.out.keep hb1 HZ.out.1)
  replace hB := Kept.mk (hB.out.trans (hb1.mono hB.out.size))
  have hs1 := hb1.size
  clear hb1 hX
  rewrite [HO.out, HK.out, HI.out]
  obtain ⟨qb, rb, xb, _, _, kb0, kb1, kb2, kb3, kb4, kb5, kb6, kb7⟩ := hU.out.open_
  have Xb := Kept.mk xb
  clear xb
  go_wp2_with fail
  refine (vcheck_any B _ _ Xb.out hB0).mono ?_
  rintro e w2 ⟨rfl, hb2⟩
  replace hV := Kept.mk (hV.out.keep hb2)
  replace hU := Kept.mk (hU.out.keep hb2)
  replace HF := Kept.mk (HF.out.keep hb2 HZ.out.1)
  replace HZ := Kept.mk (HZ.out.keep hb2 HZ.out.1)
  replace hB := Kept.mk (hB.out.trans (hb2.mono hB.out.size))
  have hs2 := hb2.size
  rewrite [HC.out]
  clear hb2
  clear Xb kb0 kb1 kb2 kb3 kb4 kb5 kb6 kb7
  obtain ⟨qa, ra, xa, _, _, ka0, ka1, ka2, ka3, ka4, ka5, ka6, ka7⟩ := hV.out.open_
  have Xa := Kept.mk xa
  clear xa
  obtain ⟨qb, rb, xb, _, _, kb0, kb1, kb2, kb3, kb4, kb5, kb6, kb7⟩ := hU.out.open_
  have Xb := Kept.mk xb
  clear xb
  have hinv : ∀ W : World, (invoke (.fn (.method "ouroboros/value.join") #[]) #[.iface 164 (.agg #[]), .agg #[.int .i64 A.kind, .int .i64 A.time, .int .i64 A.node, .bool A.dead, .string ⟨A.text.toArray⟩, qa, ra, .int .u64 (A.flags.toNat : Int)], .agg #[.int .i64 B.kind, .int .i64 B.time, .int .i64 B.node, .bool B.dead, .string ⟨B.text.toArray⟩, qb, rb, .int .u64 (B.flags.toNat : Int)]]).run Tryz.prog W = .ok (.enter 202 #[.agg #[], .agg #[.int .i64 A.kind, .int .i64 A.time, .int .i64 A.node, .bool A.dead, .string ⟨A.text.toArray⟩, qa, ra, .int .u64 (A.flags.toNat : Int)], .agg #[.int .i64 B.kind, .int .i64 B.time, .int .i64 B.node, .bool B.dead, .string ⟨B.text.toArray⟩, qb, rb, .int .u64 (B.flags.toNat : Int)]]) W := fun W => by kernel_rfl
  go_wp2_with fail
  refine (flagsJoin_any A B _ _ _ Xa.out Xb.out).mono ?_
  rintro e w3 ⟨v', rfl, ⟨p', m', rfl, hp1, hm1, np, nm⟩, hb3⟩
  have hZ1 := HZ.out.keep hb3 HZ.out.1
  have K1 := Kept.mk hZ1
  have K2 := Kept.mk (HF.out.keep hb3 HZ.out.1)
  obtain ⟨hBK, K4, K5⟩ := vset (joinFlags A B) p' m' (g := w.heap.size + 2) (by omega) (hB.out.trans (hb3.mono hB.out.size)) hZ1 rfl hp1 hm1 (np.ne (by omega)) (nm.ne (by omega))
  obtain ⟨hc', hp', hm'⟩ := K4.out
  replace np := np.low (B' := w.heap.size) (by omega)
  replace nm := nm.low (B' := w.heap.size) (by omega)
  clear K4 hp1 hm1 hZ1 hb3 hinv
  clear Xa ka0 ka1 ka2 ka3 ka4 ka5 ka6 ka7
  clear Xb kb0 kb1 kb2 kb3 kb4 kb5 kb6 kb7
  go_wp2_with (refine wpList_storeN 46 rfl (.tmp 4) (.tmp 30) rfl (w.heap.size + 2) [.int .i64 (joinFlags A B).kind, .int .i64 (joinFlags A B).time, .int .i64 (joinFlags A B).node, .bool (joinFlags A B).dead, .string ⟨(joinFlags A B).text.toArray⟩, p', m', .int .u64 ((joinFlags A B).flags.toNat : Int)] size_va rfl rfl K1.out rfl K2.out K5.out ?_)
  exact bodyPost_ret (resultsN2 rfl _ _ (w.heap.size + 2) _ (.int .i64 0) size_va agg_va rfl rfl hc') rfl ⟨_, rfl, ⟨_, _, rfl, hp', hm', np, nm⟩, hBK.out⟩
theorem vjoin_any (A B : Va) (v u : Value) (w : World) (hv : isVa A v w) (hu : isVa B u w) (hA : Fit A) (hB0 : Fit B) :
    Calls Tryz.prog 116 #[v, u] w fun e w' => ∃ v', e = .returned (.tuple #[v', .int .i64 (joinE A B)]) ∧ isVaN w.heap.size (joinF A B) v' w' ∧ Below w.heap.size w w' := by
  cases h1 : okV A with
  | false =>
    have e : joinE A B = 2 := by unfold joinE; rw [h1]; rfl
    rw [show joinF A B = zeroV by unfold joinF; rw [e]; rfl, e]
    exact vjoin_no1 A B v u w hv hu hA hB0 h1
  | true =>
    cases h2 : okV B with
    | false =>
      have e : joinE A B = 2 := by unfold joinE; rw [h1, h2]; rfl
      rw [show joinF A B = zeroV by unfold joinF; rw [e]; rfl, e]
      exact vjoin_no2 A B v u w hv hu hA hB0 h1 h2
    | true =>
      by_cases h3 : A.kind = B.kind
      · have e : joinE A B = 0 := joinE_zero.2 ⟨h1, h2, h3⟩
        have hk := kindN_ok h1
        rw [joinF_ok e, e]
        rcases ok_kind h1 with k | k | k
        · rw [joinV_reg k]; exact vjoin_reg A B v u w hv hu hA hB0 (by omega) h2 h3
        · have r1 := kindN_two (show kindN A = 2 by omega)
          have r2 := kindN_two (show kindN B = 2 by have := kindN_ok h2; omega)
          rw [joinV_count k]; exact vjoin_count A B v u w hv hu hA hB0 (by omega) h2 h3 (okRow_len r1.2.2.1) (okRow_len r1.2.2.2) (okRow_len r2.2.2.1) (okRow_len r2.2.2.2)
        · rw [joinV_flags k]; exact vjoin_flags A B v u w hv hu hA hB0 (by omega) h2 h3
      · have e : joinE A B = 3 := by unfold joinE; rw [h1, h2]; simp [h3]
        rw [show joinF A B = zeroV by unfold joinF; rw [e]; rfl, e]
        exact vjoin_no3 A B v u w hv hu hA hB0 h1 h2 h3
end Go.Proofs.YtkjghoomdefbbaaGreatDoor
end
section
namespace Go.Proofs.YtkjghoomdefbbaaGreatDoor
open Go.RowKit
set_option linter.unusedVariables false
set_option linter.unusedSimpArgs false
attribute [local irreducible] setN

theorem vsame_fit (A B : Va) (v u : Value) (w : World) (hv : isVa A v w) (hu : isVa B u w) (h1 : Fit A) (h2 : Fit B) :
    Calls Tryz.prog 117 #[v, u] w fun e w' => e = .returned (.bool (decide (A = B))) ∧ Below w.heap.size w w' :=
  vsame_any A B v u w hv hu (by have := h1.plus; omega) (by have := h1.minus; omega) (by have := h2.plus; omega) (by have := h2.minus; omega)
def fewV (A : Va) : Bool := decide ((A.text.length : Int) ≤ 100) && decide ((A.plus.length : Int) ≤ 40) && decide ((A.minus.length : Int) ≤ 40)
theorem few_fit {A : Va} (h : fewV A = true) : Fit A := by
  unfold fewV at h
  simp only [Bool.and_eq_true, decide_eq_true_eq] at h
  exact ⟨by omega, by omega, by omega⟩
set_option maxRecDepth 20000 in
set_option maxHeartbeats 1000000 in
theorem vfew_any (A : Va) (v : Value) (w : World) (hv : isVa A v w) :
    Calls Tryz.prog 53 #[v] w fun e w' => e = .returned (.bool (fewV A)) ∧ Below w.heap.size w w' := by
  obtain ⟨vp, vm, rfl, hp, hm⟩ := hv
  obtain ⟨hB, _⟩ := vbox w A vp vm hp hm w.heap.size rfl
  obtain ⟨a, cap, rfl⟩ := hp.len
  obtain ⟨a2, cap2, rfl⟩ := hm.len
  clear hp hm
  rw [List.length_map, List.length_map] at *
  have HS := Kept.mk (show fewV A = (decide ((A.text.length : Int) ≤ 100) && decide ((A.plus.length : Int) ≤ 40) && decide ((A.minus.length : Int) ≤ 40)) from rfl)
  have hsz : (⟨A.text.toArray⟩ : ByteArray).size = A.text.length := size_mk _
  cases d1 : decide ((A.text.length : Int) ≤ 100) with
  | false =>
    go_enter Tryz.func53, Tryz.ntmps53
    go_wp2
    go_ret
    exact ⟨by rw [HS.out, d1]; rfl, hB.out⟩
  | true =>
    cases d2 : decide ((A.plus.length : Int) ≤ 40) with
    | false =>
      go_enter Tryz.func53, Tryz.ntmps53
      go_wp2
      go_ret
      exact ⟨by rw [HS.out, d1, d2]; rfl, hB.out⟩
    | true =>
      go_enter Tryz.func53, Tryz.ntmps53
      go_wp2
      go_ret
      exact ⟨by rw [HS.out, d1, d2]; rfl, hB.out⟩
end Go.Proofs.YtkjghoomdefbbaaGreatDoor
end
section
namespace Go.Proofs.YtkjghoomdefbbaaGreatDoor
open Go.RowKit
set_option linter.unusedVariables false
set_option linter.unusedSimpArgs false

def isEn (E : En) : VP := fun v w => ∃ vp vm, v = .agg #[.string ⟨E.key.toArray⟩, .int .i64 E.val.kind, .int .i64 E.val.time, .int .i64 E.val.node, .bool E.val.dead, .string ⟨E.val.text.toArray⟩, vp, vm, .int .u64 (E.val.flags.toNat : Int)] ∧ isCells (E.val.plus.map intC) vp w ∧ isCells (E.val.minus.map intC) vm w
def isEnN (B : Nat) (E : En) : VP := fun v w => ∃ vp vm, v = .agg #[.string ⟨E.key.toArray⟩, .int .i64 E.val.kind, .int .i64 E.val.time, .int .i64 E.val.node, .bool E.val.dead, .string ⟨E.val.text.toArray⟩, vp, vm, .int .u64 (E.val.flags.toNat : Int)] ∧ isCells (E.val.plus.map intC) vp w ∧ isCells (E.val.minus.map intC) vm w ∧ NewB B vp ∧ NewB B vm
theorem isEnN.en {B : Nat} {E : En} {v : Value} {w : World} (h : isEnN B E v w) : isEn E v w := by obtain ⟨vp, vm, e, hp, hm, _⟩ := h; exact ⟨vp, vm, e, hp, hm⟩
/-- Block g holds the entry E. -/
def VarN (w : World) (g : Nat) (E : En) : Prop := ∃ vp vm, CellsN w g [.string ⟨E.key.toArray⟩, .int .i64 E.val.kind, .int .i64 E.val.time, .int .i64 E.val.node, .bool E.val.dead, .string ⟨E.val.text.toArray⟩, vp, vm, .int .u64 (E.val.flags.toNat : Int)] ∧ isCells (E.val.plus.map intC) vp w ∧ isCells (E.val.minus.map intC) vm w
theorem VarN.keep {w w' : World} {g : Nat} {E : En} (h : VarN w g E) (hb : Below w.heap.size w w') : VarN w' g E := by
  obtain ⟨vp, vm, hc, hp, hm⟩ := h
  exact ⟨vp, vm, hc.keep hb hc.1, stable_cells _ _ _ _ hp hb, stable_cells _ _ _ _ hm hb⟩
theorem VarN.lt {w : World} {g : Nat} {E : En} (h : VarN w g E) : g < w.heap.size := by obtain ⟨_, _, hc, _⟩ := h; exact hc.1
theorem VarN.open_ {w : World} {g : Nat} {E : En} (h : VarN w g E) : ∃ vp vm, isEn E (.agg #[.string ⟨E.key.toArray⟩, .int .i64 E.val.kind, .int .i64 E.val.time, .int .i64 E.val.node, .bool E.val.dead, .string ⟨E.val.text.toArray⟩, vp, vm, .int .u64 (E.val.flags.toNat : Int)]) w ∧ isVa E.val (.agg #[.int .i64 E.val.kind, .int .i64 E.val.time, .int .i64 E.val.node, .bool E.val.dead, .string ⟨E.val.text.toArray⟩, vp, vm, .int .u64 (E.val.flags.toNat : Int)]) w ∧ w.cell? ⟨g, 0, none⟩ = some (.string ⟨E.key.toArray⟩) ∧ w.cell? ⟨g, 1, none⟩ = some (.int .i64 E.val.kind) ∧ w.cell? ⟨g, 2, none⟩ = some (.int .i64 E.val.time) ∧ w.cell? ⟨g, 3, none⟩ = some (.int .i64 E.val.node) ∧ w.cell? ⟨g, 4, none⟩ = some (.bool E.val.dead) ∧ w.cell? ⟨g, 5, none⟩ = some (.string ⟨E.val.text.toArray⟩) ∧ w.cell? ⟨g, 6, none⟩ = some (vp) ∧ w.cell? ⟨g, 7, none⟩ = some (vm) ∧ w.cell? ⟨g, 8, none⟩ = some (.int .u64 (E.val.flags.toNat : Int)) := by
  obtain ⟨vp, vm, hc, hp, hm⟩ := h
  exact ⟨vp, vm, ⟨vp, vm, rfl, hp, hm⟩, ⟨vp, vm, rfl, hp, hm⟩, hc.2 0 _ rfl, hc.2 1 _ rfl, hc.2 2 _ rfl, hc.2 3 _ rfl, hc.2 4 _ rfl, hc.2 5 _ rfl, hc.2 6 _ rfl, hc.2 7 _ rfl, hc.2 8 _ rfl⟩
theorem size_en : (Tryz.prog.info? 48).map (·.size) = some 9 := by kernel_rfl
theorem agg_en (w : World) : (isAgg 48).run Tryz.prog w = .ok true w := by simp [isAgg, run_underlying Tryz.underlying48]
theorem ebox (w : World) (E : En) (vp vm : Value) (hp : isCells (E.val.plus.map intC) vp w) (hm : isCells (E.val.minus.map intC) vm w) (n : Nat) (hn : n = w.heap.size) :
    Kept (Below w.heap.size w (w.alloc (.cells #[.string ⟨E.key.toArray⟩, .int .i64 E.val.kind, .int .i64 E.val.time, .int .i64 E.val.node, .bool E.val.dead, .string ⟨E.val.text.toArray⟩, vp, vm, .int .u64 (E.val.flags.toNat : Int)] 48))) ∧ Kept (VarN (w.alloc (.cells #[.string ⟨E.key.toArray⟩, .int .i64 E.val.kind, .int .i64 E.val.time, .int .i64 E.val.node, .bool E.val.dead, .string ⟨E.val.text.toArray⟩, vp, vm, .int .u64 (E.val.flags.toNat : Int)] 48)) n E) := by
  subst hn
  have hb : Below w.heap.size w (w.alloc (.cells #[.string ⟨E.key.toArray⟩, .int .i64 E.val.kind, .int .i64 E.val.time, .int .i64 E.val.node, .bool E.val.dead, .string ⟨E.val.text.toArray⟩, vp, vm, .int .u64 (E.val.flags.toNat : Int)] 48)) := (Below.refl _ _).alloc (Nat.le_refl _) _
  exact ⟨⟨hb⟩, ⟨⟨vp, vm, cellsN_new w 48 _, stable_cells _ _ _ _ hp hb, stable_cells _ _ _ _ hm hb⟩⟩⟩
theorem enew (w : World) (E : En) (vp vm : Value) (hp : isCells (E.val.plus.map intC) vp w) (hm : isCells (E.val.minus.map intC) vm w) (n : Nat) (hn : n = w.heap.size) :
    Kept (CellsN (w.alloc (.cells #[.string ⟨#[]⟩, .int .i64 0, .int .i64 0, .int .i64 0, .bool false, .string ⟨#[]⟩, .slice none 0 0, .slice none 0 0, .int .u64 0] 48)) n [.string ⟨#[]⟩, .int .i64 0, .int .i64 0, .int .i64 0, .bool false, .string ⟨#[]⟩, .slice none 0 0, .slice none 0 0, .int .u64 0]) ∧ Kept (Free5 (w.alloc (.cells #[.string ⟨#[]⟩, .int .i64 0, .int .i64 0, .int .i64 0, .bool false, .string ⟨#[]⟩, .slice none 0 0, .slice none 0 0, .int .u64 0] 48)) n) ∧ Kept (Below w.heap.size w (setN (w.alloc (.cells #[.string ⟨#[]⟩, .int .i64 0, .int .i64 0, .int .i64 0, .bool false, .string ⟨#[]⟩, .slice none 0 0, .slice none 0 0, .int .u64 0] 48)) n 0 [.string ⟨E.key.toArray⟩, .int .i64 E.val.kind, .int .i64 E.val.time, .int .i64 E.val.node, .bool E.val.dead, .string ⟨E.val.text.toArray⟩, vp, vm, .int .u64 (E.val.flags.toNat : Int)])) ∧
    Kept (CellsN (setN (w.alloc (.cells #[.string ⟨#[]⟩, .int .i64 0, .int .i64 0, .int .i64 0, .bool false, .string ⟨#[]⟩, .slice none 0 0, .slice none 0 0, .int .u64 0] 48)) n 0 [.string ⟨E.key.toArray⟩, .int .i64 E.val.kind, .int .i64 E.val.time, .int .i64 E.val.node, .bool E.val.dead, .string ⟨E.val.text.toArray⟩, vp, vm, .int .u64 (E.val.flags.toNat : Int)]) n [.string ⟨E.key.toArray⟩, .int .i64 E.val.kind, .int .i64 E.val.time, .int .i64 E.val.node, .bool E.val.dead, .string ⟨E.val.text.toArray⟩, vp, vm, .int .u64 (E.val.flags.toNat : Int)] ∧ isCells (E.val.plus.map intC) vp (setN (w.alloc (.cells #[.string ⟨#[]⟩, .int .i64 0, .int .i64 0, .int .i64 0, .bool false, .string ⟨#[]⟩, .slice none 0 0, .slice none 0 0, .int .u64 0] 48)) n 0 [.string ⟨E.key.toArray⟩, .int .i64 E.val.kind, .int .i64 E.val.time, .int .i64 E.val.node, .bool E.val.dead, .string ⟨E.val.text.toArray⟩, vp, vm, .int .u64 (E.val.flags.toNat : Int)]) ∧ isCells (E.val.minus.map intC) vm (setN (w.alloc (.cells #[.string ⟨#[]⟩, .int .i64 0, .int .i64 0, .int .i64 0, .bool false, .string ⟨#[]⟩, .slice none 0 0, .slice none 0 0, .int .u64 0] 48)) n 0 [.string ⟨E.key.toArray⟩, .int .i64 E.val.kind, .int .i64 E.val.time, .int .i64 E.val.node, .bool E.val.dead, .string ⟨E.val.text.toArray⟩, vp, vm, .int .u64 (E.val.flags.toNat : Int)])) ∧ Kept (Ones [.string ⟨E.key.toArray⟩, .int .i64 E.val.kind, .int .i64 E.val.time, .int .i64 E.val.node, .bool E.val.dead, .string ⟨E.val.text.toArray⟩, vp, vm, .int .u64 (E.val.flags.toNat : Int)]) := by
  subst hn
  have hb := lit_below w (.cells #[.string ⟨#[]⟩, .int .i64 0, .int .i64 0, .int .i64 0, .bool false, .string ⟨#[]⟩, .slice none 0 0, .slice none 0 0, .int .u64 0] 48)
  have hc := cellsN_new w 48 [.string ⟨#[]⟩, .int .i64 0, .int .i64 0, .int .i64 0, .bool false, .string ⟨#[]⟩, .slice none 0 0, .slice none 0 0, .int .u64 0]
  have hb5 := below_setN (Nat.le_refl _) [.string ⟨E.key.toArray⟩, .int .i64 E.val.kind, .int .i64 E.val.time, .int .i64 E.val.node, .bool E.val.dead, .string ⟨E.val.text.toArray⟩, vp, vm, .int .u64 (E.val.flags.toNat : Int)] 0 _ hb
  exact ⟨⟨hc⟩, ⟨free5_new w _ _⟩, ⟨hb5⟩, ⟨⟨hc.setN_ _ rfl, stable_cells _ _ _ _ hp hb5, stable_cells _ _ _ _ hm hb5⟩⟩, ⟨⟨rfl, rfl, rfl, rfl, rfl, rfl, hp.one, hm.one, rfl, trivial⟩⟩⟩
/-- An entry laid down in a block that is there already. -/
theorem eset {B g : Nat} {w0 w : World} (E : En) (vp vm : Value) (hB : B ≤ g) (hb : Below B w0 w) {old : List Value} (hc : CellsN w g old) (h9 : old.length = 9) (hp : isCells (E.val.plus.map intC) vp w) (hm : isCells (E.val.minus.map intC) vm w) (np : blk vp ≠ some g) (nm : blk vm ≠ some g) :
    Kept (Below B w0 (setN w g 0 [.string ⟨E.key.toArray⟩, .int .i64 E.val.kind, .int .i64 E.val.time, .int .i64 E.val.node, .bool E.val.dead, .string ⟨E.val.text.toArray⟩, vp, vm, .int .u64 (E.val.flags.toNat : Int)])) ∧ Kept (CellsN (setN w g 0 [.string ⟨E.key.toArray⟩, .int .i64 E.val.kind, .int .i64 E.val.time, .int .i64 E.val.node, .bool E.val.dead, .string ⟨E.val.text.toArray⟩, vp, vm, .int .u64 (E.val.flags.toNat : Int)]) g [.string ⟨E.key.toArray⟩, .int .i64 E.val.kind, .int .i64 E.val.time, .int .i64 E.val.node, .bool E.val.dead, .string ⟨E.val.text.toArray⟩, vp, vm, .int .u64 (E.val.flags.toNat : Int)]) ∧ Kept (isCells (E.val.plus.map intC) vp (setN w g 0 [.string ⟨E.key.toArray⟩, .int .i64 E.val.kind, .int .i64 E.val.time, .int .i64 E.val.node, .bool E.val.dead, .string ⟨E.val.text.toArray⟩, vp, vm, .int .u64 (E.val.flags.toNat : Int)])) ∧ Kept (isCells (E.val.minus.map intC) vm (setN w g 0 [.string ⟨E.key.toArray⟩, .int .i64 E.val.kind, .int .i64 E.val.time, .int .i64 E.val.node, .bool E.val.dead, .string ⟨E.val.text.toArray⟩, vp, vm, .int .u64 (E.val.flags.toNat : Int)])) ∧ Kept (Ones [.string ⟨E.key.toArray⟩, .int .i64 E.val.kind, .int .i64 E.val.time, .int .i64 E.val.node, .bool E.val.dead, .string ⟨E.val.text.toArray⟩, vp, vm, .int .u64 (E.val.flags.toNat : Int)]) := by
  have ap : ∀ (v : Value) (cs : List Value), blk v ≠ some g → ∀ b off cap, v = .slice (some ⟨b, off, none⟩) cs.length cap → cs ≠ [] → b ≠ g := by
    rintro v cs h b off cap rfl _ rfl
    exact h rfl
  exact ⟨⟨below_setN hB _ 0 _ hb⟩, ⟨hc.setN_ _ h9⟩, ⟨cells_apart hp (ap vp _ np) _ _⟩, ⟨cells_apart hm (ap vm _ nm) _ _⟩, ⟨⟨rfl, rfl, rfl, rfl, rfl, rfl, hp.one, hm.one, rfl, trivial⟩⟩⟩
structure FitE (E : En) : Prop where
  key : E.key.length ≤ 1000000000
  val : Fit E.val
end Go.Proofs.YtkjghoomdefbbaaGreatDoor
end
