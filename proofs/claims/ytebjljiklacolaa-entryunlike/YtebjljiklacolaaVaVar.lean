/- Values in memory. -/
import Derived.Test.YtebjljiklacolaaVaRow
namespace Go.Proofs.Ytebjljiklacolaa
open Go.RowKit
set_option linter.unusedVariables false
set_option linter.unusedSimpArgs false

def isVa (A : Va) : VP := fun v w => ∃ vp vm, v = .agg #[.int .i64 A.kind, .int .i64 A.time, .int .i64 A.node, .bool A.dead, .string ⟨A.text.toArray⟩, vp, vm, .int .u64 (A.flags.toNat : Int)] ∧ isCells (A.plus.map intC) vp w ∧ isCells (A.minus.map intC) vm w
theorem stable_va (A : Va) : Stable (isVa A) := fun v w w' ⟨vp, vm, e, hp, hm⟩ hb => ⟨vp, vm, e, stable_cells _ _ _ _ hp hb, stable_cells _ _ _ _ hm hb⟩
theorem va_grow {A : Va} {v : Value} {w w' : World} (h : isVa A v w) (hb : Below w.heap.size w w') : isVa A v w' := stable_va A v w w' h hb
theorem isCells.one {cs : List Value} {v : Value} {w : World} (h : isCells cs v w) : v.oneCell' = true := by
  obtain ⟨a, cap, rfl⟩ := h.len
  rfl
/-- Block g holds the value A. -/
def VarV (w : World) (g : Nat) (A : Va) : Prop := ∃ vp vm, CellsN w g [.int .i64 A.kind, .int .i64 A.time, .int .i64 A.node, .bool A.dead, .string ⟨A.text.toArray⟩, vp, vm, .int .u64 (A.flags.toNat : Int)] ∧ isCells (A.plus.map intC) vp w ∧ isCells (A.minus.map intC) vm w
theorem VarV.keep {w w' : World} {g : Nat} {A : Va} (h : VarV w g A) (hb : Below w.heap.size w w') : VarV w' g A := by
  obtain ⟨vp, vm, hc, hp, hm⟩ := h
  exact ⟨vp, vm, hc.keep hb hc.1, stable_cells _ _ _ _ hp hb, stable_cells _ _ _ _ hm hb⟩
theorem VarV.lt {w : World} {g : Nat} {A : Va} (h : VarV w g A) : g < w.heap.size := by obtain ⟨_, _, hc, _⟩ := h; exact hc.1
theorem VarV.open_ {w : World} {g : Nat} {A : Va} (h : VarV w g A) : ∃ vp vm, isVa A (.agg #[.int .i64 A.kind, .int .i64 A.time, .int .i64 A.node, .bool A.dead, .string ⟨A.text.toArray⟩, vp, vm, .int .u64 (A.flags.toNat : Int)]) w ∧ Kept (isCells (A.plus.map intC) vp w) ∧ Kept (isCells (A.minus.map intC) vm w) ∧
    w.cell? ⟨g, 0, none⟩ = some (.int .i64 A.kind) ∧ w.cell? ⟨g, 1, none⟩ = some (.int .i64 A.time) ∧ w.cell? ⟨g, 2, none⟩ = some (.int .i64 A.node) ∧ w.cell? ⟨g, 3, none⟩ = some (.bool A.dead) ∧ w.cell? ⟨g, 4, none⟩ = some (.string ⟨A.text.toArray⟩) ∧
    w.cell? ⟨g, 5, none⟩ = some vp ∧ w.cell? ⟨g, 6, none⟩ = some vm ∧ w.cell? ⟨g, 7, none⟩ = some (.int .u64 (A.flags.toNat : Int)) := by
  obtain ⟨vp, vm, hc, hp, hm⟩ := h
  exact ⟨vp, vm, ⟨vp, vm, rfl, hp, hm⟩, ⟨hp⟩, ⟨hm⟩, hc.2 0 _ rfl, hc.2 1 _ rfl, hc.2 2 _ rfl, hc.2 3 _ rfl, hc.2 4 _ rfl, hc.2 5 _ rfl, hc.2 6 _ rfl, hc.2 7 _ rfl⟩
/-- .. with just these rows. -/
def VarE (w : World) (g : Nat) (A : Va) (vp vm : Value) : Prop := CellsN w g [.int .i64 A.kind, .int .i64 A.time, .int .i64 A.node, .bool A.dead, .string ⟨A.text.toArray⟩, vp, vm, .int .u64 (A.flags.toNat : Int)] ∧ isCells (A.plus.map intC) vp w ∧ isCells (A.minus.map intC) vm w
theorem VarE.var {w : World} {g : Nat} {A : Va} {vp vm : Value} (h : VarE w g A vp vm) : VarV w g A := ⟨vp, vm, h⟩
def blk : Value → Option Nat
  | .slice (some a) _ _ => some a.block
  | _ => none
/-- It stands in a block that is no older than B, or in none. -/
def NewB (B : Nat) (v : Value) : Prop := ∀ b, blk v = some b → B ≤ b
theorem NewB.low {B B' : Nat} {v : Value} (h : NewB B v) (hB : B' ≤ B) : NewB B' v := fun b hb => Nat.le_trans hB (h b hb)
theorem newB_nil (B : Nat) : NewB B (.slice none 0 0) := fun b h => by cases h
theorem newB_row {B g : Nat} (h : B ≤ g) (o n c : Nat) : NewB B (.slice (some ⟨g, o, none⟩) n c) := fun b hb => by cases hb; exact h
theorem NewB.ne {B g : Nat} {v : Value} (h : NewB B v) (hg : g < B) : blk v ≠ some g := fun e => by have := h g e; omega
/-- A value whose rows are new. -/
def isVaN (B : Nat) (A : Va) : VP := fun v w => ∃ vp vm, v = .agg #[.int .i64 A.kind, .int .i64 A.time, .int .i64 A.node, .bool A.dead, .string ⟨A.text.toArray⟩, vp, vm, .int .u64 (A.flags.toNat : Int)] ∧ isCells (A.plus.map intC) vp w ∧ isCells (A.minus.map intC) vm w ∧ NewB B vp ∧ NewB B vm
theorem isVaN.va {B : Nat} {A : Va} {v : Value} {w : World} (h : isVaN B A v w) : isVa A v w := by obtain ⟨vp, vm, e, hp, hm, _⟩ := h; exact ⟨vp, vm, e, hp, hm⟩
theorem isVaN.low {B B' : Nat} {A : Va} {v : Value} {w : World} (h : isVaN B A v w) (hB : B' ≤ B) : isVaN B' A v w := by obtain ⟨vp, vm, e, hp, hm, np, nm⟩ := h; exact ⟨vp, vm, e, hp, hm, np.low hB, nm.low hB⟩
/-- A parameter's box. -/
theorem vbox (w : World) (A : Va) (vp vm : Value) (hp : isCells (A.plus.map intC) vp w) (hm : isCells (A.minus.map intC) vm w) (n : Nat) (hn : n = w.heap.size) :
    Kept (Below w.heap.size w (w.alloc (.cells #[.int .i64 A.kind, .int .i64 A.time, .int .i64 A.node, .bool A.dead, .string ⟨A.text.toArray⟩, vp, vm, .int .u64 (A.flags.toNat : Int)] 25))) ∧
    Kept (VarV (w.alloc (.cells #[.int .i64 A.kind, .int .i64 A.time, .int .i64 A.node, .bool A.dead, .string ⟨A.text.toArray⟩, vp, vm, .int .u64 (A.flags.toNat : Int)] 25)) n A) := by
  subst hn
  have hb : Below w.heap.size w (w.alloc (.cells #[.int .i64 A.kind, .int .i64 A.time, .int .i64 A.node, .bool A.dead, .string ⟨A.text.toArray⟩, vp, vm, .int .u64 (A.flags.toNat : Int)] 25)) := (Below.refl _ _).alloc (Nat.le_refl _) _
  exact ⟨⟨hb⟩, ⟨⟨vp, vm, cellsN_new w 25 _, stable_cells _ _ _ _ hp hb, stable_cells _ _ _ _ hm hb⟩⟩⟩
theorem lit_below (W : World) (o : Obj) : Below W.heap.size W (W.alloc o) := (Below.refl _ _).alloc (Nat.le_refl _) _
theorem size_va : (Try.prog.info? 25).map (·.size) = some 8 := by kernel_rfl
theorem agg_va (w : World) : (isAgg 25).run Try.prog w = .ok true w := by simp [isAgg, run_underlying Try.underlying25]
theorem field_va (g k : Nat) (hk : k < 8) (w : World) : (Instr.fieldAt 25 (.pointer (some ⟨g, 0, none⟩)) k).run Try.prog w = .ok (.pointer (some ⟨g, k, none⟩)) w := by
  have h : k = 0 ∨ k = 1 ∨ k = 2 ∨ k = 3 ∨ k = 4 ∨ k = 5 ∨ k = 6 ∨ k = 7 := by omega
  rcases h with rfl | rfl | rfl | rfl | rfl | rfl | rfl | rfl <;> simp [Instr.fieldAt, run_underlying Try.underlying25, Instr.sureAddr, fieldPlace, Addr.add]
/-- A result's or a variable's new block, in which a value is laid down. -/
theorem vnew (w : World) (A : Va) (vp vm : Value) (hp : isCells (A.plus.map intC) vp w) (hm : isCells (A.minus.map intC) vm w) (n : Nat) (hn : n = w.heap.size) :
    Kept (CellsN (w.alloc (.cells #[.int .i64 0, .int .i64 0, .int .i64 0, .bool false, .string ⟨#[]⟩, .slice none 0 0, .slice none 0 0, .int .u64 0] 25)) n [.int .i64 0, .int .i64 0, .int .i64 0, .bool false, .string ⟨#[]⟩, .slice none 0 0, .slice none 0 0, .int .u64 0]) ∧
    Kept (Free5 (w.alloc (.cells #[.int .i64 0, .int .i64 0, .int .i64 0, .bool false, .string ⟨#[]⟩, .slice none 0 0, .slice none 0 0, .int .u64 0] 25)) n) ∧
    Kept (Below w.heap.size w (setN (w.alloc (.cells #[.int .i64 0, .int .i64 0, .int .i64 0, .bool false, .string ⟨#[]⟩, .slice none 0 0, .slice none 0 0, .int .u64 0] 25)) n 0 [.int .i64 A.kind, .int .i64 A.time, .int .i64 A.node, .bool A.dead, .string ⟨A.text.toArray⟩, vp, vm, .int .u64 (A.flags.toNat : Int)])) ∧
    Kept (VarE (setN (w.alloc (.cells #[.int .i64 0, .int .i64 0, .int .i64 0, .bool false, .string ⟨#[]⟩, .slice none 0 0, .slice none 0 0, .int .u64 0] 25)) n 0 [.int .i64 A.kind, .int .i64 A.time, .int .i64 A.node, .bool A.dead, .string ⟨A.text.toArray⟩, vp, vm, .int .u64 (A.flags.toNat : Int)]) n A vp vm) ∧ Kept (Ones [.int .i64 A.kind, .int .i64 A.time, .int .i64 A.node, .bool A.dead, .string ⟨A.text.toArray⟩, vp, vm, .int .u64 (A.flags.toNat : Int)]) := by
  subst hn
  have hb := lit_below w (.cells #[.int .i64 0, .int .i64 0, .int .i64 0, .bool false, .string ⟨#[]⟩, .slice none 0 0, .slice none 0 0, .int .u64 0] 25)
  have hc := cellsN_new w 25 [.int .i64 0, .int .i64 0, .int .i64 0, .bool false, .string ⟨#[]⟩, .slice none 0 0, .slice none 0 0, .int .u64 0]
  have hb5 := below_setN (Nat.le_refl _) [.int .i64 A.kind, .int .i64 A.time, .int .i64 A.node, .bool A.dead, .string ⟨A.text.toArray⟩, vp, vm, .int .u64 (A.flags.toNat : Int)] 0 _ hb
  exact ⟨⟨hc⟩, ⟨free5_new w _ _⟩, ⟨hb5⟩, ⟨⟨hc.setN_ _ rfl, stable_cells _ _ _ _ hp hb5, stable_cells _ _ _ _ hm hb5⟩⟩, ⟨⟨rfl, rfl, rfl, rfl, rfl, hp.one, hm.one, rfl, trivial⟩⟩⟩
/-- A row stands as it stood, where another block is written. -/
theorem cells_apart {cs : List Value} {v : Value} {w : World} (h : isCells cs v w) {g : Nat} (hg : ∀ b off cap, v = .slice (some ⟨b, off, none⟩) cs.length cap → cs ≠ [] → b ≠ g) (k : Nat) (l : List Value) : isCells cs v (setN w g k l) := by
  rcases h with h | h | ⟨b, off, cap, e, hlt, hc⟩
  · exact .inl h
  · exact .inr (.inl h)
  · by_cases h0 : cs = []
    · subst h0; exact .inr (.inl ⟨_, _, e, rfl⟩)
    · exact .inr (.inr ⟨b, off, cap, e, by rw [size_setN]; exact hlt, fun j x hx => (setN_other g l k w _ (.inl (hg b off cap e h0))).trans (hc j x hx)⟩)
/-- .. in a block that is there already. -/
theorem vset {B g : Nat} {w0 w : World} (A : Va) (vp vm : Value) (hB : B ≤ g) (hb : Below B w0 w) {old : List Value} (hc : CellsN w g old) (h8 : old.length = 8) (hp : isCells (A.plus.map intC) vp w) (hm : isCells (A.minus.map intC) vm w) (np : blk vp ≠ some g) (nm : blk vm ≠ some g) :
    Kept (Below B w0 (setN w g 0 [.int .i64 A.kind, .int .i64 A.time, .int .i64 A.node, .bool A.dead, .string ⟨A.text.toArray⟩, vp, vm, .int .u64 (A.flags.toNat : Int)])) ∧
    Kept (VarE (setN w g 0 [.int .i64 A.kind, .int .i64 A.time, .int .i64 A.node, .bool A.dead, .string ⟨A.text.toArray⟩, vp, vm, .int .u64 (A.flags.toNat : Int)]) g A vp vm) ∧ Kept (Ones [.int .i64 A.kind, .int .i64 A.time, .int .i64 A.node, .bool A.dead, .string ⟨A.text.toArray⟩, vp, vm, .int .u64 (A.flags.toNat : Int)]) := by
  have ap : ∀ (v : Value) (cs : List Value), blk v ≠ some g → ∀ b off cap, v = .slice (some ⟨b, off, none⟩) cs.length cap → cs ≠ [] → b ≠ g := by
    rintro v cs h b off cap rfl _ rfl
    exact h rfl
  exact ⟨⟨below_setN hB _ 0 _ hb⟩, ⟨⟨hc.setN_ _ h8, cells_apart hp (ap vp _ np) _ _, cells_apart hm (ap vm _ nm) _ _⟩⟩, ⟨⟨rfl, rfl, rfl, rfl, rfl, hp.one, hm.one, rfl, trivial⟩⟩⟩
/-- A row that stood ahead of a block stands, where that block is written. -/
theorem cells_old {cs : List Value} {v : Value} {w0 w : World} (h : isCells cs v w0) (hb : Below w0.heap.size w0 w) {g : Nat} (hg : w0.heap.size ≤ g) (k : Nat) (l : List Value) : isCells cs v (setN w g k l) :=
  stable_cells _ _ _ _ h (below_setN hg l k _ hb)
end Go.Proofs.Ytebjljiklacolaa
