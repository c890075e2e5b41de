/- Rows of one-cell elements in memory, and devices: what a value is, whatever its memory. Nothing of the program but its types' numbers. -/
import Derived.Test.YtebjljiklacolaaFlowTail
import Derived.Test.YtebjljiklacolaaOctLists
namespace Go.Proofs.Ytebjljiklacolaa
open Go.RowKit
set_option linter.unusedVariables false
set_option linter.unusedSimpArgs false

/-- A fact that the walk does not look at. -/
structure Kept (p : Prop) : Prop where
  out : p
/-- A slice of just these cells. -/
def isCells (cs : List Value) : VP := fun v w => (v = .slice none 0 0 ∧ cs = []) ∨ (∃ a cap, v = .slice (some a) 0 cap ∧ cs = []) ∨
  ∃ b off cap, v = .slice (some ⟨b, off, none⟩) cs.length cap ∧ b < w.heap.size ∧ ∀ (j : Nat) (x : Value), cs[j]? = some x → w.cell? ⟨b, off + j, none⟩ = some x
theorem stable_cells (cs : List Value) : Stable (isCells cs) := by
  intro v w w' h hb
  rcases h with h | h | ⟨b, off, cap, e, hlt, hc⟩
  · exact .inl h
  · exact .inr (.inl h)
  · exact .inr (.inr ⟨b, off, cap, e, Nat.lt_of_lt_of_le hlt hb.size, fun j x hx => (hb.cell (p := ⟨b, off + j, none⟩) hlt).trans (hc j x hx)⟩)
theorem isCells.len {cs : List Value} {v : Value} {w : World} (h : isCells cs v w) : ∃ a cap, v = .slice a cs.length cap := by
  rcases h with ⟨rfl, rfl⟩ | ⟨a, cap, rfl, rfl⟩ | ⟨b, off, cap, rfl, _⟩
  · exact ⟨_, _, rfl⟩
  · exact ⟨_, _, rfl⟩
  · exact ⟨_, _, rfl⟩
theorem isCells.some_ {cs : List Value} {v : Value} {w : World} (h : isCells cs v w) (h0 : 0 < cs.length) : ∃ b off cap, v = .slice (some ⟨b, off, none⟩) cs.length cap ∧ b < w.heap.size ∧ ∀ (j : Nat) (x : Value), cs[j]? = some x → w.cell? ⟨b, off + j, none⟩ = some x := by
  rcases h with ⟨rfl, rfl⟩ | ⟨a, cap, rfl, rfl⟩ | h
  · simp at h0
  · simp at h0
  · exact h
theorem isCells_own {w : World} {B : Nat} {e : TypeId} {v : Value} {n : Nat} {cs : List Value} (h : w.ownsRow B e 1 v n cs) : isCells cs v w := by
  obtain ⟨hl, h | ⟨g, cap, cur, rfl, hB, hg, hn, _, hs, ht⟩⟩ := h
  · obtain ⟨rfl, rfl⟩ := h
    exact .inl ⟨rfl, List.eq_nil_of_length_eq_zero (by simpa using hl)⟩
  · rw [Nat.mul_one] at hl
    subst hl
    refine .inr (.inr ⟨g, 0, cap, rfl, (Array.getElem?_eq_some_iff.1 hg).1, fun j x hx => ?_⟩)
    have hj := (List.getElem?_eq_some_iff.1 hx).1
    rw [← ht] at hx
    rw [Nat.mul_one, List.getElem?_take, if_pos hj] at hx
    simp only [World.cell?, hg]
    simpa using hx

def strC (l : List UInt8) : Value := .string ⟨l.toArray⟩
def intC (n : Int) : Value := .int .i64 n
theorem get_map {α : Type} (f : α → Value) (l : List α) (j : Nat) (h : j < l.length) : (l.map f)[j]? = some (f l[j]) := by simp [h]

/-- A device. -/
structure Fl where
  pages : List (List UInt8)
  wear : List Int
  fuse : Int
  torn : List UInt8
  dead : Bool
def isFl (F : Fl) : VP := fun v w => ∃ vp vw, v = .agg #[vp, vw, .int .i64 F.fuse, strC F.torn, .bool F.dead] ∧ isCells (F.pages.map strC) vp w ∧ isCells (F.wear.map intC) vw w
theorem stable_fl (F : Fl) : Stable (isFl F) := fun v w w' ⟨vp, vw, e, hp, hw⟩ hb => ⟨vp, vw, e, stable_cells _ _ _ _ hp hb, stable_cells _ _ _ _ hw hb⟩

/-- The place of the first one, or -1. -/
def firstAt (p : Value → Bool) (cs : List Value) : Int := match cs.findIdx? p with | some i => (i : Int) | none => -1
end Go.Proofs.Ytebjljiklacolaa
