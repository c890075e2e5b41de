/- Contracts of package flash: may a device be? has it a page? -/
import Derived.Test.YtebjljiklacolaaFlIndex
namespace Go.Proofs.Ytebjljiklacolaa
open Go.RowKit
set_option linter.unusedVariables false
set_option linter.unusedSimpArgs false

def oneSize (pages : List (List UInt8)) : Bool := decide (1 ≤ ((pages.headD []).length : Int)) && decide (((pages.headD []).length : Int) ≤ 8192) && pages.all fun p => decide (p.length = (pages.headD []).length)
def okWear (wear : List Int) (n : Nat) : Bool := decide (wear.length = n) && wear.all fun x => decide (0 ≤ x) && decide (x ≤ 2147483647)
def mayB (F : Fl) : Bool := decide (1 ≤ (F.pages.length : Int)) && decide ((F.pages.length : Int) ≤ 6) && oneSize F.pages && okWear F.wear F.pages.length && decide ((F.torn.length : Int) ≤ 64)
def checkE (F : Fl) : Int := if mayB F then 0 else 1
def hasB (F : Fl) (n : Int) : Bool := mayB F && decide (0 ≤ n) && decide (n < F.pages.length)

/-- A block of five cells. -/
def Cells5 (w : World) (g : Nat) (v0 v1 v2 v3 v4 : Value) : Prop := g < w.heap.size ∧ w.cell? ⟨g, 0, none⟩ = some v0 ∧ w.cell? ⟨g, 1, none⟩ = some v1 ∧ w.cell? ⟨g, 2, none⟩ = some v2 ∧ w.cell? ⟨g, 3, none⟩ = some v3 ∧ w.cell? ⟨g, 4, none⟩ = some v4
theorem Cells5.keep {w w' : World} {g B : Nat} {v0 v1 v2 v3 v4 : Value} (h : Cells5 w g v0 v1 v2 v3 v4) (hb : Below B w w') (hB : g < B) : Cells5 w' g v0 v1 v2 v3 v4 := by
  obtain ⟨hg, h0, h1, h2, h3, h4⟩ := h
  exact ⟨Nat.lt_of_lt_of_le hg hb.size, (hb.cell (p := ⟨g, 0, none⟩) hB).trans h0, (hb.cell (p := ⟨g, 1, none⟩) hB).trans h1, (hb.cell (p := ⟨g, 2, none⟩) hB).trans h2, (hb.cell (p := ⟨g, 3, none⟩) hB).trans h3, (hb.cell (p := ⟨g, 4, none⟩) hB).trans h4⟩
theorem cells5_new (w : World) (t : TypeId) (v0 v1 v2 v3 v4 : Value) : Cells5 (w.alloc (.cells #[v0, v1, v2, v3, v4] t)) w.heap.size v0 v1 v2 v3 v4 := by
  refine ⟨by simp, ?_, ?_, ?_, ?_, ?_⟩ <;> rw [World.cell?_alloc_new] <;> rfl

def badWear : Value → Bool
  | .int .i64 x => !(decide (0 ≤ x) && decide (x ≤ 2147483647))
  | _ => false
theorem badWear_int (x : Int) : badWear (intC x) = !(decide (0 ≤ x) && decide (x ≤ 2147483647)) := rfl
theorem okWear_eq (wear : List Int) : (wear.all fun x => decide (0 ≤ x) && decide (x ≤ 2147483647)) = !(wear.map intC).any badWear := by
  induction wear with
  | nil => rfl
  | cons x r ih => rw [List.all_cons, List.map_cons, List.any_cons, badWear_int, ih, Bool.not_or, Bool.not_not]
def badPage (n : Nat) : Value → Bool
  | .string s => decide (s.size ≠ n)
  | _ => false
theorem okPage_eq (pages : List (List UInt8)) (n : Nat) : (pages.all fun p => decide (p.length = n)) = !(pages.map strC).any (badPage n) := by
  induction pages with
  | nil => rfl
  | cons x r ih =>
    rw [List.all_cons, List.map_cons, List.any_cons, ih, Bool.not_or]
    congr 1
    show decide (x.length = n) = !decide ((⟨x.toArray⟩ : ByteArray).size ≠ n)
    rw [size_mk]
    by_cases h : x.length = n <;> simp [h]
theorem badPage_str (n : Nat) (y : List UInt8) : badPage n (strC y) = decide (y.length ≠ n) := by
  show decide ((⟨y.toArray⟩ : ByteArray).size ≠ n) = _
  rw [size_mk]
attribute [irreducible] badWear badPage

end Go.Proofs.Ytebjljiklacolaa
