/- Contracts of octet.Ones and octet.Count. -/
import Derived.Test.YtebjljiklacolaaOctWalk1
import Derived.Test.YtebjljiklacolaaShelf
import Derived.Lib.BitFns
namespace Go.Proofs.Ytebjljiklacolaa
open Go.RowKit
set_option linter.unusedVariables false

/-- So many bytes of ones alone; none, if the number is out of its range. -/
def onesL (n : Int) : List UInt8 := if 0 ≤ n ∧ n ≤ 100000 then List.replicate n.toNat 255 else []

theorem repeatL_ones /- over 39 -/ (n : Nat) : Lib.repeatL [255] n = List.replicate n 255 := by
  induction n with
  | zero => rfl
  | succ n ih => simp [Lib.repeatL, List.replicate_succ] at ih ⊢; try rw [ih]

/-- How many bits are ones. -/
def popB (b : UInt8) : Nat := Lib.onesCount b.toNat
def countL : List UInt8 → Nat
  | [] => 0
  | b :: r => popB b + countL r

theorem countL_append (a b : List UInt8) : countL (a ++ b) = countL a + countL b := by
  induction a with
  | nil => simp [countL]
  | cons x r ih => simp [countL, ih]; omega

theorem popB_le (b : UInt8) : popB b ≤ 8 := by
  have h : ∀ n : Fin 256, Lib.onesCount n.val ≤ 8 := by decide +kernel
  exact h ⟨b.toNat, b.toNat_lt⟩

theorem countL_le (l : List UInt8) : countL l ≤ 8 * l.length := by
  induction l with
  | nil => simp [countL]
  | cons x r ih => have := popB_le x; simp [countL]; omega

theorem countL_take (s : ByteArray) (k : Nat) (h : k < s.size) : countL (s.data.toList.take (k + 1)) = countL (s.data.toList.take k) + popB s[k] := by
  rw [List.take_succ_eq_append_getElem (by simpa using h), countL_append]; simp [countL]; rfl

end Go.Proofs.Ytebjljiklacolaa
