/- Contracts of octet.Ones and octet.Count. -/
import Derived.Test.YtipiioggdalkoaaGreatDoorOctWalk1
import Derived.Test.YtipiioggdalkoaaGreatDoorShelf
import Derived.Lib.BitFns
namespace Go.Proofs.YtipiioggdalkoaaGreatDoor
open Go.RowKit
set_option linter.unusedVariables false

/-- So many bytes of ones alone; none, if the number is out of its range. -/
def onesL (n : Int) : List UInt8 := if 0 ≤ n ∧ n ≤ 100000 then List.replicate n.toNat 255 else []

theorem repeatL_ones /- over 85 -/ (n : Nat) : Lib.repeatL [255] n = List.replicate n 255 := by
  induction n with
  | zero => rfl
  | succ n ih => simp [Lib.repeatL, List.replicate_succ] at ih ⊢; try rw [ih]

set_option maxHeartbeats 400000 in
theorem ones_any (n : Int) (w : World) :
    Calls Tryz.prog 61 #[.int .i64 n] w fun e w' => e = .returned (.string ⟨(onesL n).toArray⟩) ∧ Below w.heap.size w w' := by
  by_cases h0 : n < 0
  · have e0 : onesL n = [] := by unfold onesL; rw [if_neg (by omega)]
    rw [e0]
    go_enter Tryz.func61, Tryz.ntmps61
    go_wp2
    go_ret
    exact ⟨rfl, Below.refl _ _⟩
  · have h0' : decide (n < 0) = false := by simpa using h0
    by_cases h1 : 100000 < n
    · have e0 : onesL n = [] := by unfold onesL; rw [if_neg (by omega)]
      rw [e0]
      go_enter Tryz.func61, Tryz.ntmps61
      go_wp2
      go_ret
      exact ⟨rfl, Below.refl _ _⟩
    · have h1' : decide (100000 < n) = false := by simpa using h1
      obtain ⟨m, rfl⟩ := Int.eq_ofNat_of_zero_le (show 0 ≤ n by omega)
      have e0 : onesL (m : Int) = List.replicate m 255 := by unfold onesL; rw [if_pos (by omega), Int.toNat_natCast]
      have E0 := Lib.hid e0
      clear e0
      go_enter Tryz.func61, Tryz.ntmps61
      go_wp2_with fail
      refine (Tryz.strings_Repeat ⟨#[255]⟩ m _ (by omega) (by show 1 * m ≤ _; omega)).mono ?_
      rintro e w' ⟨rfl, hb⟩
      go_wp2
      go_ret
      exact ⟨ret_str (by rw [E0.out]; exact repeatL_ones m), hb⟩

/-- How many bits are ones. -/
def popB (b : UInt8) : Nat := Lib.onesCount b.toNat
def countL : List UInt8 → Nat
  | [] => 0
  | b :: r => popB b + countL r

theorem countL_append (a b : List UInt8) : countL (a ++ b) = countL a + countL b := by
  induction a with
  | nil => simp [countL]
  | cons x r ih => simp [countL, ih]; omega

theorem popB_le (b : UInt8) : popB b ≤ 8 := by
  have h : ∀ n : Fin 256, Lib.onesCount n.val ≤ 8 := by decide +kernel
  exact h ⟨b.toNat, b.toNat_lt⟩

theorem countL_le (l : List UInt8) : countL l ≤ 8 * l.length := by
  induction l with
  | nil => simp [countL]
  | cons x r ih => have := popB_le x; simp [countL]; omega

theorem countL_take (s : ByteArray) (k : Nat) (h : k < s.size) : countL (s.data.toList.take (k + 1)) = countL (s.data.toList.take k) + popB s[k] := by
  rw [List.take_succ_eq_append_getElem (by simpa using h), countL_append]; simp [countL]; rfl

end Go.Proofs.YtipiioggdalkoaaGreatDoor
