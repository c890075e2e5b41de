/- Contracts of octet.Ones and octet.Count. -/
import Derived.Test.YtdbjgpcokhopiaaOctWalk1
import Derived.Test.YtdbjgpcokhopiaaShelf
namespace Go.Proofs.Ytdbjgpcokhopiaa
open Go.RowKit
set_option linter.unusedVariables false

/-- So many bytes of ones alone; none, if the number is out of its range. -/
def onesL (n : Int) : List UInt8 := if 0 ≤ n ∧ n ≤ 100000 then List.replicate n.toNat 255 else []

theorem repeatL_ones /- over 64 -/ (n : Nat) : Lib.repeatL [255] n = List.replicate n 255 := by
  induction n with
  | zero => rfl
  | succ n ih => simp [Lib.repeatL, List.replicate_succ] at ih ⊢; try rw [ih]

set_option maxHeartbeats 400000 in
theorem ones_any (n : Int) (w : World) :
    Calls Try.prog 47 #[.int .i64 n] w fun e w' => e = .returned (.string ⟨(onesL n).toArray⟩) ∧ Below w.heap.size w w' := by
  by_cases h0 : n < 0
  · have e0 : onesL n = [] := by unfold onesL; rw [if_neg (by omega)]
    rw [e0]
    go_enter Try.func47, Try.ntmps47
    go_wp2
    go_ret
    exact ⟨rfl, Below.refl _ _⟩
  · have h0' : decide (n < 0) = false := by simpa using h0
    by_cases h1 : 100000 < n
    · have e0 : onesL n = [] := by unfold onesL; rw [if_neg (by omega)]
      rw [e0]
      go_enter Try.func47, Try.ntmps47
      go_wp2
      go_ret
      exact ⟨rfl, Below.refl _ _⟩
    · have h1' : decide (100000 < n) = false := by simpa using h1
      obtain ⟨m, rfl⟩ := Int.eq_ofNat_of_zero_le (show 0 ≤ n by omega)
      have e0 : onesL (m : Int) = List.replicate m 255 := by unfold onesL; rw [if_pos (by omega), Int.toNat_natCast]
      have E0 := Lib.hid e0
      clear e0
      go_enter Try.func47, Try.ntmps47
      go_wp2_with fail
      refine (Try.strings_Repeat ⟨#[255]⟩ m _ (by omega) (by show 1 * m ≤ _; omega)).mono ?_
      rintro e w' ⟨rfl, hb⟩
      go_wp2
      go_ret
      exact ⟨ret_str (by rw [E0.out]; exact repeatL_ones m), hb⟩

/-- How many bits are ones. -/
def popB (b : UInt8) : Nat := Lib.onesCount b.toNat
def countL : List UInt8 → Nat
  | [] => 0
  | b :: r => popB b + countL r

theorem countL_append (a b : List UInt8) : countL (a ++ b) = countL a + countL b := by
  induction a with
  | nil => simp [countL]
  | cons x r ih => simp [countL, ih]; omega

theorem popB_le (b : UInt8) : popB b ≤ 8 := by
  have h : ∀ n : Fin 256, Lib.onesCount n.val ≤ 8 := by decide +kernel
  exact h ⟨b.toNat, b.toNat_lt⟩

theorem countL_le (l : List UInt8) : countL l ≤ 8 * l.length := by
  induction l with
  | nil => simp [countL]
  | cons x r ih => have := popB_le x; simp [countL]; omega

theorem countL_take (s : ByteArray) (k : Nat) (h : k < s.size) : countL (s.data.toList.take (k + 1)) = countL (s.data.toList.take k) + popB s[k] := by
  rw [List.take_succ_eq_append_getElem (by simpa using h), countL_append]; simp [countL]; rfl

theorem onesCount8_any (b : UInt8) (w : World) :
    Calls Try.prog 60 #[.int .u8 (b.toNat : Int)] w fun e w' => e = .returned (.int .i64 (popB b : Int)) ∧ w = w' :=
  (Try.bits_OnesCount8 _ _ (by omega) (by have := b.toNat_lt; omega)).mono fun e w' ⟨he, hw⟩ => ⟨by rw [he, Int.toNat_natCast]; rfl, hw.symm⟩

set_option maxHeartbeats 400000 in
theorem count_any (s : ByteArray) (w : World) (hs : s.size ≤ 1000000000) :
    Calls Try.prog 30 #[.string s] w fun e w' => e = .returned (.int .i64 (countL s.data.toList : Int)) ∧ w = w' := by
  go_enter Try.func30, Try.ntmps30
  go_wp2
  go_loop [3, 7] (fun n i => ∃ k : Nat, k ≤ s.size ∧ i = .int .i64 k ∧ n = .int .i64 (countL (s.data.toList.take k) : Int)) (fun _ i => s.size - (intOf i).toNat)
  case atStart => exact ⟨0, Nat.zero_le _, rfl, rfl⟩
  case round =>
    obtain ⟨k, hk, rfl, rfl⟩ := hrel
    have hc := countL_le (s.data.toList.take k)
    have hl : (s.data.toList.take k).length ≤ k := List.length_take_le _ _
    by_cases hlt : k < s.size
    · have hp := popB_le (s[k]'hlt)
      have HT := Lib.hid (countL_take s k hlt)
      have hbt := UInt8.toNat_lt (s[k]'hlt)
      go_wp2_with fail
      refine (onesCount8_any _ _).mono ?_
      rintro e w' ⟨rfl, rfl⟩
      go_wp2
      go_round
      case rel => exact ⟨k + 1, by omega, by go_num, by rw [HT.out]; go_num⟩
      case measure => simp [intOf]; omega
    · go_wp2
      go_ret
      exact ⟨ret_int (by rw [List.take_of_length_le (by simp; omega)]), rfl⟩
end Go.Proofs.Ytdbjgpcokhopiaa
