/- The document's own Sum, Add, Seal, Open (ouroborosref02). -/
import Derived.Test.YtiignaapnknbjaaDoorCrcMore
import Derived.Test.YtiignaapnknbjaaDoorRefNum
namespace Go.Proofs.YtiignaapnknbjaaDoor
open Go.RowKit
set_option linter.unusedVariables false

/-- The lowest bit of the byte is turned into the number, the others wait. -/
theorem stp_bit (q c : Nat) : stp (q ^^^ c) = stp (q ^^^ c % 2) ^^^ c / 2 := by
  rw [stp_xor, stp_xor, Nat.xor_assoc]
  congr 1
  unfold stp
  rcases Nat.mod_two_eq_zero_or_one c with h | h <;> simp [h]
  rw [Nat.xor_comm]

set_option maxHeartbeats 400000 in
theorem refStep_any (n b : Nat) (w : World) (hn : n < 4294967296) (hb : b < 2) :
    Calls Tryd.prog 59 #[.int .u32 (n : Int), .int .u32 (b : Int)] w fun e w' => e = .returned (.int .u32 (stp (n ^^^ b) : Int)) ∧ w = w' := by
  have hxor := u32_xor_nat (n / 2) 3988292384 (by omega) (by omega)
  have hb2 : b / 2 = 0 := by omega
  have H := Lib.hid (show stp (n ^^^ b) = if n % 2 = b then n / 2 else n / 2 ^^^ 3988292384 by
    unfold stp
    rw [xor_two, xor_half, hb2, Nat.xor_zero]
    by_cases h : n % 2 = b
    · rw [if_pos h, if_neg (by omega)]
    · rw [if_neg h, if_pos (by omega)])
  by_cases h : n % 2 = b
  · have h' : ((n : Int) % 2 != (b : Int)) = false := by simp [bne]; omega
    go_enter Tryd.func59, Tryd.ntmps59
    go_wp2
    go_ret
    exact ⟨ret_int (by rw [H.out, if_pos h]; omega), rfl⟩
  · have h' : ((n : Int) % 2 != (b : Int)) = true := by simp [bne]; omega
    go_enter Tryd.func59, Tryd.ntmps59
    go_wp2
    go_ret
    exact ⟨ret_int (by rw [H.out, if_neg h, ← hxor]; rfl), rfl⟩

set_option maxHeartbeats 1000000 in
theorem refOn_any (n : Nat) (l : List UInt8) (w : World) (hn : n < 4294967296) (hl : l.length ≤ 1000000) :
    Calls Tryd.prog 50 #[.int .u32 (n : Int), .string ⟨l.toArray⟩] w fun e w' => e = .returned (.int .u32 (onL n l : Int)) ∧ w = w' := by
  go_enter Tryd.func50, Tryd.ntmps50
  have hsz : (⟨l.toArray⟩ : ByteArray).size = l.length := size_mk l
  go_wp2
  go_loop [0, 5] (fun x i => ∃ k : Nat, k ≤ l.length ∧ i = .int .i64 k ∧ x = .int .u32 (onL n (l.take k) : Int)) (fun _ i => l.length - (intOf i).toNat)
  case atStart => exact ⟨0, Nat.zero_le _, rfl, rfl⟩
  case round =>
    obtain ⟨k, hk, rfl, rfl⟩ := hrel
    have ho := onL_lt (l.take k) hn
    by_cases hlt : k < l.length
    · have HT := Lib.hid (onL_take n l k hlt)
      have hb := byte_lt l[k]
      have hb2 := (l[k]).toNat_lt
      have hbb : (((⟨l.toArray⟩ : ByteArray)[k]'(by rw [hsz]; exact hlt)).toNat : Int) % 4294967296 = ((l[k]).toNat : Int) := by
        change (((l[k]).toNat : Nat) : Int) % 4294967296 = _; omega
      generalize onL n (l.take k) = q0 at *
      go_wp2
      go_loop [0, 6, 7] (fun x c i => ∃ j q r : Nat, j ≤ 8 ∧ q < 4294967296 ∧ r < 256 ∧ i = .int .i64 j ∧ x = .int .u32 (q : Int) ∧ c = .int .u32 (r : Int) ∧ r * 2 ^ j < 256 ∧ Hid (stps (8 - j) (q ^^^ r) = stps 8 (q0 ^^^ (l[k]).toNat))) (fun _ _ i => 8 - (intOf i).toNat)
      case atStart => exact ⟨0, q0, (l[k]).toNat, by omega, ho, hb2, rfl, rfl, by go_num, by omega, Lib.hid rfl⟩
      case round =>
        obtain ⟨j, q, r, hj, hq, hr, rfl, rfl, rfl, hrj, HR⟩ := hrel
        by_cases hj8 : j < 8
        · have hx := x32 hq (show r % 2 < 4294967296 by omega)
          have hsl := stp_lt hx
          have HS := Lib.hid (show stps (8 - j) (q ^^^ r) = stps (8 - (j + 1)) (stp (q ^^^ r % 2) ^^^ r / 2) by
            rw [show 8 - j = (8 - (j + 1)) + 1 by omega, ← stp_bit]; rfl)
          have hr2 : r / 2 * 2 ^ (j + 1) < 256 := by
            have : r / 2 * 2 ^ (j + 1) ≤ r * 2 ^ j := by
              rw [Nat.pow_succ, Nat.mul_comm (2 ^ j) 2, ← Nat.mul_assoc]
              exact Nat.mul_le_mul_right _ (Nat.div_mul_le_self r 2)
            omega
          have HR2 := Lib.hid hr2
          have HM := Lib.hid (show ((r : Int) % 2) = ((r % 2 : Nat) : Int) by omega)
          clear hr2 hrj
          go_wp2_with fail
          rw [HM.out]
          refine (refStep_any q (r % 2) _ hq (by omega)).mono ?_
          rintro e w' ⟨rfl, rfl⟩
          generalize stp (q ^^^ r % 2) = q2 at *
          go_wp2
          go_round
          case rel => exact ⟨j + 1, q2, r / 2, by omega, hsl, by omega, by go_num, by go_num, by go_num, HR2.out, Lib.hid (by rw [← HS.out]; exact HR.out)⟩
          case measure => simp [intOf]; omega
        · obtain rfl : j = 8 := by omega
          obtain rfl : r = 0 := by simp at hrj; omega
          clear hrj
          go_wp2
          go_round
          case rel => exact ⟨k + 1, by omega, by go_num, by rw [HT.out, stp8_eq, ← HR.out, Nat.xor_zero]; rfl⟩
          case measure => simp [intOf]; omega
    · go_wp2
      go_ret
      exact ⟨ret_int (by rw [List.take_of_length_le (by omega)]), rfl⟩

theorem xor_last {n : Nat} (h : n < 4294967296) : bits .xor .u32 (n : Int) 4294967295 = ((4294967295 - n : Nat) : Int) := by
  have := u32_xor_nat n 4294967295 h (by omega)
  rw [show ((4294967295 : Nat) : Int) = 4294967295 from rfl] at this
  rw [this, Nat.xor_comm, ← not_x32 h]

set_option maxHeartbeats 400000 in
theorem refSum_any (l : List UInt8) (w : World) (hl : l.length ≤ 1000000) :
    Calls Tryd.prog 38 #[.string ⟨l.toArray⟩] w fun e w' => e = .returned (.int .i64 (sumN l : Int)) ∧ w = w' := by
  have ho := onL_lt l (n := 4294967295) (by omega)
  have H := Lib.hid (show sumN l = 4294967295 - onL 4294967295 l from rfl)
  have hx := xor_last ho
  have hle : onL 4294967295 l ≤ 4294967295 := by omega
  go_enter Tryd.func38, Tryd.ntmps38
  go_wp2_with fail
  refine (refOn_any 4294967295 l _ (by omega) hl).mono ?_
  rintro e w' ⟨rfl, rfl⟩
  generalize onL 4294967295 l = q at *
  go_wp2
  go_ret
  exact ⟨ret_int (by rw [H.out]), rfl⟩

theorem refPut4 (m : Nat) (w : World) (hm : m < 4294967296) :
    Calls Tryd.prog 37 #[.int .i64 (m : Int), .int .i64 4] w fun e w' => e = .returned (.tuple #[.string ⟨(putL m 4).toArray⟩, .int .i64 0]) ∧ Below w.heap.size w w' := by
  refine (refPut_run m 4 w (by omega) (by omega) (by omega) false (by unfold leftN; rw [Nat.div_eq_of_lt (by omega)]; rfl)).mono ?_
  rintro e w' ⟨rfl, hb⟩
  exact ⟨rfl, hb⟩

set_option maxHeartbeats 400000 in
theorem refSeal_any (l : List UInt8) (w : World) (hl : l.length ≤ 1000000) :
    Calls Tryd.prog 23 #[.string ⟨l.toArray⟩] w fun e w' => e = .returned (.string ⟨(sealL l).toArray⟩) ∧ Below w.heap.size w w' := by
  have hp := length_putL 4 (sumN l)
  have hcat := fun W => run_string_add_lists (P := Tryd.prog) W l (putL (sumN l) 4) (by omega) (by omega)
  have hs := sumN_lt l
  have HS := Lib.hid (show l ++ putL (sumN l) 4 = sealL l from rfl)
  go_enter Tryd.func23, Tryd.ntmps23
  go_wp2_with fail
  refine (refSum_any l _ hl).mono ?_
  rintro e w' ⟨rfl, rfl⟩
  go_wp2_with fail
  refine (refPut4 (sumN l) _ hs).mono ?_
  rintro e w' ⟨rfl, hB⟩
  generalize putL (sumN l) 4 = p at *
  go_wp2
  go_ret
  exact ⟨ret_str HS.out, hB⟩

/-- What opens is what is sealed. -/
theorem opens_eq (l : List UInt8) (m : Nat) (hm : l.length = m + 4) : opens l = decide (sealL (l.take m) = l) := by
  rw [Bool.eq_iff_iff, decide_eq_true_iff]
  constructor
  · intro h
    have := seal_open l h
    unfold openS at this
    rwa [h, if_pos rfl, hm, Nat.add_sub_cancel] at this
  · intro h
    rw [← h]
    exact opens_seal _

end Go.Proofs.YtiignaapnknbjaaDoor
