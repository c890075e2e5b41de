/- Contracts of package crc: afterBits, byBits, extend, Sum, Add, Seal, Open, of texts of at most 1024 bytes: none of them comes to the table. -/
import Derived.Test.YtipiioggdalkoaaGreatDoorCrcMath
namespace Go.Proofs.YtipiioggdalkoaaGreatDoor
open Go.RowKit
set_option linter.unusedVariables false

theorem low_bit {n : Nat} (h : n < 4294967296) : bits .and .u32 (n : Int) 1 = ((n % 2 : Nat) : Int) := by
  have := u32_and_nat n 1 h (by omega)
  rw [show ((1 : Nat) : Int) = 1 from rfl] at this
  rw [this, Nat.and_one_is_mod]

set_option maxHeartbeats 400000 in
theorem afterBits_any (n : Nat) (w : World) (hn : n < 4294967296) :
    Calls Tryz.prog 122 #[.int .u32 (n : Int)] w fun e w' => e = .returned (.int .u32 (stp8 n : Int)) ∧ w = w' := by
  go_enter Tryz.func122, Tryz.ntmps122
  go_wp2
  go_loop [0, 4] (fun x i => ∃ k q : Nat, k ≤ 8 ∧ q < 4294967296 ∧ i = .int .i64 k ∧ x = .int .u32 (q : Int) ∧ Hid (stps (8 - k) q = stps 8 n)) (fun _ i => 8 - (intOf i).toNat)
  case atStart => exact ⟨0, n, by omega, hn, rfl, rfl, Lib.hid rfl⟩
  case round =>
    obtain ⟨k, q, hk, hq, rfl, rfl, HR⟩ := hrel
    by_cases hlt : k < 8
    · have hand := low_bit hq
      have hxor := u32_xor_nat (q / 2) 3988292384 (by omega) (by omega)
      have HS := Lib.hid (show stps (8 - k) q = stps (8 - (k + 1)) (stp q) by rw [show 8 - k = (8 - (k + 1)) + 1 by omega]; rfl)
      have hsl := stp_lt hq
      by_cases hodd : q % 2 = 1
      · have HE := Lib.hid (show stp q = q / 2 ^^^ 3988292384 by unfold stp; rw [if_pos hodd])
        go_wp2
        go_round
        case rel => exact ⟨k + 1, stp q, by omega, hsl, by go_num, by rw [HE.out, ← hxor]; go_num, Lib.hid (by rw [← HS.out]; exact HR.out)⟩
        case measure => simp [intOf]; omega
      · have hev : q % 2 = 0 := by omega
        have HE := Lib.hid (show stp q = q / 2 by unfold stp; rw [if_neg hodd])
        go_wp2
        go_round
        case rel => exact ⟨k + 1, stp q, by omega, hsl, by go_num, by rw [HE.out]; go_num, Lib.hid (by rw [← HS.out]; exact HR.out)⟩
        case measure => simp [intOf]; omega
    · obtain rfl : k = 8 := by omega
      go_wp2
      go_ret
      exact ⟨ret_int (by rw [stp8_eq, ← HR.out]; rfl), rfl⟩

theorem onL_take (n : Nat) (l : List UInt8) (k : Nat) (h : k < l.length) : onL n (l.take (k + 1)) = stp8 (onL n (l.take k) ^^^ (l[k]).toNat) := by
  rw [List.take_succ_eq_append_getElem h, onL_append, onL_cons]; rfl

set_option maxHeartbeats 400000 in
theorem byBits_any (n : Nat) (l : List UInt8) (w : World) (hn : n < 4294967296) (hl : l.length ≤ 1000000) :
    Calls Tryz.prog 115 #[.int .u32 (n : Int), .string ⟨l.toArray⟩] w fun e w' => e = .returned (.int .u32 (onL n l : Int)) ∧ w = w' := by
  go_enter Tryz.func115, Tryz.ntmps115
  have hsz : (⟨l.toArray⟩ : ByteArray).size = l.length := size_mk l
  go_wp2
  go_loop [0, 8] (fun x i => ∃ k : Nat, k ≤ l.length ∧ i = .int .i64 k ∧ x = .int .u32 (onL n (l.take k) : Int)) (fun _ i => l.length - (intOf i).toNat)
  case atStart => exact ⟨0, Nat.zero_le _, rfl, rfl⟩
  case round =>
    obtain ⟨k, hk, rfl, rfl⟩ := hrel
    have ho := onL_lt (l.take k) hn
    by_cases hlt : k < l.length
    · have HT := Lib.hid (onL_take n l k hlt)
      have hb := byte_lt l[k]
      have hget : (⟨l.toArray⟩ : ByteArray).data[k]? = some l[k] := by simp [hlt]
      have hx := x32 ho hb
      have hb2 := (l[k]).toNat_lt
      have HX := Lib.hid (show bits .xor .u32 (onL n (l.take k) : Int) ((((⟨l.toArray⟩ : ByteArray)[k]'(by rw [hsz]; exact hlt)).toNat : Int) % 4294967296) = ((onL n (l.take k) ^^^ (l[k]).toNat : Nat) : Int) by
        rw [← u32_xor_nat _ _ ho hb]; congr 1; change (((l[k]).toNat : Nat) : Int) % 4294967296 = _; omega)
      generalize onL n (l.take k) = q at *
      go_wp2_with fail
      rw [HX.out]
      refine (afterBits_any _ _ hx).mono ?_
      rintro e w' ⟨rfl, rfl⟩
      go_wp2
      go_round
      case rel => exact ⟨k + 1, by omega, by go_num, by rw [HT.out]⟩
      case measure => simp [intOf]; omega
    · go_wp2
      go_ret
      exact ⟨ret_int (by rw [List.take_of_length_le (by omega)]), rfl⟩

theorem turned_u32 {n : Nat} (h : n < 4294967296) : bits .xor .u32 IntKind.u32.max (n : Int) = ((4294967295 - n : Nat) : Int) := by
  rw [not_x32 h, ← u32_xor_nat _ _ (by omega) h]; rfl

set_option maxHeartbeats 400000 in
theorem extend_any (n : Nat) (l : List UInt8) (w : World) (hn : n < 4294967296) (hl : l.length ≤ 1024) :
    Calls Tryz.prog 99 #[.int .i64 (n : Int), .string ⟨l.toArray⟩] w fun e w' => e = .returned (.int .i64 (addN n l : Int)) ∧ w = w' := by
  have ho := onL_lt l (n := 4294967295 - n) (by omega)
  have HA := Lib.hid (show addN n l = 4294967295 - onL (4294967295 - n) l from rfl)
  have hsz : (⟨l.toArray⟩ : ByteArray).size = l.length := size_mk l
  have hc : decide (1024 < (l.length : Int)) = false := by simp; omega
  go_enter Tryz.func99, Tryz.ntmps99
  have h1 := turned_u32 hn
  have h2 := turned_u32 ho
  have hle : onL (4294967295 - n) l ≤ 4294967295 := by omega
  go_wp2_with fail
  refine (byBits_any _ l _ (by omega) (by omega)).mono ?_
  rintro e w' ⟨rfl, rfl⟩
  clear h1
  generalize onL (4294967295 - n) l = q at *
  go_wp2
  go_ret
  exact ⟨ret_int (by rw [HA.out]), rfl⟩

set_option maxHeartbeats 400000 in
theorem sum_any (l : List UInt8) (w : World) (hl : l.length ≤ 1024) :
    Calls Tryz.prog 83 #[.string ⟨l.toArray⟩] w fun e w' => e = .returned (.int .i64 (sumN l : Int)) ∧ w = w' := by
  go_enter Tryz.func83, Tryz.ntmps83
  go_wp2_with fail
  refine (extend_any 0 l _ (by omega) hl).mono ?_
  rintro e w' ⟨rfl, rfl⟩
  go_wp2
  go_ret
  exact ⟨rfl, rfl⟩

theorem length_sealL (l : List UInt8) : (sealL l).length = l.length + 4 := by simp [sealL, length_putL]

set_option maxHeartbeats 400000 in
theorem seal_any (l : List UInt8) (w : World) (hl : l.length ≤ 1024) :
    Calls Tryz.prog 62 #[.string ⟨l.toArray⟩] w fun e w' => e = .returned (.string ⟨(sealL l).toArray⟩) ∧ Below w.heap.size w w' := by
  have hp := length_putL 4 (sumN l)
  have hcat := fun W => run_string_add_lists (P := Tryz.prog) W l (putL (sumN l) 4) (by omega) (by omega)
  have hs := sumN_lt l
  have HS := Lib.hid (show l ++ putL (sumN l) 4 = sealL l from rfl)
  go_enter Tryz.func62, Tryz.ntmps62
  go_wp2_with fail
  refine (sum_any l _ hl).mono ?_
  rintro e w' ⟨rfl, rfl⟩
  go_wp2_with fail
  refine (put_yes (sumN l) 4 _ (by omega) (by omega) (by omega)).mono ?_
  rintro e w' ⟨rfl, hB⟩
  generalize putL (sumN l) 4 = p at *
  go_wp2
  go_ret
  exact ⟨ret_str HS.out, hB⟩

/-- What opening answers. -/
def openS (l : List UInt8) : List UInt8 := if opens l then l.take (l.length - 4) else []
def openE (l : List UInt8) : Int := if opens l then 0 else 2

theorem ext_take' (l : List UInt8) (n : Nat) : (⟨l.toArray⟩ : ByteArray).extract 0 n = ⟨(l.take n).toArray⟩ := by
  apply ByteArray.ext
  apply Array.toList_inj.1
  rw [ByteArray.data_extract, Array.toList_extract, List.extract_eq_take_drop]
  simp

set_option maxHeartbeats 400000 in
theorem open_short (l : List UInt8) (w : World) (hl : l.length < 4) :
    Calls Tryz.prog 57 #[.string ⟨l.toArray⟩] w fun e w' => e = .returned (.tuple #[.string ⟨#[]⟩, .int .i64 2]) ∧ Below w.heap.size w w' := by
  have hsz : (⟨l.toArray⟩ : ByteArray).size = l.length := size_mk l
  have hf : fitsGet l ((l.length : Int) - 4) 4 = false := by
    cases h : fitsGet l ((l.length : Int) - 4) 4 with
    | false => rfl
    | true => obtain ⟨x, y, hx, _⟩ := fitsGet_nat h; omega
  go_enter Tryz.func57, Tryz.ntmps57
  go_wp2_with fail
  refine (get_no l _ _ _ (by omega) hf).mono ?_
  rintro e w2 ⟨k, hk, hke, rfl, hB⟩
  have hk' : (k != 0) = true := by simpa [bne] using hk
  clear hke
  go_wp2
  go_ret2
  exact ⟨rfl, hB⟩

set_option maxHeartbeats 400000 in
theorem open_long (l : List UInt8) (m : Nat) (w : World) (hm : l.length = m + 4) (hl : m ≤ 1024) (o : Bool) (ho : decide (getN (l.drop m) = sumN (l.take m)) = o) :
    Calls Tryz.prog 57 #[.string ⟨l.toArray⟩] w fun e w' => e = .returned (if o = true then .tuple #[.string ⟨(l.take m).toArray⟩, .int .i64 0] else .tuple #[.string ⟨#[]⟩, .int .i64 2]) ∧ Below w.heap.size w w' := by
  have hsz : (⟨l.toArray⟩ : ByteArray).size = m + 4 := by rw [size_mk l]; exact hm
  have hext := ext_take' l m
  have HD := Lib.hid (show (l.drop m).take 4 = l.drop m from List.take_of_length_le (by rw [List.length_drop]; omega))
  have HO := Lib.hid ho
  clear ho
  go_enter Tryz.func57, Tryz.ntmps57
  go_wp2_with fail
  refine (get_yes l m 4 _ (by omega) (by omega) (by omega) (by omega)).mono ?_
  rintro e w2 ⟨rfl, hB⟩
  rw [HD.out]
  go_wp2_with fail
  refine (sum_any (l.take m) _ (by rw [List.length_take]; omega)).mono ?_
  rintro e w' ⟨rfl, rfl⟩
  generalize getN (l.drop m) = g at *
  generalize sumN (l.take m) = u at *
  cases o with
  | true =>
    obtain rfl : g = u := by simpa using HO.out
    go_wp2
    go_ret2
    exact ⟨rfl, hB⟩
  | false =>
    have hne : ¬ g = u := by simpa using HO.out
    have hne2 : ¬ ((g : Int) = (u : Int)) := by omega
    go_wp2
    go_ret2
    exact ⟨rfl, hB⟩

theorem open_any (l : List UInt8) (w : World) (hl : l.length ≤ 1028) :
    Calls Tryz.prog 57 #[.string ⟨l.toArray⟩] w fun e w' => e = .returned (.tuple #[.string ⟨(openS l).toArray⟩, .int .i64 (openE l)]) ∧ Below w.heap.size w w' := by
  by_cases h : l.length < 4
  · have e1 : opens l = false := by unfold opens; rw [decide_eq_false (by omega)]; rfl
    have e2 : openS l = [] := by unfold openS; rw [e1]; rfl
    have e3 : openE l = 2 := by unfold openE; rw [e1]; rfl
    rw [e2, e3]
    exact open_short l w h
  · have e0 : opens l = decide (getN (l.drop (l.length - 4)) = sumN (l.take (l.length - 4))) := by unfold opens; rw [decide_eq_true (by omega)]; rfl
    refine (open_long l (l.length - 4) w (by omega) (by omega) (opens l) e0.symm).mono ?_
    rintro e w' ⟨rfl, hB⟩
    refine ⟨?_, hB⟩
    unfold openS openE
    cases opens l <;> rfl
end Go.Proofs.YtipiioggdalkoaaGreatDoor
