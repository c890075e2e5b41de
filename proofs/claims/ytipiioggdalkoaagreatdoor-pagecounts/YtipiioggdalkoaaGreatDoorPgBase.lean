/- page.Room, Slot: contracts; a page's places. -/
import Derived.Test.YtipiioggdalkoaaGreatDoorRecWalk
import Derived.IntWalk
namespace Go.Proofs.YtipiioggdalkoaaGreatDoor
open Go.RowKit
set_option linter.unusedVariables false
set_option linter.unusedSimpArgs false

/-- How many bytes a place has. -/
def szN (n : Int) : Nat := (sizeN n).toNat
theorem szN_eq (n : Int) : sizeN n = (szN n : Int) := by unfold szN sizeN; split <;> omega
theorem szN_le (n : Int) : szN n ≤ 8008 := by unfold szN sizeN; split <;> omega
theorem szN_even (n : Int) : szN n % 2 = 0 := by unfold szN sizeN; split <;> omega
def roomN (s : List UInt8) (n : Int) : Nat := s.length / szN n
theorem roomN_zero (s : List UInt8) (n : Int) (h : szN n = 0) : roomN s n = 0 := by unfold roomN; rw [h]; simp
theorem roomN_le (s : List UInt8) (n : Int) : roomN s n * szN n ≤ s.length := Nat.div_mul_le_self _ _
theorem roomN_len (s : List UInt8) (n : Int) : roomN s n ≤ s.length := Nat.div_le_self _ _
/-- The bytes of a place. -/
def slotL (s : List UInt8) (n : Int) (i : Nat) : List UInt8 := (s.drop (i * szN n)).take (szN n)
def slotI (s : List UInt8) (n i : Int) : List UInt8 := if 0 ≤ i ∧ i < (roomN s n : Int) then slotL s n i.toNat else []
def slotsL (s : List UInt8) (n : Int) : List (List UInt8) := (List.range (roomN s n)).map (slotL s n)
theorem slotL_len {s : List UInt8} {n : Int} {i : Nat} (h : i < roomN s n) : (slotL s n i).length = szN n := by
  have h1 := roomN_le s n
  have h2 : (i + 1) * szN n ≤ roomN s n * szN n := Nat.mul_le_mul_right _ h
  rw [Nat.add_mul, Nat.one_mul] at h2
  simp only [slotL, List.length_take, List.length_drop]
  omega

set_option maxHeartbeats 1000000 in
theorem room_any (s : List UInt8) (n : Int) (w : World) (hs : s.length ≤ 1000000000) :
    Calls Tryz.prog 17 #[.string ⟨s.toArray⟩, .int .i64 n] w fun e w' => e = .returned (.int .i64 (roomN s n : Int)) ∧ w = w' := by
  have hsz : (⟨s.toArray⟩ : ByteArray).size = s.length := size_mk s
  have HE := Lib.hid (szN_eq n)
  have HZ := Lib.hid (roomN_zero s n)
  have HR := Lib.hid (show (roomN s n : Int) = (s.length : Int) / (szN n : Int) by unfold roomN; simp)
  have hle := szN_le n
  have hrl := roomN_len s n
  generalize szN n = z at *
  generalize roomN s n = r at *
  by_cases h0 : z = 0
  · have d0 : ((z : Int) == 0) = true := by simp [h0]
    go_enter Tryz.func17, Tryz.ntmps17
    go_wp2_with fail
    ((with_reducible refine (size_any n _).mono ?_); rintro e w' ⟨rfl, rfl⟩)
    rw [HE.out]
    go_wp2
    go_ret
    exact ⟨by rw [HZ.out h0]; rfl, rfl⟩
  · have d0 : ((z : Int) == 0) = false := by simp; omega
    have hz1 : 0 < z := by omega
    have hq0 : 0 ≤ (s.length : Int) / (z : Int) := by rw [← HR.out]; omega
    have hq1 : (s.length : Int) / (z : Int) ≤ 1000000000 := by rw [← HR.out]; omega
    go_enter Tryz.func17, Tryz.ntmps17
    go_wp2_with fail
    ((with_reducible refine (size_any n _).mono ?_); rintro e w' ⟨rfl, rfl⟩)
    rw [HE.out]
    go_wp2
    go_ret
    exact ⟨by rw [HR.out]; rfl, rfl⟩
theorem ext_mid (l : List UInt8) (a b : Nat) : (⟨l.toArray⟩ : ByteArray).extract a b = ⟨((l.drop a).take (b - a)).toArray⟩ := by
  have h : ((⟨l.toArray⟩ : ByteArray).extract a b).data = (⟨((l.drop a).take (b - a)).toArray⟩ : ByteArray).data := by
    rw [ByteArray.data_extract]
    simp [List.extract_toArray, List.extract_eq_take_drop]
  cases hh : (⟨l.toArray⟩ : ByteArray).extract a b
  rw [hh] at h
  exact congrArg ByteArray.mk h
set_option maxHeartbeats 1000000 in
theorem slot_no (s : List UInt8) (n i : Int) (w : World) (hs : s.length ≤ 1000000000) (h : i < 0 ∨ (roomN s n : Int) ≤ i) :
    Calls Tryz.prog 18 #[.string ⟨s.toArray⟩, .int .i64 n, .int .i64 i] w fun e w' => e = .returned (.string ⟨#[]⟩) ∧ w = w' := by
  by_cases h0 : i < 0
  · have d0 : decide (i < 0) = true := by simpa using h0
    go_enter Tryz.func18, Tryz.ntmps18
    go_wp2
    go_ret
    exact ⟨rfl, rfl⟩
  · have d0 : decide (i < 0) = false := by simpa using h0
    have d1 : decide ((roomN s n : Int) ≤ i) = true := by simp; omega
    go_enter Tryz.func18, Tryz.ntmps18
    go_wp2_with fail
    ((with_reducible refine (room_any s n _ hs).mono ?_); rintro e w' ⟨rfl, rfl⟩)
    go_wp2
    go_ret
    exact ⟨rfl, rfl⟩
set_option maxHeartbeats 1000000 in
theorem slot_yes (s : List UInt8) (n : Int) (i : Nat) (w : World) (hs : s.length ≤ 1000000000) (h : i < roomN s n) :
    Calls Tryz.prog 18 #[.string ⟨s.toArray⟩, .int .i64 n, .int .i64 (i : Int)] w fun e w' => e = .returned (.string ⟨(slotL s n i).toArray⟩) ∧ w = w' := by
  have hsz : (⟨s.toArray⟩ : ByteArray).size = s.length := size_mk s
  have d0 : decide ((i : Int) < 0) = false := by simp
  have d1 : decide ((roomN s n : Int) ≤ (i : Int)) = false := by simp; omega
  have d1' : decide (roomN s n ≤ i) = false := by simp; omega
  have h1 := roomN_le s n
  have h2 : (i + 1) * szN n ≤ roomN s n * szN n := Nat.mul_le_mul_right _ h
  have h3 : (i + 1) * szN n = i * szN n + szN n := by rw [Nat.add_mul, Nat.one_mul]
  rw [h3] at h2
  have HE := Lib.hid (szN_eq n)
  have hz := szN_le n
  have HS := Lib.hid (show slotL s n i = (s.drop (i * szN n)).take (szN n) from rfl)
  have HM := Lib.hid (show (i : Int) * (szN n : Int) = ((i * szN n : Nat) : Int) by simp)
  have HM1 := Lib.hid (show ((i : Int) + 1) * (szN n : Int) = ((i * szN n + szN n : Nat) : Int) by rw [← h3]; push_cast; rfl)
  have HX := Lib.hid (ext_mid s (i * szN n) (i * szN n + szN n))
  have hil : i ≤ 1000000000 := Nat.le_trans (Nat.le_of_lt h) (Nat.le_trans (roomN_len s n) hs)
  generalize hzz : szN n = z at *
  generalize hq : i * z = q at *
  clear h3 hzz
  have hm0 : 0 ≤ (i : Int) * (z : Int) := by rw [HM.out]; omega
  have hm1 : (i : Int) * (z : Int) ≤ 1000000000 := by rw [HM.out]; omega
  have hm2 : 0 ≤ ((i : Int) + 1) * (z : Int) := by rw [HM1.out]; omega
  have hm3 : ((i : Int) + 1) * (z : Int) ≤ 1000000000 := by rw [HM1.out]; omega
  have hm4 : ((i : Int) + 1) * (z : Int) ≤ (s.length : Int) := by rw [HM1.out]; omega
  have hm5 : (i : Int) * (z : Int) ≤ ((i : Int) + 1) * (z : Int) := by rw [HM.out, HM1.out]; omega
  have HR := Lib.hid (show (⟨s.toArray⟩ : ByteArray).extract ((i : Int) * (z : Int)).toNat (((i : Int) + 1) * (z : Int)).toNat = ⟨(slotL s n i).toArray⟩ by
    rw [HM.out, HM1.out, Int.toNat_natCast, Int.toNat_natCast, HX.out, HS.out, Nat.add_sub_cancel_left])
  clear hq HS HX HM HM1 h1 h2
  go_enter Tryz.func18, Tryz.ntmps18
  go_wp2_with fail
  ((with_reducible refine (room_any s n _ hs).mono ?_); rintro e w' ⟨rfl, rfl⟩)
  go_wp2_with fail
  ((with_reducible refine (size_any n _).mono ?_); rintro e w' ⟨rfl, rfl⟩)
  rw [HE.out]
  go_wp2
  go_ret
  exact ⟨by rw [← HR.out]; rfl, rfl⟩
theorem slot_any (s : List UInt8) (n i : Int) (w : World) (hs : s.length ≤ 1000000000) :
    Calls Tryz.prog 18 #[.string ⟨s.toArray⟩, .int .i64 n, .int .i64 i] w fun e w' => e = .returned (.string ⟨(slotI s n i).toArray⟩) ∧ w = w' := by
  by_cases h : 0 ≤ i ∧ i < (roomN s n : Int)
  · obtain ⟨k, rfl⟩ := Int.eq_ofNat_of_zero_le h.1
    have := slot_yes s n k w hs (by omega)
    rwa [show slotI s n (k : Int) = slotL s n k by unfold slotI; rw [if_pos h]; rfl]
  · have := slot_no s n i w hs (by omega)
    rwa [show slotI s n i = [] by unfold slotI; rw [if_neg h]]
end Go.Proofs.YtipiioggdalkoaaGreatDoor
