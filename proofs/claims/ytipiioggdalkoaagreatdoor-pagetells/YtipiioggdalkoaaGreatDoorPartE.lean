/- Joined texts: contracts of the program's functions, and the mathematics that they lean on. -/
import Derived.Test.YtipiioggdalkoaaGreatDoorPartD
section
namespace Go.Proofs.YtipiioggdalkoaaGreatDoor
open Go.RowKit
set_option linter.unusedVariables false

theorem refNot_l (a : List UInt8) (w : World) (ha : a.length ≤ 100000) :
    Calls Tryz.prog 70 #[.string ⟨a.toArray⟩] w fun e w' => e = .returned (.string ⟨(notL a).toArray⟩) ∧ Below w.heap.size w w' :=
  refNot_any _ w (by rw [size_mk]; exact ha)

set_option maxHeartbeats 400000 in
theorem refMake_any (l : List UInt8) (w : World) (hl : l.length ≤ 1024) :
    Calls Tryz.prog 47 #[.string ⟨l.toArray⟩] w fun e w' => e = .returned (.string ⟨(recL l).toArray⟩) ∧ Below w.heap.size w w' := by
  have hsl := length_sealL l
  have hnl := length_notL (sealL l)
  have hcat := fun W => run_string_add_lists (P := Tryz.prog) W (sealL l) (notL (sealL l)) (by omega) (by omega)
  have HR := Lib.hid (show sealL l ++ notL (sealL l) = recL l from rfl)
  go_enter Tryz.func47, Tryz.ntmps47
  go_wp2_with fail
  refine (refSeal_any l _ (by omega)).mono ?_
  rintro e w1 ⟨rfl, hB⟩
  go_wp2_with fail
  (with_reducible refine (refNot_l (sealL l) _ (by omega)).mono ?_); rintro e w2 ⟨rfl, hb2⟩
  replace hB := hB.trans (hb2.mono hB.size); clear hb2
  go_wp2
  go_ret
  exact ⟨ret_str HR.out, hB⟩

theorem refSize_any (n : Int) (w : World) :
    Calls Tryz.prog 33 #[.int .i64 n] w fun e w' => e = .returned (.int .i64 (sizeN n)) ∧ w = w' := by
  by_cases h1 : n < 0
  · have d1 : decide (n < 0) = true := by simpa using h1
    go_enter Tryz.func33, Tryz.ntmps33
    go_wp2
    go_ret
    exact ⟨by simp [sizeN, h1], rfl⟩
  · have d1 : decide (n < 0) = false := by simpa using h1
    by_cases h2 : 4000 < n
    · have d2 : decide (4000 < n) = true := by simpa using h2
      go_enter Tryz.func33, Tryz.ntmps33
      go_wp2
      go_ret
      exact ⟨by simp [sizeN, h2], rfl⟩
    · have d2 : decide (4000 < n) = false := by simpa using h2
      go_enter Tryz.func33, Tryz.ntmps33
      go_wp2
      go_ret
      exact ⟨ret_int (by unfold sizeN; rw [if_neg (by omega)]), rfl⟩

set_option maxHeartbeats 400000 in
theorem refClear_any (l : List UInt8) (w : World) (hl : l.length ≤ 1000) :
    Calls Tryz.prog 36 #[.string ⟨l.toArray⟩] w fun e w' => e = .returned (.bool (clearL l)) ∧ Below w.heap.size w w' := by
  have hsz : (⟨l.toArray⟩ : ByteArray).size = l.length := size_mk l
  have HC := Lib.hid (show (l == onesL (l.length : Int)) = clearL l by
    rw [clear_iff]
    have : onesL (l.length : Int) = List.replicate l.length 255 := by unfold onesL; rw [if_pos (by omega), Int.toNat_natCast]
    rw [this]
    by_cases h : l = List.replicate l.length 255
    · rw [decide_eq_true h]; exact beq_iff_eq.2 h
    · rw [decide_eq_false h]; exact beq_eq_false_iff_ne.2 h)
  go_enter Tryz.func36, Tryz.ntmps36
  go_wp2_with fail
  refine (refOnes_any _ _).mono ?_
  rintro e w1 ⟨rfl, hB⟩
  generalize onesL (l.length : Int) = o at *
  go_wp2
  go_ret
  exact ⟨by rw [← HC.out]; rfl, hB⟩

set_option maxHeartbeats 400000 in
theorem refRead_short (l : List UInt8) (w : World) (hl : l.length < 8) :
    Calls Tryz.prog 35 #[.string ⟨l.toArray⟩] w fun e w' => e = .returned (.tuple #[.string ⟨#[]⟩, .int .i64 2]) ∧ Below w.heap.size w w' := by
  have hsz : (⟨l.toArray⟩ : ByteArray).size = l.length := size_mk l
  have c8 : decide ((l.length : Int) < 8) = true := by simp; omega
  go_enter Tryz.func35, Tryz.ntmps35
  go_wp2
  go_ret2
  exact ⟨rfl, Below.refl _ _⟩
set_option maxHeartbeats 400000 in
theorem refRead_odd (l : List UInt8) (w : World) (hl : 8 ≤ l.length) (h1 : l.length ≤ 1000) (h2 : l.length % 2 = 1) :
    Calls Tryz.prog 35 #[.string ⟨l.toArray⟩] w fun e w' => e = .returned (.tuple #[.string ⟨#[]⟩, .int .i64 2]) ∧ Below w.heap.size w w' := by
  have hsz : (⟨l.toArray⟩ : ByteArray).size = l.length := size_mk l
  have c8 : decide ((l.length : Int) < 8) = false := by simp; omega
  have hm : (l.length : Int) % 2 = 1 := by omega
  go_enter Tryz.func35, Tryz.ntmps35
  go_wp2
  go_ret2
  exact ⟨rfl, Below.refl _ _⟩
set_option maxHeartbeats 400000 in
theorem refRead_long (l : List UInt8) (m : Nat) (w : World) (hm : l.length = 2 * (m + 4)) (h1 : l.length ≤ 1000) (o : Bool) (ho : decide (recL (l.take m) = l) = o) :
    Calls Tryz.prog 35 #[.string ⟨l.toArray⟩] w fun e w' => e = .returned (if o = true then .tuple #[.string ⟨(l.take m).toArray⟩, .int .i64 0] else .tuple #[.string ⟨#[]⟩, .int .i64 2]) ∧ Below w.heap.size w w' := by
  have hsz : (⟨l.toArray⟩ : ByteArray).size = 2 * (m + 4) := by rw [size_mk l]; exact hm
  have hext := ext_take' l m
  have HO := Lib.hid ho
  have c8 : decide (2 * ((m : Int) + 4) < 8) = false := by simp; omega
  have c9 : 2 * ((m : Int) + 4) % 2 = 0 := by omega
  have c10 : 2 * ((m : Int) + 4) / 2 = (m : Int) + 4 := by omega
  clear ho
  go_enter Tryz.func35, Tryz.ntmps35
  go_wp2_with fail
  refine (refMake_any (l.take m) _ (by rw [List.length_take]; omega)).mono ?_
  rintro e w' ⟨rfl, hB⟩
  generalize recL (l.take m) = y at *
  cases o with
  | true =>
    have hyl : y = l := by simpa using HO.out
    rw [hyl]
    go_wp2
    go_ret2
    exact ⟨rfl, hB⟩
  | false =>
    have hne : ¬ y = l := by simpa using HO.out
    have hbe : (y == l) = false := by simpa using hne
    have hbn : (y != l) = true := by simpa [bne] using hne
    clear hne
    go_wp2
    go_ret2
    exact ⟨rfl, hB⟩
theorem refRead_any (l : List UInt8) (w : World) (hl : l.length ≤ 1000) :
    Calls Tryz.prog 35 #[.string ⟨l.toArray⟩] w fun e w' => e = .returned (.tuple #[.string ⟨(readS l).toArray⟩, .int .i64 (readE l)]) ∧ Below w.heap.size w w' := by
  by_cases h : l.length < 8
  · obtain ⟨e1, e2⟩ := read_short l (.inl h)
    rw [e1, e2]
    exact refRead_short l w h
  · by_cases h2 : l.length % 2 = 1
    · obtain ⟨e1, e2⟩ := read_short l (.inr h2)
      rw [e1, e2]
      exact refRead_odd l w (by omega) hl h2
    · obtain ⟨e1, e2⟩ := read_ref l (by omega) (by omega)
      refine (refRead_long l (l.length / 2 - 4) w (by omega) hl _ rfl).mono ?_
      rintro e w' ⟨rfl, hB⟩
      refine ⟨?_, hB⟩
      rw [e1, e2]
      by_cases h3 : recL (l.take (l.length / 2 - 4)) = l
      · rw [decide_eq_true h3, if_pos rfl, if_pos h3, if_pos h3]
      · rw [decide_eq_false h3, if_neg h3, if_neg h3]; rfl
end Go.Proofs.YtipiioggdalkoaaGreatDoor
end
section
namespace Go.Proofs.YtipiioggdalkoaaGreatDoor
open Go.RowKit
set_option linter.unusedVariables false
set_option linter.unusedSimpArgs false

set_option maxHeartbeats 1000000 in
theorem refRoom_any (s : List UInt8) (n : Int) (w : World) (hs : s.length ≤ 1000000000) :
    Calls Tryz.prog 10 #[.string ⟨s.toArray⟩, .int .i64 n] w fun e w' => e = .returned (.int .i64 (roomN s n : Int)) ∧ w = w' := by
  have hsz : (⟨s.toArray⟩ : ByteArray).size = s.length := size_mk s
  have HE := Lib.hid (szN_eq n)
  have HZ := Lib.hid (roomN_zero s n)
  have HR := Lib.hid (show (roomN s n : Int) = (s.length : Int) / (szN n : Int) by unfold roomN; simp)
  have hle := szN_le n
  have hrl := roomN_len s n
  generalize szN n = z at *
  generalize roomN s n = r at *
  by_cases h0 : z = 0
  · have d0 : ((z : Int) == 0) = true := by simp [h0]
    go_enter Tryz.func10, Tryz.ntmps10
    go_wp2_with fail
    ((with_reducible refine (refSize_any n _).mono ?_); rintro e w' ⟨rfl, rfl⟩)
    rw [HE.out]
    go_wp2
    go_ret
    exact ⟨by rw [HZ.out h0]; rfl, rfl⟩
  · have d0 : ((z : Int) == 0) = false := by simp; omega
    have hz1 : 0 < z := by omega
    have hq0 : 0 ≤ (s.length : Int) / (z : Int) := by rw [← HR.out]; omega
    have hq1 : (s.length : Int) / (z : Int) ≤ 1000000000 := by rw [← HR.out]; omega
    go_enter Tryz.func10, Tryz.ntmps10
    go_wp2_with fail
    ((with_reducible refine (refSize_any n _).mono ?_); rintro e w' ⟨rfl, rfl⟩)
    rw [HE.out]
    go_wp2
    go_ret
    exact ⟨by rw [HR.out]; rfl, rfl⟩
set_option maxHeartbeats 1000000 in
theorem refSlot_no (s : List UInt8) (n i : Int) (w : World) (hs : s.length ≤ 1000000000) (h : i < 0 ∨ (roomN s n : Int) ≤ i) :
    Calls Tryz.prog 11 #[.string ⟨s.toArray⟩, .int .i64 n, .int .i64 i] w fun e w' => e = .returned (.string ⟨#[]⟩) ∧ w = w' := by
  by_cases h0 : i < 0
  · have d0 : decide (i < 0) = true := by simpa using h0
    go_enter Tryz.func11, Tryz.ntmps11
    go_wp2
    go_ret
    exact ⟨rfl, rfl⟩
  · have d0 : decide (i < 0) = false := by simpa using h0
    have d1 : decide ((roomN s n : Int) ≤ i) = true := by simp; omega
    go_enter Tryz.func11, Tryz.ntmps11
    go_wp2_with fail
    ((with_reducible refine (refRoom_any s n _ hs).mono ?_); rintro e w' ⟨rfl, rfl⟩)
    go_wp2
    go_ret
    exact ⟨rfl, rfl⟩
set_option maxHeartbeats 1000000 in
theorem refSlot_yes (s : List UInt8) (n : Int) (i : Nat) (w : World) (hs : s.length ≤ 1000000000) (h : i < roomN s n) :
    Calls Tryz.prog 11 #[.string ⟨s.toArray⟩, .int .i64 n, .int .i64 (i : Int)] w fun e w' => e = .returned (.string ⟨(slotL s n i).toArray⟩) ∧ w = w' := by
  have hsz : (⟨s.toArray⟩ : ByteArray).size = s.length := size_mk s
  have d0 : decide ((i : Int) < 0) = false := by simp
  have d1 : decide ((roomN s n : Int) ≤ (i : Int)) = false := by simp; omega
  have d1' : decide (roomN s n ≤ i) = false := by simp; omega
  have h1 := roomN_le s n
  have h2 : (i + 1) * szN n ≤ roomN s n * szN n := Nat.mul_le_mul_right _ h
  have h3 : (i + 1) * szN n = i * szN n + szN n := by rw [Nat.add_mul, Nat.one_mul]
  rw [h3] at h2
  have HE := Lib.hid (szN_eq n)
  have hz := szN_le n
  have HS := Lib.hid (show slotL s n i = (s.drop (i * szN n)).take (szN n) from rfl)
  have HM := Lib.hid (show (i : Int) * (szN n : Int) = ((i * szN n : Nat) : Int) by simp)
  have HX := Lib.hid (ext_mid s (i * szN n) (i * szN n + szN n))
  have hil : i ≤ 1000000000 := Nat.le_trans (Nat.le_of_lt h) (Nat.le_trans (roomN_len s n) hs)
  generalize szN n = z at *
  generalize i * z = q at *
  clear h3
  have hm0 : 0 ≤ (i : Int) * (z : Int) := by rw [HM.out]; omega
  have hm1 : (i : Int) * (z : Int) ≤ 1000000000 := by rw [HM.out]; omega
  have hm4 : (i : Int) * (z : Int) + (z : Int) ≤ (s.length : Int) := by rw [HM.out]; omega
  have HR := Lib.hid (show (⟨s.toArray⟩ : ByteArray).extract ((i : Int) * (z : Int)).toNat ((i : Int) * (z : Int) + (z : Int)).toNat = ⟨(slotL s n i).toArray⟩ by
    rw [HM.out, show ((q : Int) + (z : Int)).toNat = q + z by omega, Int.toNat_natCast, HX.out, HS.out, Nat.add_sub_cancel_left])
  clear HS HX HM h1 h2
  go_enter Tryz.func11, Tryz.ntmps11
  go_wp2_with fail
  ((with_reducible refine (refRoom_any s n _ hs).mono ?_); rintro e w' ⟨rfl, rfl⟩)
  go_wp2_with fail
  ((with_reducible refine (refSize_any n _).mono ?_); rintro e w' ⟨rfl, rfl⟩)
  rw [HE.out]
  go_wp2
  go_ret
  exact ⟨by rw [← HR.out]; rfl, rfl⟩
theorem refSlot_any (s : List UInt8) (n i : Int) (w : World) (hs : s.length ≤ 1000000000) :
    Calls Tryz.prog 11 #[.string ⟨s.toArray⟩, .int .i64 n, .int .i64 i] w fun e w' => e = .returned (.string ⟨(slotI s n i).toArray⟩) ∧ w = w' := by
  by_cases h : 0 ≤ i ∧ i < (roomN s n : Int)
  · obtain ⟨k, rfl⟩ := Int.eq_ofNat_of_zero_le h.1
    have := refSlot_yes s n k w hs (by omega)
    rwa [show slotI s n (k : Int) = slotL s n k by unfold slotI; rw [if_pos h]; rfl]
  · have := refSlot_no s n i w hs (by omega)
    rwa [show slotI s n i = [] by unfold slotI; rw [if_neg h]]
end Go.Proofs.YtipiioggdalkoaaGreatDoor
end
section
namespace Go.Proofs.YtipiioggdalkoaaGreatDoor
open Go.RowKit
set_option linter.unusedVariables false
set_option linter.unusedSimpArgs false

theorem ownsRow_block {w : World} {base : Nat} {e : TypeId} {z : Nat} {v : Value} {k : Nat} {xs : List Value} (h : w.ownsRow base e z v k xs) : ∀ j, v.ownBlock = some j → base ≤ j := by
  intro j hj
  obtain ⟨_, ⟨rfl, _⟩ | ⟨g, cap, cur, rfl, hb, _⟩⟩ := h
  · simp [Value.ownBlock] at hj
  · simp only [Value.ownBlock, Option.some.injEq] at hj
    omega
theorem slot_le (s : List UInt8) (n : Int) (j : Nat) : (slotL s n j).length ≤ s.length := by simp only [slotL, List.length_take, List.length_drop]; omega
set_option maxRecDepth 20000 in
set_option maxHeartbeats 1000000 in
theorem refNext_any (s : List UInt8) (n : Int) (w : World) (hs : s.length ≤ 1000) :
    Calls Tryz.prog 16 #[.string ⟨s.toArray⟩, .int .i64 n] w fun e w' => e = .returned (.int .i64 (nextN s n : Int)) ∧ Below w.heap.size w w' := by
  have hrl := roomN_len s n
  have HROOM := Kept.mk (fun W : World => refRoom_any s n W (by omega))
  have HSL := Kept.mk (fun (j : Nat) (hj : j < roomN s n) (W : World) => refSlot_yes s n j W (by omega) hj)
  have HTS := Kept.mk (fun r => tend_succ (fun i => nextP (slotL s n i)) r)
  have HN := Kept.mk (show nextN s n = tend (fun i => nextP (slotL s n i)) (List.range (roomN s n)) from rfl)
  have HCL := Kept.mk (fun (j : Nat) (W : World) => refClear_any (slotL s n j) W (Nat.le_trans (slot_le s n j) hs))
  generalize hr : roomN s n = r at *
  clear hr
  have hB : Below w.heap.size w w := Below.refl _ _
  go_enter Tryz.func16, Tryz.ntmps16
  go_wp2
  go_loopw [5, 6] (fun c i wr => ∃ j : Nat, j ≤ r ∧ i = .int .i64 (j : Int) ∧ c = .int .i64 (tend (fun i => nextP (slotL s n i)) (List.range j) : Int) ∧ Below w.heap.size w wr) (fun _ i _ => r - (intOf i).toNat)
  case atStart => exact ⟨0, Nat.zero_le _, rfl, rfl, hB⟩
  case round =>
    clear hB
    obtain ⟨j, hj, rfl, rfl, hB⟩ := hrel
    by_cases hlt : j < r
    · have e1 : decide ((j : Int) < (r : Int)) = true := by simpa using hlt
      have HS1 := Kept.mk (HSL.out j hlt)
      have HC1 := Kept.mk (HCL.out j)
      have HT := Kept.mk (HTS.out j)
      cases hcv : clearL (slotL s n j) with
      | true =>
        have HCV := Kept.mk hcv
        have HN1 := Kept.mk (show tend (fun i => nextP (slotL s n i)) (List.range (j + 1)) = tend (fun i => nextP (slotL s n i)) (List.range j) by rw [HT.out]; simp [nextP, hcv])
        clear hcv
        generalize tend (fun i => nextP (slotL s n i)) (List.range j) = c at *
        go_wp2_with fail
        ((with_reducible refine (HROOM.out _).mono ?_); rintro e w' ⟨rfl, rfl⟩)
        go_wp2_with fail
        ((with_reducible refine (HS1.out _).mono ?_); rintro e w' ⟨rfl, rfl⟩)
        go_wp2_with fail
        ((with_reducible refine (HC1.out _).mono ?_); rintro e W9 ⟨rfl, hb⟩)
        rewrite [HCV.out]
        replace hB := hB.trans (hb.mono hB.size)
        clear hb
        go_wp2
        go_roundw
        case rel => exact ⟨j + 1, by omega, by go_num, by rw [HN1.out], hB⟩
        case measure => simp [intOf]; omega
      | false =>
        have HCV := Kept.mk hcv
        have HN1 := Kept.mk (show tend (fun i => nextP (slotL s n i)) (List.range (j + 1)) = j + 1 by rw [HT.out]; simp [nextP, hcv])
        clear hcv
        generalize tend (fun i => nextP (slotL s n i)) (List.range j) = c at *
        go_wp2_with fail
        ((with_reducible refine (HROOM.out _).mono ?_); rintro e w' ⟨rfl, rfl⟩)
        go_wp2_with fail
        ((with_reducible refine (HS1.out _).mono ?_); rintro e w' ⟨rfl, rfl⟩)
        go_wp2_with fail
        ((with_reducible refine (HC1.out _).mono ?_); rintro e W9 ⟨rfl, hb⟩)
        rewrite [HCV.out]
        replace hB := hB.trans (hb.mono hB.size)
        clear hb
        go_wp2
        go_roundw
        case rel => exact ⟨j + 1, by omega, by go_num, by rw [HN1.out]; go_num, hB⟩
        case measure => simp [intOf]; omega
    · have e1 : decide ((j : Int) < (r : Int)) = false := by simp; omega
      obtain rfl : j = r := by omega
      go_wp2_with fail
      ((with_reducible refine (HROOM.out _).mono ?_); rintro e w' ⟨rfl, rfl⟩)
      go_wp2
      go_ret
      exact ⟨by rw [HN.out]; rfl, hB⟩
set_option maxRecDepth 20000 in
set_option maxHeartbeats 1000000 in
theorem refBad_any (s : List UInt8) (n : Int) (w : World) (hs : s.length ≤ 1000) :
    Calls Tryz.prog 15 #[.string ⟨s.toArray⟩, .int .i64 n] w fun e w' => e = .returned (.int .i64 (badN s n : Int)) ∧ Below w.heap.size w w' := by
  have hrl := roomN_len s n
  have HROOM := Kept.mk (fun W : World => refRoom_any s n W (by omega))
  have HSL := Kept.mk (fun (j : Nat) (hj : j < roomN s n) (W : World) => refSlot_yes s n j W (by omega) hj)
  have HTS := Kept.mk (fun r => tcnt_succ (fun i => badP (slotL s n i)) r)
  have HTL := Kept.mk (fun r => tcnt_le (fun i => badP (slotL s n i)) (List.range r))
  have HN := Kept.mk (show badN s n = tcnt (fun i => badP (slotL s n i)) (List.range (roomN s n)) from rfl)
  have HCL := Kept.mk (fun (j : Nat) (W : World) => refClear_any (slotL s n j) W (Nat.le_trans (slot_le s n j) hs))
  have HRD := Kept.mk (fun (j : Nat) (W : World) => refRead_any (slotL s n j) W (Nat.le_trans (slot_le s n j) hs))
  generalize hr : roomN s n = r at *
  clear hr
  have hB : Below w.heap.size w w := Below.refl _ _
  go_enter Tryz.func15, Tryz.ntmps15
  go_wp2
  go_loopw [5, 6] (fun c i wr => ∃ j : Nat, j ≤ r ∧ i = .int .i64 (j : Int) ∧ c = .int .i64 (tcnt (fun i => badP (slotL s n i)) (List.range j) : Int) ∧ Below w.heap.size w wr) (fun _ i _ => r - (intOf i).toNat)
  case atStart => exact ⟨0, Nat.zero_le _, rfl, rfl, hB⟩
  case round =>
    clear hB
    obtain ⟨j, hj, rfl, rfl, hB⟩ := hrel
    have htl := HTL.out j
    rw [List.length_range] at htl
    by_cases hlt : j < r
    · have e1 : decide ((j : Int) < (r : Int)) = true := by simpa using hlt
      have HS1 := Kept.mk (HSL.out j hlt)
      have HC1 := Kept.mk (HCL.out j)
      have HR1 := Kept.mk (HRD.out j)
      have HT := Kept.mk (HTS.out j)
      rcases readE_cases (slotL s n j) with ⟨h0, _⟩ | ⟨h0, _⟩
      · have HE := Kept.mk h0
        have HN1 := Kept.mk (show tcnt (fun i => badP (slotL s n i)) (List.range (j + 1)) = tcnt (fun i => badP (slotL s n i)) (List.range j) by rw [HT.out]; simp [badP, isRec, h0])
        clear h0
        generalize tcnt (fun i => badP (slotL s n i)) (List.range j) = c at *
        go_wp2_with fail
        ((with_reducible refine (HROOM.out _).mono ?_); rintro e w' ⟨rfl, rfl⟩)
        go_wp2_with fail
        ((with_reducible refine (HS1.out _).mono ?_); rintro e w' ⟨rfl, rfl⟩)
        go_wp2_with fail
        ((with_reducible refine (HR1.out _).mono ?_); rintro e W9 ⟨rfl, hb⟩)
        rewrite [HE.out]
        replace hB := hB.trans (hb.mono hB.size)
        clear hb
        go_wp2
        go_roundw
        case rel => exact ⟨j + 1, by omega, by go_num, by rw [HN1.out], hB⟩
        case measure => simp [intOf]; omega
      · have HE := Kept.mk h0
        cases hcv : clearL (slotL s n j) with
        | true =>
          have HCV := Kept.mk hcv
          have HN1 := Kept.mk (show tcnt (fun i => badP (slotL s n i)) (List.range (j + 1)) = tcnt (fun i => badP (slotL s n i)) (List.range j) by rw [HT.out]; simp [badP, hcv])
          clear hcv h0
          generalize tcnt (fun i => badP (slotL s n i)) (List.range j) = c at *
          go_wp2_with fail
          ((with_reducible refine (HROOM.out _).mono ?_); rintro e w' ⟨rfl, rfl⟩)
          go_wp2_with fail
          ((with_reducible refine (HS1.out _).mono ?_); rintro e w' ⟨rfl, rfl⟩)
          go_wp2_with fail
          ((with_reducible refine (HR1.out _).mono ?_); rintro e W9 ⟨rfl, hb⟩)
          rewrite [HE.out]
          replace hB := hB.trans (hb.mono hB.size)
          clear hb
          go_wp2_with fail
          ((with_reducible refine (HC1.out _).mono ?_); rintro e W10 ⟨rfl, hb⟩)
          rewrite [HCV.out]
          replace hB := hB.trans (hb.mono hB.size)
          clear hb
          go_wp2
          go_roundw
          case rel => exact ⟨j + 1, by omega, by go_num, by rw [HN1.out], hB⟩
          case measure => simp [intOf]; omega
        | false =>
          have HCV := Kept.mk hcv
          have HN1 := Kept.mk (show tcnt (fun i => badP (slotL s n i)) (List.range (j + 1)) = tcnt (fun i => badP (slotL s n i)) (List.range j) + 1 by rw [HT.out]; simp [badP, isRec, hcv, h0])
          clear hcv h0
          generalize tcnt (fun i => badP (slotL s n i)) (List.range j) = c at *
          go_wp2_with fail
          ((with_reducible refine (HROOM.out _).mono ?_); rintro e w' ⟨rfl, rfl⟩)
          go_wp2_with fail
          ((with_reducible refine (HS1.out _).mono ?_); rintro e w' ⟨rfl, rfl⟩)
          go_wp2_with fail
          ((with_reducible refine (HR1.out _).mono ?_); rintro e W9 ⟨rfl, hb⟩)
          rewrite [HE.out]
          replace hB := hB.trans (hb.mono hB.size)
          clear hb
          go_wp2_with fail
          ((with_reducible refine (HC1.out _).mono ?_); rintro e W10 ⟨rfl, hb⟩)
          rewrite [HCV.out]
          replace hB := hB.trans (hb.mono hB.size)
          clear hb
          go_wp2
          go_roundw
          case rel => exact ⟨j + 1, by omega, by go_num, by rw [HN1.out]; go_num, hB⟩
          case measure => simp [intOf]; omega
    · have e1 : decide ((j : Int) < (r : Int)) = false := by simp; omega
      obtain rfl : j = r := by omega
      go_wp2_with fail
      ((with_reducible refine (HROOM.out _).mono ?_); rintro e w' ⟨rfl, rfl⟩)
      go_wp2
      go_ret
      exact ⟨by rw [HN.out]; rfl, hB⟩
set_option maxRecDepth 20000 in
set_option maxHeartbeats 1000000 in
theorem refRecords_any (s : List UInt8) (n : Int) (w : World) (hs : s.length ≤ 1000) :
    Calls Tryz.prog 14 #[.string ⟨s.toArray⟩, .int .i64 n] w fun e W' => ∃ v, e = .returned v ∧ isCells ((recordsL s n).map strC) v W' ∧ Below w.heap.size w W' := by
  have hrl := roomN_len s n
  obtain ⟨i0, hi, hz0, hz1, hz2⟩ := info_parts Tryz.infoStr
  have HROOM := Kept.mk (fun W : World => refRoom_any s n W (by omega))
  have HSL := Kept.mk (fun (j : Nat) (hj : j < roomN s n) (W : World) => refSlot_yes s n j W (by omega) hj)
  have HTS := Kept.mk (fun r => recsOf_succ s n r)
  have HTL := Kept.mk (fun r => recsOf_len s n (List.range r))
  have HN := Kept.mk (show recordsL s n = recsOf s n (List.range (roomN s n)) from rfl)
  have HRD := Kept.mk (fun (j : Nat) (W : World) => refRead_any (slotL s n j) W (Nat.le_trans (slot_le s n j) hs))
  generalize hr : roomN s n = r at *
  clear hr
  have hB : Below w.heap.size w w := Below.refl _ _
  go_enter Tryz.func14, Tryz.ntmps14
  go_wp2
  go_loopw [5, 6] (fun v i wr => ∃ j : Nat, j ≤ r ∧ i = .int .i64 (j : Int) ∧ Kept (wr.ownsRow w.heap.size 9 1 v (recsOf s n (List.range j)).length ((recsOf s n (List.range j)).map strC)) ∧ Below w.heap.size w wr) (fun _ i _ => r - (intOf i).toNat)
  case atStart => exact ⟨0, Nat.zero_le _, rfl, ⟨World.ownsRow_nil _ _ _ _⟩, hB⟩
  case round =>
    clear hB
    obtain ⟨j, hj, rfl, HO, hB⟩ := hrel
    have htl := HTL.out j
    rw [List.length_range] at htl
    by_cases hlt : j < r
    · have e1 : decide ((j : Int) < (r : Int)) = true := by simpa using hlt
      have HS1 := Kept.mk (HSL.out j hlt)
      have HR1 := Kept.mk (HRD.out j)
      have HT := Kept.mk (HTS.out j)
      rcases readE_cases (slotL s n j) with ⟨h0, _⟩ | ⟨h0, _⟩
      · have HE := Kept.mk h0
        have HN1 := Kept.mk (show recsOf s n (List.range (j + 1)) = recsOf s n (List.range j) ++ [readS (slotL s n j)] by rw [HT.out]; simp [recOf, h0])
        clear h0
        generalize recsOf s n (List.range j) = rl at *
        go_wp2_with fail
        ((with_reducible refine (HROOM.out _).mono ?_); rintro e w' ⟨rfl, rfl⟩)
        go_wp2_with fail
        ((with_reducible refine (HS1.out _).mono ?_); rintro e w' ⟨rfl, rfl⟩)
        go_wp2_with fail
        ((with_reducible refine (HR1.out _).mono ?_); rintro e W9 ⟨rfl, hb⟩)
        rewrite [HE.out]
        replace HO := Kept.mk (ownsRow_below HO.out hb)
        replace hB := hB.trans (hb.mono hB.size)
        clear hb
        generalize readS (slotL s n j) = rd at *
        have HBS := Kept.mk (ownsRow_block HO.out)
        go_wp2_with (at_builtin; refine wpList_append_own _ rfl _ _ 26 rfl w.heap.size 9 i0 (.string ⟨#[]⟩) 1 16 Tryz.underlying26 hi hz0 hz1 hz2 rfl (by decide) _ _ _ rfl (HO.out.alloc _) ⟨W9.heap.size, 0, none⟩ 1 1 [strC rd] rfl rfl (cell_one_new _ _ _) (by simp [Value.oneCell', strC]) (by unfold maxLen; omega) (by omega) (by have := hB.size; simp; omega) ?_; intro v' w1 hown' hgrow _)
        have hB1 : Below w.heap.size w w1 := ((hB.alloc (by have := hB.size; omega) _).grown hgrow (by have := hB.size; simp; omega) HBS.out)
        have HO1 := Kept.mk (show w1.ownsRow w.heap.size 9 1 v' (rl ++ [rd]).length ((rl ++ [rd]).map strC) by simpa using hown')
        clear hown' hgrow
        go_wp2
        go_roundw
        case rel => exact ⟨j + 1, by omega, by go_num, by rw [HN1.out]; exact HO1, hB1⟩
        case measure => simp [intOf]; omega
      · have HE := Kept.mk h0
        have HN1 := Kept.mk (show recsOf s n (List.range (j + 1)) = recsOf s n (List.range j) by rw [HT.out]; simp [recOf, h0])
        clear h0
        generalize recsOf s n (List.range j) = rl at *
        go_wp2_with fail
        ((with_reducible refine (HROOM.out _).mono ?_); rintro e w' ⟨rfl, rfl⟩)
        go_wp2_with fail
        ((with_reducible refine (HS1.out _).mono ?_); rintro e w' ⟨rfl, rfl⟩)
        go_wp2_with fail
        ((with_reducible refine (HR1.out _).mono ?_); rintro e W9 ⟨rfl, hb⟩)
        rewrite [HE.out]
        replace HO := Kept.mk (ownsRow_below HO.out hb)
        replace hB := hB.trans (hb.mono hB.size)
        clear hb
        go_wp2
        go_roundw
        case rel => exact ⟨j + 1, by omega, by go_num, by rw [HN1.out]; exact HO, hB⟩
        case measure => simp [intOf]; omega
    · have e1 : decide ((j : Int) < (r : Int)) = false := by simp; omega
      obtain rfl : j = r := by omega
      go_wp2_with fail
      ((with_reducible refine (HROOM.out _).mono ?_); rintro e w' ⟨rfl, rfl⟩)
      go_wp2
      go_ret
      exact ⟨_, rfl, by rw [HN.out]; exact isCells_own HO.out, hB⟩
end Go.Proofs.YtipiioggdalkoaaGreatDoor
end
