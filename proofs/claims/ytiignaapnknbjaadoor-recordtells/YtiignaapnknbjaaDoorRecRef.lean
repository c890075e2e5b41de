/- The document's own answers of layer 4: Make, Read, Size, Clear. -/
import Derived.Test.YtiignaapnknbjaaDoorRecWalk
import Derived.Test.YtiignaapnknbjaaDoorRefBits
import Derived.Test.YtiignaapnknbjaaDoorCrcRef
namespace Go.Proofs.YtiignaapnknbjaaDoor
open Go.RowKit
set_option linter.unusedVariables false

theorem refNot_l (a : List UInt8) (w : World) (ha : a.length ≤ 100000) :
    Calls Tryd.prog 24 #[.string ⟨a.toArray⟩] w fun e w' => e = .returned (.string ⟨(notL a).toArray⟩) ∧ Below w.heap.size w w' :=
  refNot_any _ w (by rw [size_mk]; exact ha)

set_option maxHeartbeats 400000 in
theorem refMake_any (l : List UInt8) (w : World) (hl : l.length ≤ 1024) :
    Calls Tryd.prog 10 #[.string ⟨l.toArray⟩] w fun e w' => e = .returned (.string ⟨(recL l).toArray⟩) ∧ Below w.heap.size w w' := by
  have hsl := length_sealL l
  have hnl := length_notL (sealL l)
  have hcat := fun W => run_string_add_lists (P := Tryd.prog) W (sealL l) (notL (sealL l)) (by omega) (by omega)
  have HR := Lib.hid (show sealL l ++ notL (sealL l) = recL l from rfl)
  go_enter Tryd.func10, Tryd.ntmps10
  go_wp2_with fail
  refine (refSeal_any l _ (by omega)).mono ?_
  rintro e w1 ⟨rfl, hB⟩
  go_wp2_with fail
  (with_reducible refine (refNot_l (sealL l) _ (by omega)).mono ?_); rintro e w2 ⟨rfl, hb2⟩
  replace hB := hB.trans (hb2.mono hB.size); clear hb2
  go_wp2
  go_ret
  exact ⟨ret_str HR.out, hB⟩

theorem refSize_any (n : Int) (w : World) :
    Calls Tryd.prog 13 #[.int .i64 n] w fun e w' => e = .returned (.int .i64 (sizeN n)) ∧ w = w' := by
  by_cases h1 : n < 0
  · have d1 : decide (n < 0) = true := by simpa using h1
    go_enter Tryd.func13, Tryd.ntmps13
    go_wp2
    go_ret
    exact ⟨by simp [sizeN, h1], rfl⟩
  · have d1 : decide (n < 0) = false := by simpa using h1
    by_cases h2 : 4000 < n
    · have d2 : decide (4000 < n) = true := by simpa using h2
      go_enter Tryd.func13, Tryd.ntmps13
      go_wp2
      go_ret
      exact ⟨by simp [sizeN, h2], rfl⟩
    · have d2 : decide (4000 < n) = false := by simpa using h2
      go_enter Tryd.func13, Tryd.ntmps13
      go_wp2
      go_ret
      exact ⟨ret_int (by unfold sizeN; rw [if_neg (by omega)]), rfl⟩

set_option maxHeartbeats 400000 in
theorem refClear_any (l : List UInt8) (w : World) (hl : l.length ≤ 1000) :
    Calls Tryd.prog 14 #[.string ⟨l.toArray⟩] w fun e w' => e = .returned (.bool (clearL l)) ∧ Below w.heap.size w w' := by
  have hsz : (⟨l.toArray⟩ : ByteArray).size = l.length := size_mk l
  have HC := Lib.hid (show (l == onesL (l.length : Int)) = clearL l by
    rw [clear_iff]
    have : onesL (l.length : Int) = List.replicate l.length 255 := by unfold onesL; rw [if_pos (by omega), Int.toNat_natCast]
    rw [this]
    by_cases h : l = List.replicate l.length 255
    · rw [decide_eq_true h]; exact beq_iff_eq.2 h
    · rw [decide_eq_false h]; exact beq_eq_false_iff_ne.2 h)
  go_enter Tryd.func14, Tryd.ntmps14
  go_wp2_with fail
  refine (refOnes_any _ _).mono ?_
  rintro e w1 ⟨rfl, hB⟩
  generalize onesL (l.length : Int) = o at *
  go_wp2
  go_ret
  exact ⟨by rw [← HC.out]; rfl, hB⟩

set_option maxHeartbeats 400000 in
theorem refRead_short (l : List UInt8) (w : World) (hl : l.length < 8) :
    Calls Tryd.prog 12 #[.string ⟨l.toArray⟩] w fun e w' => e = .returned (.tuple #[.string ⟨#[]⟩, .int .i64 2]) ∧ Below w.heap.size w w' := by
  have hsz : (⟨l.toArray⟩ : ByteArray).size = l.length := size_mk l
  have c8 : decide ((l.length : Int) < 8) = true := by simp; omega
  go_enter Tryd.func12, Tryd.ntmps12
  go_wp2
  go_ret2
  exact ⟨rfl, Below.refl _ _⟩
set_option maxHeartbeats 400000 in
theorem refRead_odd (l : List UInt8) (w : World) (hl : 8 ≤ l.length) (h1 : l.length ≤ 1000) (h2 : l.length % 2 = 1) :
    Calls Tryd.prog 12 #[.string ⟨l.toArray⟩] w fun e w' => e = .returned (.tuple #[.string ⟨#[]⟩, .int .i64 2]) ∧ Below w.heap.size w w' := by
  have hsz : (⟨l.toArray⟩ : ByteArray).size = l.length := size_mk l
  have c8 : decide ((l.length : Int) < 8) = false := by simp; omega
  have hm : (l.length : Int) % 2 = 1 := by omega
  go_enter Tryd.func12, Tryd.ntmps12
  go_wp2
  go_ret2
  exact ⟨rfl, Below.refl _ _⟩
set_option maxHeartbeats 400000 in
theorem refRead_long (l : List UInt8) (m : Nat) (w : World) (hm : l.length = 2 * (m + 4)) (h1 : l.length ≤ 1000) (o : Bool) (ho : decide (recL (l.take m) = l) = o) :
    Calls Tryd.prog 12 #[.string ⟨l.toArray⟩] w fun e w' => e = .returned (if o = true then .tuple #[.string ⟨(l.take m).toArray⟩, .int .i64 0] else .tuple #[.string ⟨#[]⟩, .int .i64 2]) ∧ Below w.heap.size w w' := by
  have hsz : (⟨l.toArray⟩ : ByteArray).size = 2 * (m + 4) := by rw [size_mk l]; exact hm
  have hext := ext_take' l m
  have HO := Lib.hid ho
  have c8 : decide (2 * ((m : Int) + 4) < 8) = false := by simp; omega
  have c9 : 2 * ((m : Int) + 4) % 2 = 0 := by omega
  have c10 : 2 * ((m : Int) + 4) / 2 = (m : Int) + 4 := by omega
  clear ho
  go_enter Tryd.func12, Tryd.ntmps12
  go_wp2_with fail
  refine (refMake_any (l.take m) _ (by rw [List.length_take]; omega)).mono ?_
  rintro e w' ⟨rfl, hB⟩
  generalize recL (l.take m) = y at *
  cases o with
  | true =>
    have hyl : y = l := by simpa using HO.out
    rw [hyl]
    go_wp2
    go_ret2
    exact ⟨rfl, hB⟩
  | false =>
    have hne : ¬ y = l := by simpa using HO.out
    have hbe : (y == l) = false := by simpa using hne
    have hbn : (y != l) = true := by simpa [bne] using hne
    clear hne
    go_wp2
    go_ret2
    exact ⟨rfl, hB⟩
theorem refRead_any (l : List UInt8) (w : World) (hl : l.length ≤ 1000) :
    Calls Tryd.prog 12 #[.string ⟨l.toArray⟩] w fun e w' => e = .returned (.tuple #[.string ⟨(readS l).toArray⟩, .int .i64 (readE l)]) ∧ Below w.heap.size w w' := by
  by_cases h : l.length < 8
  · obtain ⟨e1, e2⟩ := read_short l (.inl h)
    rw [e1, e2]
    exact refRead_short l w h
  · by_cases h2 : l.length % 2 = 1
    · obtain ⟨e1, e2⟩ := read_short l (.inr h2)
      rw [e1, e2]
      exact refRead_odd l w (by omega) hl h2
    · obtain ⟨e1, e2⟩ := read_ref l (by omega) (by omega)
      refine (refRead_long l (l.length / 2 - 4) w (by omega) hl _ rfl).mono ?_
      rintro e w' ⟨rfl, hB⟩
      refine ⟨?_, hB⟩
      rw [e1, e2]
      by_cases h3 : recL (l.take (l.length / 2 - 4)) = l
      · rw [decide_eq_true h3, if_pos rfl, if_pos h3, if_pos h3]
      · rw [decide_eq_false h3, if_neg h3, if_neg h3]; rfl
end Go.Proofs.YtiignaapnknbjaaDoor
