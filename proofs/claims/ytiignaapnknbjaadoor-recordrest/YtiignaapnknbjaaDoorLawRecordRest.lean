/- A record that was erased in part is itself, or none; one over which another one was programmed is one only if they are the same (record.Make, Read). -/
import Derived.Test.YtiignaapnknbjaaDoorRecWorks
import Derived.ProofKit
import Derived.OpenShut
import Derived.ShutString
import Derived.ChangeOld
import Derived.Below
namespace Go.Proofs.YtiignaapnknbjaaDoor
open Go.ChangeShapes Go.WideShapes Go.ChangeAt Go.RowKit
open Go.ChangeMaps (open_string shut_string)
set_option linter.unusedVariables false

set_option maxRecDepth 100000 in
set_option maxHeartbeats 2000000 in
theorem recordRest_1 (a b c : List UInt8) (w : World) (h : 200 < a.length) :
    Calls Tryd.prog 6 #[.string ⟨a.toArray⟩, .string ⟨b.toArray⟩, .string ⟨c.toArray⟩] w fun e w' => e = .returned (.bool true) ∧ Below w.heap.size w w' := by
  have c1 : decide (200 < (a.length : Int)) = true := by simp; omega
  go_enter Tryd.func6, Tryd.ntmps6
  go_wp2_with fail
  refine (works_any _).mono ?_; rintro e w1 ⟨rfl, hB⟩
  go_wp2
  go_ret
  exact ⟨rfl, hB⟩

set_option maxRecDepth 100000 in
set_option maxHeartbeats 2000000 in
theorem recordRest_2 (a b c : List UInt8) (w : World) (h : a.length ≤ 200) (h2 : 200 < b.length) :
    Calls Tryd.prog 6 #[.string ⟨a.toArray⟩, .string ⟨b.toArray⟩, .string ⟨c.toArray⟩] w fun e w' => e = .returned (.bool true) ∧ Below w.heap.size w w' := by
  have c1 : decide (200 < (a.length : Int)) = false := by simp; omega
  have c2 : decide (200 < (b.length : Int)) = true := by simp; omega
  go_enter Tryd.func6, Tryd.ntmps6
  go_wp2_with fail
  refine (works_any _).mono ?_; rintro e w1 ⟨rfl, hB⟩
  go_wp2
  go_ret
  exact ⟨rfl, hB⟩

set_option maxRecDepth 100000 in
set_option maxHeartbeats 2000000 in
theorem recordRest_3 (a b c : List UInt8) (w : World) (h : a.length ≤ 200) (h2 : b.length ≤ 200) (h3 : 408 < c.length) :
    Calls Tryd.prog 6 #[.string ⟨a.toArray⟩, .string ⟨b.toArray⟩, .string ⟨c.toArray⟩] w fun e w' => e = .returned (.bool true) ∧ Below w.heap.size w w' := by
  have c1 : decide (200 < (a.length : Int)) = false := by simp; omega
  have c2 : decide (200 < (b.length : Int)) = false := by simp; omega
  have c3 : decide (408 < (c.length : Int)) = true := by simp; omega
  go_enter Tryd.func6, Tryd.ntmps6
  go_wp2_with fail
  refine (works_any _).mono ?_; rintro e w1 ⟨rfl, hB⟩
  go_wp2
  go_ret
  exact ⟨rfl, hB⟩

set_option maxRecDepth 100000 in
set_option maxHeartbeats 2000000 in
theorem recordRest_00 (a b c : List UInt8) (w : World) (h : a.length ≤ 200) (h2 : b.length ≤ 200) (h3 : c.length ≤ 408) (he : pairL (· ||| ·) (recL a) c = recL a) (hl : b.length ≠ a.length) :
    Calls Tryd.prog 6 #[.string ⟨a.toArray⟩, .string ⟨b.toArray⟩, .string ⟨c.toArray⟩] w fun e w' => e = .returned (.bool true) ∧ Below w.heap.size w w' := by
  have c1 : decide (200 < (a.length : Int)) = false := by simp; omega
  have c2 : decide (200 < (b.length : Int)) = false := by simp; omega
  have c3 : decide (408 < (c.length : Int)) = false := by simp; omega
  have hrl : (recL a).length ≤ 408 := by rw [length_recL]; omega
  have hrb : (recL b).length ≤ 408 := by rw [length_recL]; omega
  have HRS := Lib.hid (readS_rec a)
  have HRE := Lib.hid (readE_rec a)
  have HE := Lib.hid he
  clear he
  have hlne : ¬ ((b.length : Int) = (a.length : Int)) := by omega
  clear hl
  go_enter Tryd.func6, Tryd.ntmps6
  go_wp2_with fail
  refine (works_any _).mono ?_; rintro e w1 ⟨rfl, hB⟩
  go_wp2_with fail
  ((with_reducible refine (make_any a _ (by omega)).mono ?_); rintro e w2 ⟨rfl, hb2⟩)
  replace hB := hB.trans (hb2.mono hB.size); clear hb2
  go_wp2_with fail
  ((with_reducible refine (or_l (recL a) c _ (by omega) (by omega)).mono ?_); rintro e w2 ⟨rfl, hb2⟩)
  replace hB := hB.trans (hb2.mono hB.size); clear hb2
  rw [HE.out]
  go_wp2_with fail
  ((with_reducible refine (read_any (recL a) _ (by omega)).mono ?_); rintro e w2 ⟨rfl, hb2⟩)
  replace hB := hB.trans (hb2.mono hB.size); clear hb2
  rw [HRS.out, HRE.out]
  go_wp2_with fail
  ((with_reducible refine (make_any b _ (by omega)).mono ?_); rintro e w2 ⟨rfl, hb2⟩)
  replace hB := hB.trans (hb2.mono hB.size); clear hb2
  go_wp2_with fail
  ((with_reducible refine (and_l (recL a) (recL b) _ (by omega) (by omega)).mono ?_); rintro e w2 ⟨rfl, hb2⟩)
  replace hB := hB.trans (hb2.mono hB.size); clear hb2
  have hyl := length_pairL (· &&& ·) (recL a) (recL b)
  generalize pairL (· &&& ·) (recL a) (recL b) = y at *
  go_wp2_with fail
  ((with_reducible refine (read_any y _ (by omega)).mono ?_); rintro e w2 ⟨rfl, hb2⟩)
  replace hB := hB.trans (hb2.mono hB.size); clear hb2
  go_wp2
  go_ret
  exact ⟨rfl, hB⟩

set_option maxRecDepth 100000 in
set_option maxHeartbeats 2000000 in
theorem recordRest_01 (a b c : List UInt8) (w : World) (h : a.length ≤ 200) (h2 : b.length ≤ 200) (h3 : c.length ≤ 408) (he : pairL (· ||| ·) (recL a) c = recL a) (hab : a = b) :
    Calls Tryd.prog 6 #[.string ⟨a.toArray⟩, .string ⟨b.toArray⟩, .string ⟨c.toArray⟩] w fun e w' => e = .returned (.bool true) ∧ Below w.heap.size w w' := by
  subst hab
  have c1 : decide (200 < (a.length : Int)) = false := by simp; omega
  have c2 : decide (200 < (a.length : Int)) = false := by simp; omega
  have c3 : decide (408 < (c.length : Int)) = false := by simp; omega
  have hrl : (recL a).length ≤ 408 := by rw [length_recL]; omega
  have hrb : (recL a).length ≤ 408 := by rw [length_recL]; omega
  have HRS := Lib.hid (readS_rec a)
  have HRE := Lib.hid (readE_rec a)
  have HE := Lib.hid he
  clear he
  have HA := Lib.hid (pairL_self (· &&& ·) (fun x => by simp) (recL a))
  go_enter Tryd.func6, Tryd.ntmps6
  go_wp2_with fail
  refine (works_any _).mono ?_; rintro e w1 ⟨rfl, hB⟩
  go_wp2_with fail
  ((with_reducible refine (make_any a _ (by omega)).mono ?_); rintro e w2 ⟨rfl, hb2⟩)
  replace hB := hB.trans (hb2.mono hB.size); clear hb2
  go_wp2_with fail
  ((with_reducible refine (or_l (recL a) c _ (by omega) (by omega)).mono ?_); rintro e w2 ⟨rfl, hb2⟩)
  replace hB := hB.trans (hb2.mono hB.size); clear hb2
  rw [HE.out]
  go_wp2_with fail
  ((with_reducible refine (read_any (recL a) _ (by omega)).mono ?_); rintro e w2 ⟨rfl, hb2⟩)
  replace hB := hB.trans (hb2.mono hB.size); clear hb2
  rw [HRS.out, HRE.out]
  go_wp2_with fail
  ((with_reducible refine (make_any a _ (by omega)).mono ?_); rintro e w2 ⟨rfl, hb2⟩)
  replace hB := hB.trans (hb2.mono hB.size); clear hb2
  go_wp2_with fail
  ((with_reducible refine (and_l (recL a) (recL a) _ (by omega) (by omega)).mono ?_); rintro e w2 ⟨rfl, hb2⟩)
  replace hB := hB.trans (hb2.mono hB.size); clear hb2
  rw [HA.out]
  go_wp2_with fail
  ((with_reducible refine (read_any (recL a) _ (by omega)).mono ?_); rintro e w2 ⟨rfl, hb2⟩)
  replace hB := hB.trans (hb2.mono hB.size); clear hb2
  rw [HRE.out]
  go_wp2
  go_ret
  exact ⟨rfl, hB⟩

set_option maxRecDepth 100000 in
set_option maxHeartbeats 2000000 in
theorem recordRest_02 (a b c : List UInt8) (w : World) (h : a.length ≤ 200) (h2 : b.length ≤ 200) (h3 : c.length ≤ 408) (he : pairL (· ||| ·) (recL a) c = recL a) (hl : b.length = a.length) (hab : ¬ a = b) (hf : readE (pairL (· &&& ·) (recL a) (recL b)) = 2) :
    Calls Tryd.prog 6 #[.string ⟨a.toArray⟩, .string ⟨b.toArray⟩, .string ⟨c.toArray⟩] w fun e w' => e = .returned (.bool true) ∧ Below w.heap.size w w' := by
  have c1 : decide (200 < (a.length : Int)) = false := by simp; omega
  have c2 : decide (200 < (b.length : Int)) = false := by simp; omega
  have c3 : decide (408 < (c.length : Int)) = false := by simp; omega
  have hrl : (recL a).length ≤ 408 := by rw [length_recL]; omega
  have hrb : (recL b).length ≤ 408 := by rw [length_recL]; omega
  have HRS := Lib.hid (readS_rec a)
  have HRE := Lib.hid (readE_rec a)
  have HE := Lib.hid he
  clear he
  have HF := Lib.hid hf
  have hli : (b.length : Int) = (a.length : Int) := by omega
  have hbe : (a == b) = false := by simpa using hab
  clear hf hl hab
  go_enter Tryd.func6, Tryd.ntmps6
  go_wp2_with fail
  refine (works_any _).mono ?_; rintro e w1 ⟨rfl, hB⟩
  go_wp2_with fail
  ((with_reducible refine (make_any a _ (by omega)).mono ?_); rintro e w2 ⟨rfl, hb2⟩)
  replace hB := hB.trans (hb2.mono hB.size); clear hb2
  go_wp2_with fail
  ((with_reducible refine (or_l (recL a) c _ (by omega) (by omega)).mono ?_); rintro e w2 ⟨rfl, hb2⟩)
  replace hB := hB.trans (hb2.mono hB.size); clear hb2
  rw [HE.out]
  go_wp2_with fail
  ((with_reducible refine (read_any (recL a) _ (by omega)).mono ?_); rintro e w2 ⟨rfl, hb2⟩)
  replace hB := hB.trans (hb2.mono hB.size); clear hb2
  rw [HRS.out, HRE.out]
  go_wp2_with fail
  ((with_reducible refine (make_any b _ (by omega)).mono ?_); rintro e w2 ⟨rfl, hb2⟩)
  replace hB := hB.trans (hb2.mono hB.size); clear hb2
  go_wp2_with fail
  ((with_reducible refine (and_l (recL a) (recL b) _ (by omega) (by omega)).mono ?_); rintro e w2 ⟨rfl, hb2⟩)
  replace hB := hB.trans (hb2.mono hB.size); clear hb2
  have hyl := length_pairL (· &&& ·) (recL a) (recL b)
  generalize pairL (· &&& ·) (recL a) (recL b) = y at *
  go_wp2_with fail
  ((with_reducible refine (read_any y _ (by omega)).mono ?_); rintro e w2 ⟨rfl, hb2⟩)
  replace hB := hB.trans (hb2.mono hB.size); clear hb2
  rw [HF.out]
  clear hyl
  go_wp2
  go_ret
  exact ⟨rfl, hB⟩

set_option maxRecDepth 100000 in
set_option maxHeartbeats 2000000 in
theorem recordRest_10 (a b c : List UInt8) (w : World) (h : a.length ≤ 200) (h2 : b.length ≤ 200) (h3 : c.length ≤ 408) (he : readE (pairL (· ||| ·) (recL a) c) = 2) (hl : b.length ≠ a.length) :
    Calls Tryd.prog 6 #[.string ⟨a.toArray⟩, .string ⟨b.toArray⟩, .string ⟨c.toArray⟩] w fun e w' => e = .returned (.bool true) ∧ Below w.heap.size w w' := by
  have c1 : decide (200 < (a.length : Int)) = false := by simp; omega
  have c2 : decide (200 < (b.length : Int)) = false := by simp; omega
  have c3 : decide (408 < (c.length : Int)) = false := by simp; omega
  have hrl : (recL a).length ≤ 408 := by rw [length_recL]; omega
  have hrb : (recL b).length ≤ 408 := by rw [length_recL]; omega
  have HRS := Lib.hid (readS_rec a)
  have HRE := Lib.hid (readE_rec a)
  have HE := Lib.hid he
  clear he
  have hlne : ¬ ((b.length : Int) = (a.length : Int)) := by omega
  clear hl
  go_enter Tryd.func6, Tryd.ntmps6
  go_wp2_with fail
  refine (works_any _).mono ?_; rintro e w1 ⟨rfl, hB⟩
  go_wp2_with fail
  ((with_reducible refine (make_any a _ (by omega)).mono ?_); rintro e w2 ⟨rfl, hb2⟩)
  replace hB := hB.trans (hb2.mono hB.size); clear hb2
  go_wp2_with fail
  ((with_reducible refine (or_l (recL a) c _ (by omega) (by omega)).mono ?_); rintro e w2 ⟨rfl, hb2⟩)
  replace hB := hB.trans (hb2.mono hB.size); clear hb2
  have hxl := length_pairL (· ||| ·) (recL a) c
  generalize pairL (· ||| ·) (recL a) c = x at *
  go_wp2_with fail
  ((with_reducible refine (read_any x _ (by omega)).mono ?_); rintro e w2 ⟨rfl, hb2⟩)
  replace hB := hB.trans (hb2.mono hB.size); clear hb2
  rw [HE.out]
  go_wp2_with fail
  ((with_reducible refine (make_any b _ (by omega)).mono ?_); rintro e w2 ⟨rfl, hb2⟩)
  replace hB := hB.trans (hb2.mono hB.size); clear hb2
  go_wp2_with fail
  ((with_reducible refine (and_l (recL a) (recL b) _ (by omega) (by omega)).mono ?_); rintro e w2 ⟨rfl, hb2⟩)
  replace hB := hB.trans (hb2.mono hB.size); clear hb2
  have hyl := length_pairL (· &&& ·) (recL a) (recL b)
  generalize pairL (· &&& ·) (recL a) (recL b) = y at *
  go_wp2_with fail
  ((with_reducible refine (read_any y _ (by omega)).mono ?_); rintro e w2 ⟨rfl, hb2⟩)
  replace hB := hB.trans (hb2.mono hB.size); clear hb2
  go_wp2
  go_ret
  exact ⟨rfl, hB⟩

set_option maxRecDepth 100000 in
set_option maxHeartbeats 2000000 in
theorem recordRest_11 (a b c : List UInt8) (w : World) (h : a.length ≤ 200) (h2 : b.length ≤ 200) (h3 : c.length ≤ 408) (he : readE (pairL (· ||| ·) (recL a) c) = 2) (hab : a = b) :
    Calls Tryd.prog 6 #[.string ⟨a.toArray⟩, .string ⟨b.toArray⟩, .string ⟨c.toArray⟩] w fun e w' => e = .returned (.bool true) ∧ Below w.heap.size w w' := by
  subst hab
  have c1 : decide (200 < (a.length : Int)) = false := by simp; omega
  have c2 : decide (200 < (a.length : Int)) = false := by simp; omega
  have c3 : decide (408 < (c.length : Int)) = false := by simp; omega
  have hrl : (recL a).length ≤ 408 := by rw [length_recL]; omega
  have hrb : (recL a).length ≤ 408 := by rw [length_recL]; omega
  have HRS := Lib.hid (readS_rec a)
  have HRE := Lib.hid (readE_rec a)
  have HE := Lib.hid he
  clear he
  have HA := Lib.hid (pairL_self (· &&& ·) (fun x => by simp) (recL a))
  go_enter Tryd.func6, Tryd.ntmps6
  go_wp2_with fail
  refine (works_any _).mono ?_; rintro e w1 ⟨rfl, hB⟩
  go_wp2_with fail
  ((with_reducible refine (make_any a _ (by omega)).mono ?_); rintro e w2 ⟨rfl, hb2⟩)
  replace hB := hB.trans (hb2.mono hB.size); clear hb2
  go_wp2_with fail
  ((with_reducible refine (or_l (recL a) c _ (by omega) (by omega)).mono ?_); rintro e w2 ⟨rfl, hb2⟩)
  replace hB := hB.trans (hb2.mono hB.size); clear hb2
  have hxl := length_pairL (· ||| ·) (recL a) c
  generalize pairL (· ||| ·) (recL a) c = x at *
  go_wp2_with fail
  ((with_reducible refine (read_any x _ (by omega)).mono ?_); rintro e w2 ⟨rfl, hb2⟩)
  replace hB := hB.trans (hb2.mono hB.size); clear hb2
  rw [HE.out]
  go_wp2_with fail
  ((with_reducible refine (make_any a _ (by omega)).mono ?_); rintro e w2 ⟨rfl, hb2⟩)
  replace hB := hB.trans (hb2.mono hB.size); clear hb2
  go_wp2_with fail
  ((with_reducible refine (and_l (recL a) (recL a) _ (by omega) (by omega)).mono ?_); rintro e w2 ⟨rfl, hb2⟩)
  replace hB := hB.trans (hb2.mono hB.size); clear hb2
  rw [HA.out]
  go_wp2_with fail
  ((with_reducible refine (read_any (recL a) _ (by omega)).mono ?_); rintro e w2 ⟨rfl, hb2⟩)
  replace hB := hB.trans (hb2.mono hB.size); clear hb2
  rw [HRE.out]
  go_wp2
  go_ret
  exact ⟨rfl, hB⟩

set_option maxRecDepth 100000 in
set_option maxHeartbeats 2000000 in
theorem recordRest_12 (a b c : List UInt8) (w : World) (h : a.length ≤ 200) (h2 : b.length ≤ 200) (h3 : c.length ≤ 408) (he : readE (pairL (· ||| ·) (recL a) c) = 2) (hl : b.length = a.length) (hab : ¬ a = b) (hf : readE (pairL (· &&& ·) (recL a) (recL b)) = 2) :
    Calls Tryd.prog 6 #[.string ⟨a.toArray⟩, .string ⟨b.toArray⟩, .string ⟨c.toArray⟩] w fun e w' => e = .returned (.bool true) ∧ Below w.heap.size w w' := by
  have c1 : decide (200 < (a.length : Int)) = false := by simp; omega
  have c2 : decide (200 < (b.length : Int)) = false := by simp; omega
  have c3 : decide (408 < (c.length : Int)) = false := by simp; omega
  have hrl : (recL a).length ≤ 408 := by rw [length_recL]; omega
  have hrb : (recL b).length ≤ 408 := by rw [length_recL]; omega
  have HRS := Lib.hid (readS_rec a)
  have HRE := Lib.hid (readE_rec a)
  have HE := Lib.hid he
  clear he
  have HF := Lib.hid hf
  have hli : (b.length : Int) = (a.length : Int) := by omega
  have hbe : (a == b) = false := by simpa using hab
  clear hf hl hab
  go_enter Tryd.func6, Tryd.ntmps6
  go_wp2_with fail
  refine (works_any _).mono ?_; rintro e w1 ⟨rfl, hB⟩
  go_wp2_with fail
  ((with_reducible refine (make_any a _ (by omega)).mono ?_); rintro e w2 ⟨rfl, hb2⟩)
  replace hB := hB.trans (hb2.mono hB.size); clear hb2
  go_wp2_with fail
  ((with_reducible refine (or_l (recL a) c _ (by omega) (by omega)).mono ?_); rintro e w2 ⟨rfl, hb2⟩)
  replace hB := hB.trans (hb2.mono hB.size); clear hb2
  have hxl := length_pairL (· ||| ·) (recL a) c
  generalize pairL (· ||| ·) (recL a) c = x at *
  go_wp2_with fail
  ((with_reducible refine (read_any x _ (by omega)).mono ?_); rintro e w2 ⟨rfl, hb2⟩)
  replace hB := hB.trans (hb2.mono hB.size); clear hb2
  rw [HE.out]
  go_wp2_with fail
  ((with_reducible refine (make_any b _ (by omega)).mono ?_); rintro e w2 ⟨rfl, hb2⟩)
  replace hB := hB.trans (hb2.mono hB.size); clear hb2
  go_wp2_with fail
  ((with_reducible refine (and_l (recL a) (recL b) _ (by omega) (by omega)).mono ?_); rintro e w2 ⟨rfl, hb2⟩)
  replace hB := hB.trans (hb2.mono hB.size); clear hb2
  have hyl := length_pairL (· &&& ·) (recL a) (recL b)
  generalize pairL (· &&& ·) (recL a) (recL b) = y at *
  go_wp2_with fail
  ((with_reducible refine (read_any y _ (by omega)).mono ?_); rintro e w2 ⟨rfl, hb2⟩)
  replace hB := hB.trans (hb2.mono hB.size); clear hb2
  rw [HF.out]
  clear hyl
  go_wp2
  go_ret
  exact ⟨rfl, hB⟩


theorem recordRest_walk (a0 a1 a2 : ByteArray) (w0 : a0.size ≤ maxLen) (w1 : a1.size ≤ maxLen) (w2 : a2.size ≤ maxLen) (w : World) :
    Calls Tryd.prog 6 #[.string a0, .string a1, .string a2] w fun e w' => e = .returned (.bool true) ∧ Below w.heap.size w w' := by
  rw [str_eta a0, str_eta a1, str_eta a2]
  generalize a0.data.toList = a
  generalize a1.data.toList = b
  generalize a2.data.toList = c
  by_cases h : 200 < a.length
  · exact recordRest_1 a b c w h
  by_cases h2 : 200 < b.length
  · exact recordRest_2 a b c w (by omega) h2
  by_cases h3 : 408 < c.length
  · exact recordRest_3 a b c w (by omega) (by omega) h3
  rcases readE_cases (pairL (· ||| ·) (recL a) c) with ⟨he, _⟩ | ⟨he, _⟩
  · have he := part_reads a c he
    by_cases hl : b.length = a.length
    · by_cases hab : a = b
      · exact recordRest_01 a b c w (by omega) (by omega) (by omega) he hab
      · rcases readE_cases (pairL (· &&& ·) (recL a) (recL b)) with ⟨hf, _⟩ | ⟨hf, _⟩
        · exact absurd ((both_iff a b hl).1 hf) hab
        · exact recordRest_02 a b c w (by omega) (by omega) (by omega) he hl hab hf
    · exact recordRest_00 a b c w (by omega) (by omega) (by omega) he hl
  · by_cases hl : b.length = a.length
    · by_cases hab : a = b
      · exact recordRest_11 a b c w (by omega) (by omega) (by omega) he hab
      · rcases readE_cases (pairL (· &&& ·) (recL a) (recL b)) with ⟨hf, _⟩ | ⟨hf, _⟩
        · exact absurd ((both_iff a b hl).1 hf) hab
        · exact recordRest_12 a b c w (by omega) (by omega) (by omega) he hl hab hf
    · exact recordRest_10 a b c w (by omega) (by omega) (by omega) he hl

set_option maxRecDepth 100000 in
theorem recordRest_lifted (os : Os) (started : os.Started) (H : Type) (enc : TypeId × Value → H) :
    ReturnsInHanded {} Tryd.checked os 6 .any (Rows.recordRestSpec.pre6 enc Tryd.prog Tryd.f6 Rows.recordRestRow.domain false) (Rows.recordRestSpec.post enc Tryd.prog Tryd.f6 false true false false) := by
  refine returnsInHanded_of_change (C := Tryd.checked) (by kernel_rfl : ownKnob Tryd.prog.godebug = none) started (by kernel_rfl) Tryd.func6
    (ChangeSpec.witness6 (enc := enc) (C := Tryd.checked) false ⟨#[], #[.string ByteArray.empty, .string ByteArray.empty, .string ByteArray.empty], []⟩ 8 (by kernel_rfl) (by kernel_rfl) (by kernel_rfl) (by kernel_rfl)) ?_
  intro W base args ds gs before hval0 hW hcnd _
  have hval : ∀ (j : Nat) t v, Tryd.f6.params[j]? = some t → args[j]? = some v → Value.okWide Tryd.prog W .any base t v := hval0
  have hW' := hW
  obtain ⟨p, q, hA0, hV, rfl, hfz, hnd⟩ := hW
  have hA : DataW.TrodAll enc Tryd.prog W 0 (fun _ => true) true Tryd.f6.params.toList args.toList ds p := hA0
  rw [Tryd.params6] at hA hval
  obtain ⟨v0, vs0, d0, ds0, p0, q0, hargs, rfl, rfl, h0, r0⟩ := trodAll_cons hA
  obtain ⟨v1, vs1, d1, ds1, p1, q1, rfl, rfl, rfl, h1, r1⟩ := trodAll_cons r0
  obtain ⟨v2, vs2, d2, ds2, p2, q2, rfl, rfl, rfl, h2, r2⟩ := trodAll_cons r1
  obtain ⟨rfl, rfl, rfl⟩ := trodAll_nil r2
  obtain rfl : args = #[v0, v1, v2] := by cases args; simp_all
  obtain ⟨rfl, rfl⟩ := trodVars_none hV
  obtain ⟨a0, rfl, rfl, rfl, w0⟩ := open_string Tryd.underlying9 (hval 0 9 v0 rfl rfl) h0
  obtain ⟨a1, rfl, rfl, rfl, w1⟩ := open_string Tryd.underlying9 (hval 1 9 v1 rfl rfl) h1
  obtain ⟨a2, rfl, rfl, rfl, w2⟩ := open_string Tryd.underlying9 (hval 2 9 v2 rfl rfl) h2
  clear hA0 hval0
  simp only [List.append_nil] at hW'
  refine (recordRest_walk a0 a1 a2 w0 w1 w2 W).mono fun e W' ⟨he, bel⟩ => ?_
  subst he
  exact ⟨_, rfl, _, _, _, [], [], [], hW', trodAll_mk1 (shut_bool Tryd.underlying4 _), (trodAll_cons_mk (shut_string Tryd.underlying9 w0) (trodAll_cons_mk (shut_string Tryd.underlying9 w1) (trodAll_cons_mk (shut_string Tryd.underlying9 w2) trodAll_mk0))), rfl, bel.frame _, fun h => by cases h⟩
/-- THE STATEMENT. -/
theorem recordRest_proved : Rows.RecordRestSaid :=
  OpenClaim.holds_of_wide 6 Tryd.f6 rfl rfl rfl rfl rfl rfl rfl ⟨rfl, rfl, rfl, rfl, rfl⟩ rfl rfl rfl rfl rfl (by kernel_rfl) Tryd.func6 (by kernel_rfl)
    (of_decide_eq_true (by kernel_rfl)) (by unfold Func.isWrapper; first | (rw [if_pos (by decide +kernel)]; kernel_rfl) | (rw [if_neg (by decide +kernel)]; exact ⟨rfl, rfl⟩))
    (fun os started H enc _ => recordRest_lifted os started H enc)
#print axioms recordRest_proved
end Go.Proofs.YtiignaapnknbjaaDoor
