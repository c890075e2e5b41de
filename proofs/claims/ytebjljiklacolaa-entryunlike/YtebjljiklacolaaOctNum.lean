/- Numbers as bytes: octet.Put and Get where they answer, and where they do not. -/
import Derived.Test.YtebjljiklacolaaOctLists
namespace Go.Proofs.Ytebjljiklacolaa
open Go.RowKit
set_option linter.unusedVariables false

theorem getN_putL : ∀ (w n : Nat), n < 256 ^ w → getN (putL n w) = n
  | 0, n, h => by simp at h; simp [putL, getN, h]
  | w + 1, n, h => by
    have h1 : n / 256 < 256 ^ w := by rw [Nat.pow_succ] at h; omega
    have h2 := getN_putL w (n / 256) h1
    have h3 : (UInt8.ofNat n).toNat = n % 256 := by simp
    simp only [putL, getN, h2, h3]
    omega
theorem putL_getN : ∀ l : List UInt8, putL (getN l) l.length = l
  | [] => rfl
  | b :: r => by
    have h := putL_getN r
    have hb := b.toNat_lt
    have h1 : (b.toNat + 256 * getN r) / 256 = getN r := by omega
    have h2 : UInt8.ofNat (b.toNat + 256 * getN r) = b := by
      apply UInt8.toNat_inj.1
      simp
    simp only [getN, List.length_cons, putL, h1, h2, h]

theorem pow_le (wd : Nat) (h : wd ≤ 7) : 256 ^ wd ≤ 72057594037927936 := by
  have := Nat.pow_le_pow_right (n := 256) (by omega) h
  simpa using this

theorem put_yes (m wd : Nat) (w : World) (h1 : 1 ≤ wd) (h7 : wd ≤ 7) (hz : m < 256 ^ wd) :
    Calls Try.prog 27 #[.int .i64 (m : Int), .int .i64 (wd : Int)] w fun e w' => e = .returned (.tuple #[.string ⟨(putL m wd).toArray⟩, .int .i64 0]) ∧ Below w.heap.size w w' := by
  have hp := pow_le wd h7
  refine (put_any m wd w (by omega)).mono ?_
  rintro e w' ⟨rfl, hb⟩
  have hi : isWidthB (wd : Int) = true := by simp [isWidthB]; omega
  have ok : okPut (m : Int) (wd : Int) = true := by
    simp only [okPut, hi, Bool.true_and, Int.toNat_natCast, Bool.and_eq_true, decide_eq_true_eq]
    refine ⟨by omega, ?_⟩
    rw [show ((256 : Int) ^ wd) = ((256 ^ wd : Nat) : Int) by simp]
    omega
  exact ⟨by simp [putS, putE, ok], hb⟩
theorem put_no (n width : Int) (w : World) (hm : n ≤ 9223372036854775807) (h : okPut n width = false) :
    Calls Try.prog 27 #[.int .i64 n, .int .i64 width] w fun e w' => e = .returned (.tuple #[.string ⟨#[]⟩, .int .i64 1]) ∧ Below w.heap.size w w' := by
  refine (put_any n width w hm).mono ?_
  rintro e w' ⟨rfl, hb⟩
  exact ⟨by simp [putS, putE, h], hb⟩
theorem okPut_nat {n width : Int} (h : okPut n width = true) : ∃ m wd : Nat, n = m ∧ width = wd ∧ 1 ≤ wd ∧ wd ≤ 7 ∧ m < 256 ^ wd := by
  simp only [okPut, isWidthB, Bool.and_eq_true, decide_eq_true_eq] at h
  obtain ⟨⟨⟨h1, h7⟩, h0⟩, hz⟩ := h
  obtain ⟨m, rfl⟩ := Int.eq_ofNat_of_zero_le h0
  obtain ⟨wd, rfl⟩ := Int.eq_ofNat_of_zero_le (show 0 ≤ width by omega)
  refine ⟨m, wd, rfl, rfl, by omega, by omega, ?_⟩
  rw [Int.toNat_natCast, show ((256 : Int) ^ wd) = ((256 ^ wd : Nat) : Int) by simp] at hz
  omega
theorem get_yes (l : List UInt8) (at_ wd : Nat) (w : World) (hl : l.length ≤ 1000000000) (h1 : 1 ≤ wd) (h7 : wd ≤ 7) (hf : at_ + wd ≤ l.length) :
    Calls Try.prog 42 #[.string ⟨l.toArray⟩, .int .i64 (at_ : Int), .int .i64 (wd : Int)] w fun e w' => e = .returned (.tuple #[.int .i64 (getN ((l.drop at_).take wd) : Int), .int .i64 0]) ∧ Below w.heap.size w w' := by
  refine (get_any _ at_ wd w (by rw [size_mk]; exact hl)).mono ?_
  rintro e w' ⟨rfl, hb⟩
  have hi : isWidthB (wd : Int) = true := by simp [isWidthB]; omega
  have ok : okGet ⟨l.toArray⟩ (at_ : Int) (wd : Int) = true := by simp only [okGet, size_mk, Bool.and_eq_true, decide_eq_true_eq]; omega
  exact ⟨by simp [getV, getE, hi, ok], hb⟩
/-- Whether Get answers. -/
def fitsGet (l : List UInt8) (at_ wd : Int) : Bool := decide (1 ≤ wd) && decide (wd ≤ 7) && decide (0 ≤ at_) && decide (at_ + wd ≤ l.length)
theorem get_no (l : List UInt8) (at_ wd : Int) (w : World) (hl : l.length ≤ 1000000000) (h : fitsGet l at_ wd = false) :
    Calls Try.prog 42 #[.string ⟨l.toArray⟩, .int .i64 at_, .int .i64 wd] w fun e w' => ∃ k : Int, (k == 0) = false ∧ k = getE ⟨l.toArray⟩ at_ wd ∧ e = .returned (.tuple #[.int .i64 0, .int .i64 k]) ∧ Below w.heap.size w w' := by
  refine (get_any _ at_ wd w (by rw [size_mk]; exact hl)).mono ?_
  rintro e w' ⟨rfl, hb⟩
  have hn : ¬ (isWidthB wd = true ∧ okGet ⟨l.toArray⟩ at_ wd = true) := by
    rintro ⟨h1, h2⟩
    simp only [isWidthB, okGet, size_mk, Bool.and_eq_true, decide_eq_true_eq] at h1 h2
    simp only [fitsGet, Bool.and_eq_false_iff, decide_eq_false_iff_not] at h
    omega
  refine ⟨getE ⟨l.toArray⟩ at_ wd, ?_, rfl, by simp only [getV, if_neg hn], hb⟩
  unfold getE
  split
  · rename_i hi
    rw [if_neg (fun ho => hn ⟨hi, ho⟩)]
    rfl
  · rfl
theorem fitsGet_nat {l : List UInt8} {at_ wd : Int} (h : fitsGet l at_ wd = true) : ∃ a b : Nat, at_ = a ∧ wd = b ∧ 1 ≤ b ∧ b ≤ 7 ∧ a + b ≤ l.length := by
  simp only [fitsGet, Bool.and_eq_true, decide_eq_true_eq] at h
  obtain ⟨a, rfl⟩ := Int.eq_ofNat_of_zero_le h.1.2
  obtain ⟨b, rfl⟩ := Int.eq_ofNat_of_zero_le (show 0 ≤ wd by omega)
  exact ⟨a, b, rfl, rfl, by omega, by omega, by omega⟩
end Go.Proofs.Ytebjljiklacolaa
