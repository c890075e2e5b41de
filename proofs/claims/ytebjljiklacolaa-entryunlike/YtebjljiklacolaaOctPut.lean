/- Contract of octet.Put. -/
import Derived.Test.YtebjljiklacolaaOctNot
namespace Go.Proofs.Ytebjljiklacolaa
open Go.RowKit
set_option linter.unusedVariables false

/-- n in so many bytes, the lowest ones first. -/
def putL (n : Nat) : Nat → List UInt8
  | 0 => []
  | w + 1 => UInt8.ofNat n :: putL (n / 256) w

theorem length_putL : ∀ w n, (putL n w).length = w
  | 0, _ => rfl
  | w + 1, n => by simp [putL, length_putL w]

theorem putL_get : ∀ (w n k : Nat) (h : k < w), (putL n w)[k]'(by rw [length_putL]; exact h) = UInt8.ofNat (n / 256 ^ k)
  | w + 1, n, 0, _ => by simp [putL]
  | w + 1, n, k + 1, h => by
    have := putL_get w (n / 256) k (by omega)
    simp only [putL, List.getElem_cons_succ, this, Nat.div_div_eq_div_mul, Nat.pow_succ, Nat.mul_comm]

theorem pow8 (k : Nat) : 2 ^ (8 * k) = 256 ^ k := by rw [Nat.pow_mul]
theorem put_byte (m k : Nat) : ((m : Int) / 2 ^ (8 * k) % 256) = ((UInt8.ofNat (m / 256 ^ k)).toNat : Int) := by
  have e : ((2 : Int) ^ (8 * k)) = ((256 ^ k : Nat) : Int) := by rw [← pow8]; simp
  rw [e]
  simp

/-- Whether n is put in so many bytes. -/
def okPut (n width : Int) : Bool := isWidthB width && decide (0 ≤ n) && decide (n < 256 ^ width.toNat)

set_option maxHeartbeats 400000 in
theorem put_bad1 (n width : Int) (w : World) (h : isWidthB width = false) :
    Calls Try.prog 27 #[.int .i64 n, .int .i64 width] w fun e w' => e = .returned (.tuple #[.string ⟨#[]⟩, .int .i64 1]) ∧ w = w' := by
  go_enter Try.func27, Try.ntmps27
  go_wp2_with (go_at_call 38; refine (isWidth_any _ _).mono ?_; rintro e w' ⟨rfl, rfl⟩)
  go_ret2
  exact ⟨rfl, rfl⟩

set_option maxHeartbeats 400000 in
theorem put_bad2 (n width : Int) (w : World) (h : isWidthB width = true) (hn : n < 0) :
    Calls Try.prog 27 #[.int .i64 n, .int .i64 width] w fun e w' => e = .returned (.tuple #[.string ⟨#[]⟩, .int .i64 1]) ∧ w = w' := by
  go_enter Try.func27, Try.ntmps27
  go_wp2_with (go_at_call 38; refine (isWidth_any _ _).mono ?_; rintro e w' ⟨rfl, rfl⟩)
  go_ret2
  exact ⟨rfl, rfl⟩

set_option maxHeartbeats 400000 in
theorem put_bad3 (n width : Int) (w : World) (h : isWidthB width = true) (h1 : 1 ≤ width) (h7 : width ≤ 7) (hn : 0 ≤ n) (hz : (n / 2 ^ (8 * width).toNat != 0) = true) :
    Calls Try.prog 27 #[.int .i64 n, .int .i64 width] w fun e w' => e = .returned (.tuple #[.string ⟨#[]⟩, .int .i64 1]) ∧ w = w' := by
  have hn' : decide (n < 0) = false := by simp; omega
  go_enter Try.func27, Try.ntmps27
  go_wp2_with (go_at_call 38; refine (isWidth_any _ _).mono ?_; rintro e w' ⟨rfl, rfl⟩)
  go_ret2
  exact ⟨rfl, rfl⟩

set_option maxHeartbeats 400000 in
theorem put_ok (m wd : Nat) (w : World) (h : isWidthB (wd : Int) = true) (h1 : 1 ≤ wd) (h7 : wd ≤ 7) (hz : ((m : Int) / 2 ^ (8 * wd) != 0) = false) (hm : (m : Int) ≤ 9223372036854775807) :
    Calls Try.prog 27 #[.int .i64 (m : Int), .int .i64 (wd : Int)] w fun e w' => e = .returned (.tuple #[.string ⟨(putL m wd).toArray⟩, .int .i64 0]) ∧ Below w.heap.size w w' := by
  have hn' : decide ((m : Int) < 0) = false := by simp
  have hmk := fun W => run_make_row' (P := Try.prog) 43 5 (.int .u8 0) 1 Try.underlying43 Try.infoU8 rfl .i64 .i64 wd (by omega) (by omega) W
  go_enter Try.func27, Try.ntmps27
  go_wp2_with (go_at_call 38; refine (isWidth_any _ _).mono ?_; rintro e w' ⟨rfl, rfl⟩)
  clear hmk
  go_loopw [25] (fun i wr => ∃ k : Nat, k ≤ wd ∧ i = .int .i64 k ∧ BRow wr w.heap.size (mix (putL m wd) (List.replicate wd 0) k) ∧ Below w.heap.size w wr) (fun i _ => wd - (intOf i).toNat)
  case atStart => exact ⟨0, Nat.zero_le _, rfl, by rw [mix_zero]; exact BRow.made w 5 wd, (Below.refl _ _).alloc (Nat.le_refl _) _⟩
  case round =>
    obtain ⟨k, hk, rfl, hrow, hbel⟩ := hrel
    have hlen : (mix (putL m wd) (List.replicate wd 0) k).length = wd := by rw [length_mix _ _ _ (by simp [length_putL]), length_putL]
    by_cases hlt : k < wd
    · obtain ⟨v, hc⟩ := hrow.some_ (k := k) (by omega)
      have hf := hrow.free (k := k) (by omega)
      have HL := Lib.hid hlen
      clear hlen
      go_wp2
      go_roundw
      case rel =>
        go_light
        refine ⟨k + 1, by omega, by go_num, ?_, hbel.setCell (p := ⟨w.heap.size, k, none⟩) (Nat.le_refl _) _⟩
        rw [put_byte, ← mix_set _ _ k (by simp [length_putL]) (by rw [length_putL]; exact hlt) (UInt8.ofNat (m / 256 ^ k)) (putL_get wd m k hlt).symm]
        exact hrow.set_ (by rw [HL.out]; exact hlt) _
      case measure => simp [intOf]; omega
    · have hb := hrow.back (P := Try.prog) 43 9 5 wd wd hlen Try.underlying43 Try.underlying5 Try.underlying9
      clear hlen
      go_wp2
      go_ret2
      exact ⟨by rw [mix_all _ _ _ (by simp [length_putL]; omega) (by simp; omega)]; rfl, hbel⟩

def putS (n width : Int) : List UInt8 := if okPut n width = true then putL n.toNat width.toNat else []
def putE (n width : Int) : Int := if okPut n width = true then 0 else 1

theorem put_any (n width : Int) (w : World) (hm : n ≤ 9223372036854775807) :
    Calls Try.prog 27 #[.int .i64 n, .int .i64 width] w fun e w' => e = .returned (.tuple #[.string ⟨(putS n width).toArray⟩, .int .i64 (putE n width)]) ∧ Below w.heap.size w w' := by
  have bad : okPut n width = false → ∀ e w', (e = Ending.returned (.tuple #[.string ⟨#[]⟩, .int .i64 1]) ∧ w = w') → (e = .returned (.tuple #[.string ⟨(putS n width).toArray⟩, .int .i64 (putE n width)]) ∧ Below w.heap.size w w') := by
    rintro h e w' ⟨rfl, rfl⟩
    exact ⟨by simp [putS, putE, h], Below.refl _ _⟩
  cases h : isWidthB width with
  | false => exact (put_bad1 n width w h).mono (bad (by simp [okPut, h]))
  | true =>
    have hwd : 1 ≤ width ∧ width ≤ 7 := by simpa [isWidthB] using h
    by_cases hn : n < 0
    · exact (put_bad2 n width w h hn).mono (bad (by simp [okPut, h]; omega))
    · obtain ⟨m, rfl⟩ := Int.eq_ofNat_of_zero_le (show 0 ≤ n by omega)
      obtain ⟨wd, rfl⟩ := Int.eq_ofNat_of_zero_le (show 0 ≤ width by omega)
      have hlt : (m : Int) < 256 ^ wd ↔ m < 256 ^ wd := by
        rw [show ((256 : Int) ^ wd) = ((256 ^ wd : Nat) : Int) by simp]
        omega
      have e1 : ((m : Int) / 2 ^ (8 * wd)) = ((m / 256 ^ wd : Nat) : Int) := by
        rw [show ((2 : Int) ^ (8 * wd)) = ((256 ^ wd : Nat) : Int) by rw [← pow8]; simp]
        simp
      by_cases hz : m < 256 ^ wd
      · have hd : m / 256 ^ wd = 0 := Nat.div_eq_of_lt hz
        refine (put_ok m wd w h (by omega) (by omega) (by rw [e1, hd]; rfl) hm).mono ?_
        rintro e w' ⟨rfl, hb⟩
        have ok : okPut (m : Int) (wd : Int) = true := by
          simp only [okPut, h, Bool.true_and, Int.toNat_natCast, Bool.and_eq_true, decide_eq_true_eq]
          exact ⟨by omega, hlt.2 hz⟩
        exact ⟨by simp [putS, putE, ok], hb⟩
      · have hd : m / 256 ^ wd ≠ 0 := by
          have := Nat.div_pos (Nat.le_of_not_lt hz) (Nat.pow_pos (by omega))
          omega
        refine (put_bad3 m wd w h (by omega) (by omega) (by omega) ?_).mono (bad ?_)
        · rw [show (8 * (wd : Int)).toNat = 8 * wd by omega, e1]
          simp only [bne_iff_ne, ne_eq]
          omega
        · have hf : ¬ ((m : Int) < 256 ^ wd) := fun c => hz (hlt.1 c)
          simp only [okPut, h, Bool.true_and, Int.toNat_natCast, Bool.and_eq_false_iff, decide_eq_false_iff_not]
          exact .inr hf
end Go.Proofs.Ytebjljiklacolaa
