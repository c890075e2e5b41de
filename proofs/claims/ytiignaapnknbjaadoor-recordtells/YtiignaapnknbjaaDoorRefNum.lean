/- The document's own Put, Get (ouroborosref01). -/
import Derived.Test.YtiignaapnknbjaaDoorOwnBytes
import Derived.Test.YtiignaapnknbjaaDoorOctNum
namespace Go.Proofs.YtiignaapnknbjaaDoor
open Go.RowKit
set_option linter.unusedVariables false

theorem putL_snoc : ∀ (k m : Nat), putL m (k + 1) = putL m k ++ [UInt8.ofNat (m / 256 ^ k)]
  | 0, m => by simp [putL]
  | k + 1, m => by
    have h := putL_snoc k (m / 256)
    rw [putL, h, putL, Nat.div_div_eq_div_mul, Nat.pow_succ, Nat.mul_comm]
    simp

set_option maxRecDepth 20000 in
set_option maxHeartbeats 400000 in
theorem refPut_bad (n width : Int) (w : World) (h : isWidthB width = false ∨ n < 0) :
    Calls Tryd.prog 37 #[.int .i64 n, .int .i64 width] w fun e w' => e = .returned (.tuple #[.string ⟨#[]⟩, .int .i64 1]) ∧ w = w' := by
  by_cases h1 : width < 1
  · go_enter Tryd.func37, Tryd.ntmps37
    go_wp2
    go_ret2
    exact ⟨rfl, rfl⟩
  · have h1' : decide (width < 1) = false := by simpa using h1
    by_cases h7 : 7 < width
    · go_enter Tryd.func37, Tryd.ntmps37
      go_wp2
      go_ret2
      exact ⟨rfl, rfl⟩
    · have h7' : decide (7 < width) = false := by simpa using h7
      have hn : n < 0 := by
        rcases h with h | h
        · simp only [isWidthB, Bool.and_eq_false_iff, decide_eq_false_iff_not] at h; omega
        · exact h
      clear h
      go_enter Tryd.func37, Tryd.ntmps37
      go_wp2
      go_ret2
      exact ⟨rfl, rfl⟩

/-- What is left of a number, byte by byte. -/
def leftN (m k : Nat) : Nat := m / 256 ^ k
theorem leftN_succ (m k : Nat) : leftN m (k + 1) = leftN m k / 256 := by
  unfold leftN; rw [Nat.pow_succ, Nat.div_div_eq_div_mul]
theorem leftN_le (m k : Nat) : leftN m k ≤ m := Nat.div_le_self _ _

set_option maxRecDepth 20000 in
set_option maxHeartbeats 400000 in
theorem refPut_run (m wd : Nat) (w : World) (h1 : 1 ≤ wd) (h7 : wd ≤ 7) (hm : (m : Int) ≤ 9223372036854775807) (z : Bool) (hz : decide (0 < leftN m wd) = z) :
    Calls Tryd.prog 37 #[.int .i64 (m : Int), .int .i64 (wd : Int)] w fun e w' => e = .returned (if z = true then .tuple #[.string ⟨#[]⟩, .int .i64 1] else .tuple #[.string ⟨(putL m wd).toArray⟩, .int .i64 0]) ∧ Below w.heap.size w w' := by
  obtain ⟨i0, hi, hz0, hz1, hz2⟩ := info_parts Tryd.infoU8
  have d1 : decide ((wd : Int) < 1) = false := by simp; omega
  have d2 : decide (7 < (wd : Int)) = false := by simp; omega
  have d3 : decide ((m : Int) < 0) = false := by simp
  have HZ := Lib.hid hz
  clear hz
  go_enter Tryd.func37, Tryd.ntmps37
  go_wp2
  go_loopw [0, 6, 7] (fun n v i wr => ∃ k : Nat, k ≤ wd ∧ i = .int .i64 k ∧ n = .int .i64 (leftN m k : Int) ∧ OwnB wr w.heap.size 5 v (putL m k) ∧ Below w.heap.size w wr) (fun _ _ i _ => wd - (intOf i).toNat)
  case atStart => exact ⟨0, Nat.zero_le _, rfl, by simp [leftN], OwnB.nil _ _ _, Below.refl _ _⟩
  case round =>
    obtain ⟨k, hk, rfl, rfl, hown, hbel⟩ := hrel
    have hle := leftN_le m k
    by_cases hlt : k < wd
    · have hlen := length_putL k m
      have hbs := hown.size_le
      have HS := Lib.hid (putL_snoc k m)
      have HN := Lib.hid (leftN_succ m k)
      have HQ := Lib.hid (show ((leftN m k : Int) % 256) = ((UInt8.ofNat (m / 256 ^ k)).toNat : Int) by unfold leftN; simp)
      generalize putL m k = l at *
      have HO := Lib.hid hown
      have HBS := Lib.hid hbs
      have hll : l.length ≤ 7 := by omega
      clear hown hbs hlen
      go_wp2_with (at_builtin; refine wpList_append_own _ rfl _ _ 35 rfl w.heap.size 5 i0 (.int .u8 0) 1 1 Tryd.underlying35 hi hz0 hz1 hz2 rfl (by decide) _ _ _ rfl (HO.out.alloc _) ⟨wr.heap.size, 0, none⟩ 1 1 [.int .u8 ((leftN m k : Int) % 256)] rfl rfl ?c1 ?c2 ?c3 ?c4 ?c5 ?_)
      case c1 => exact cell_one_new _ _ _
      case c2 => intro u hu; simp at hu; subst hu; rfl
      case c3 => unfold maxLen; omega
      case c4 => omega
      case c5 => have := hbel.size; simp; omega
      · intro v' w1 hown' hgrow _
        have hB1 : Below w.heap.size w w1 := (hbel.alloc (by have := hbel.size; omega) _).grown hgrow (by have := hbel.size; simp; omega) HBS.out
        have HO1 : Hid (OwnB w1 w.heap.size 5 v' (putL m (k + 1))) := by
          show OwnB _ _ _ _ _
          rw [HS.out]
          rw [HQ.out, encB_snoc] at hown'
          have e : l.length + 1 = (l ++ [UInt8.ofNat (m / 256 ^ k)]).length := by simp
          rw [e] at hown'
          exact hown'
        clear hown' hgrow
        go_wp2
        go_roundw
        case rel => exact ⟨k + 1, by omega, by go_num, by rw [HN.out]; go_num, HO1.out, hB1⟩
        case measure => simp [intOf]; omega
    · obtain rfl : k = wd := by omega
      have hbk := hown.back (P := Tryd.prog) 35 9 Tryd.underlying35 Tryd.underlying5 Tryd.underlying9
      have HO := Lib.hid hown
      clear hown
      have hzz := HZ.out
      cases z with
      | true =>
        have hp : 0 < leftN m k := by simpa using hzz
        go_wp2
        go_ret2
        exact ⟨rfl, hbel⟩
      | false =>
        have hp : ¬ 0 < leftN m k := by simpa using hzz
        go_wp2
        go_ret2
        exact ⟨rfl, hbel⟩

theorem refPut_any (n width : Int) (w : World) (hm : n ≤ 9223372036854775807) :
    Calls Tryd.prog 37 #[.int .i64 n, .int .i64 width] w fun e w' => e = .returned (.tuple #[.string ⟨(putS n width).toArray⟩, .int .i64 (putE n width)]) ∧ Below w.heap.size w w' := by
  by_cases h : isWidthB width = false ∨ n < 0
  · refine (refPut_bad n width w h).mono ?_
    rintro e w' ⟨rfl, rfl⟩
    have ok : okPut n width = false := by
      rcases h with h | h
      · simp [okPut, h]
      · simp [okPut]; omega
    exact ⟨by simp [putS, putE, ok], Below.refl _ _⟩
  · have hw : isWidthB width = true := by simp at h; exact h.1
    have hwd : 1 ≤ width ∧ width ≤ 7 := by simpa [isWidthB] using hw
    obtain ⟨m, rfl⟩ := Int.eq_ofNat_of_zero_le (show 0 ≤ n by simp at h; omega)
    obtain ⟨wd, rfl⟩ := Int.eq_ofNat_of_zero_le (show 0 ≤ width by omega)
    refine (refPut_run m wd w (by omega) (by omega) hm _ rfl).mono ?_
    rintro e w' ⟨rfl, hb⟩
    have hiff : okPut (m : Int) (wd : Int) = !decide (0 < leftN m wd) := by
      have e1 : ((256 : Int) ^ wd) = ((256 ^ wd : Nat) : Int) := by simp
      simp only [okPut, hw, Bool.true_and, Int.toNat_natCast, e1]
      unfold leftN
      by_cases hz : m < 256 ^ wd
      · have : m / 256 ^ wd = 0 := Nat.div_eq_of_lt hz
        simp [this]
        omega
      · have := Nat.div_pos (Nat.le_of_not_lt hz) (Nat.pow_pos (n := wd) (show 0 < 256 by omega))
        simp [this]
        omega
    refine ⟨?_, hb⟩
    cases hd : decide (0 < leftN m wd) with
    | true => rw [hd] at hiff; simp [putS, putE, hiff]
    | false => rw [hd] at hiff; simp [putS, putE, hiff]

theorem getN_drop (l : List UInt8) (i : Nat) (h : i < l.length) : getN (l.drop i) = 256 * getN (l.drop (i + 1)) + l[i].toNat := by
  rw [List.drop_eq_getElem_cons h, getN]
  omega

theorem get_step (g b : Nat) (hg : g ≤ 281474976710656) (hb : b < 2 ^ 8) : wrap64 (256 * (g : Int) + wrap64 (b : Int)) = ((256 * g + b : Nat) : Int) := by
  unfold wrap64
  omega

end Go.Proofs.YtiignaapnknbjaaDoor
