/- Contracts of zeros, fill, skip, padded. -/
import Derived.Test.YtebjljiklacolaaEnText
import Derived.Test.YtebjljiklacolaaEnMath
namespace Go.Proofs.Ytebjljiklacolaa
open Go.RowKit
set_option linter.unusedVariables false
set_option linter.unusedSimpArgs false

theorem repeatL_zeros (n : Nat) : Lib.repeatL [0] n = zerosL n := by
  induction n with
  | zero => rfl
  | succ n ih => simp [Lib.repeatL, zerosL, List.replicate_succ] at ih ⊢; try rw [ih]
set_option maxHeartbeats 800000 in
theorem zeros_any (n : Nat) (w : World) (hn : n ≤ 1000) : Calls Try.prog 28 #[.int .i64 (n : Int)] w fun e w' => e = .returned (txt (zerosL n)) ∧ Below w.heap.size w w' := by
  have E0 := Lib.hid (repeatL_zeros n)
  go_enter Try.func28, Try.ntmps28
  go_wp2_with fail
  refine (Try.strings_Repeat ⟨#[0]⟩ n _ (by omega) (by show 1 * n ≤ _; omega)).mono ?_
  rintro e w' ⟨rfl, hb⟩
  go_wp2
  go_ret
  exact ⟨ret_str E0.out, hb⟩
set_option maxHeartbeats 800000 in
theorem fill_any (g : Nat) (t : List UInt8) (n : Nat) (w : World) (h : At w g (txt t)) (ht : t.length ≤ n) (hn : n ≤ 1000) :
    Calls Try.prog 20 #[ptr g, .int .i64 (n : Int)] w fun e w' => e = .returned unitV ∧ Wr g (txt (t ++ zerosL (n - t.length))) w w' := by
  have hc := h.cell
  have hs : (⟨t.toArray⟩ : ByteArray).size = t.length := by simp [ByteArray.size]
  go_enter Try.func20, Try.ntmps20
  go_wp2_with fail
  have e : (n : Int) - (t.length : Int) = ((n - t.length : Nat) : Int) := by omega
  rw [e]
  refine (zeros_any (n - t.length) w (by omega)).mono ?_
  rintro e w1 ⟨rfl, hb⟩
  clear hc
  go_wp2_with fail
  refine (add_any g t (zerosL (n - t.length)) w1 (h.keep hb) (by omega) (by rw [length_zeros]; omega)).mono ?_
  rintro e w2 ⟨rfl, hw2⟩
  replace hw2 := Kept.mk (Wr.behind hb hw2)
  clear hb
  go_wp2
  go_end0
  exact ⟨rfl, hw2.out⟩
set_option maxHeartbeats 800000 in
theorem skip_any (g : Nat) (l : List UInt8) (n : Nat) (w : World) (h : At w g (txt l)) (hn : n ≤ l.length) (hl : l.length ≤ 1000) :
    Calls Try.prog 36 #[ptr g, .int .i64 (n : Int)] w fun e w' => (l.take n = zerosL n ∧ e = .returned unitV ∧ Wr g (txt (l.drop n)) w w') ∨ (¬ l.take n = zerosL n ∧ e = Gave ∧ ∃ x, Wr g x w w') := by
  go_enter Try.func36, Try.ntmps36
  go_wp2_with fail
  refine (take_any g l n w h hn hl).mono ?_
  rintro e w1 ⟨rfl, hw1⟩
  have HW := Kept.mk hw1
  clear hw1
  go_wp2_with fail
  refine (zeros_any n w1 (by omega)).mono ?_
  rintro e w2 ⟨rfl, hb⟩
  replace HW := Kept.mk (HW.out.then_ hb)
  clear hb
  by_cases hz : l.take n = zerosL n
  · have HZ := Kept.mk hz
    clear hz
    go_wp2_with fail
    refine (insist_yes _ (by simpa using HZ.out) _).mono ?_
    rintro e w3 ⟨rfl, rfl⟩
    go_wp2
    go_end0
    exact .inl ⟨HZ.out, rfl, HW.out⟩
  · have HZ := Kept.mk hz
    clear hz
    go_wp2_with fail
    refine (insist_no _ (by simpa using HZ.out) _).mono ?_
    rintro e w3 ⟨rfl, rfl⟩
    go_wp2
    exact ⟨rfl, .inr ⟨HZ.out, rfl, _, HW.out⟩⟩
set_option maxHeartbeats 800000 in
theorem padded_any (g : Nat) (l : List UInt8) (z : Nat) (w : World) (h : At w g (txt l)) (h8 : 8 ≤ l.length) (hl : l.length ≤ 1000) (hz : z ≤ 1000) :
    Calls Try.prog 34 #[ptr g, .int .i64 (z : Int), .int .i64 8] w fun e w' => (padOk z 8 l ∧ e = .returned (txt (l.take z)) ∧ Wr g (txt ((l.drop z).drop (8 - z))) w w') ∨ (¬ padOk z 8 l ∧ e = Gave ∧ ∃ x, Wr g x w w') := by
  go_enter Try.func34, Try.ntmps34
  by_cases hr : (z : Int) ≤ 8
  · go_wp2_with fail
    refine (insist_yes _ (by first | rfl | simpa using hr) _).mono ?_
    rintro e w3 ⟨rfl, rfl⟩
    go_wp2_with fail
    refine (take_any g l z w h (by omega) hl).mono ?_
    rintro e w1 ⟨rfl, hw1⟩
    have HW := Kept.mk hw1
    clear hw1
    go_wp2_with fail
    have e : (8 : Int) - (z : Int) = ((8 - z : Nat) : Int) := by omega
    rw [e]
    refine (skip_any g (l.drop z) (8 - z) w1 HW.out.at_ (by rw [List.length_drop]; omega) (by rw [List.length_drop]; omega)).mono ?_
    rintro e w2 (⟨hp, rfl, hw2⟩ | ⟨hp, rfl, x, hw2⟩)
    · replace HW := Kept.mk (HW.out.trans hw2)
      have HP := Kept.mk hp
      clear hp hw2
      go_wp2
      go_ret
      exact .inl ⟨⟨by omega, HP.out⟩, rfl, HW.out⟩
    · replace HW := Kept.mk (HW.out.trans hw2)
      have HP := Kept.mk hp
      clear hp hw2
      go_wp2
      exact ⟨rfl, .inr ⟨fun k => HP.out k.2, rfl, _, HW.out⟩⟩
  · go_wp2_with fail
    refine (insist_no _ (by first | rfl | simpa using hr) _).mono ?_
    rintro e w3 ⟨rfl, rfl⟩
    go_wp2
    exact ⟨rfl, .inr ⟨fun k => by have := k.1; omega, rfl, _, Wr.refl h⟩⟩
end Go.Proofs.Ytebjljiklacolaa
