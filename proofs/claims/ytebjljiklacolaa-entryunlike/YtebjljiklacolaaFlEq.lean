/- Contracts of slices.Equal at two types. -/
import Derived.Test.YtebjljiklacolaaFlowMore
namespace Go.Proofs.Ytebjljiklacolaa
open Go.RowKit
set_option linter.unusedVariables false
set_option linter.unusedSimpArgs false

theorem below_drewN (w : World) (q : Nat) : Below w.heap.size w (w.drewN q) := ⟨rfl, rfl, rfl, Nat.le_refl _, fun _ _ => rfl⟩

set_option maxHeartbeats 400000 in
theorem unlike_i (n m : Nat) (a b : Option Addr) (c d : Nat) (w : World) (h : n ≠ m) (hn : n ≤ 1000000000) (hm : m ≤ 1000000000) :
    Calls Try.prog 26 #[.slice a n c, .slice b m d] w fun e w' => e = .returned (.bool false) ∧ Below w.heap.size w w' := by
  have h' : ((n : Int) != (m : Int)) = true := by simp [bne]; omega
  have h2 : ((n : Int) == (m : Int)) = false := by simp; omega
  go_enter Try.func26, Try.ntmps26
  go_wp2
  go_ret
  exact ⟨rfl, Below.refl _ _⟩

theorem equal_i (l m : List Int) (v u : Value) (w : World) (hv : isCells (l.map intC) v w) (hu : isCells (m.map intC) u w) (h1 : l.length ≤ 1000000000) (h2 : m.length ≤ 1000000000) :
    Calls Try.prog 26 #[v, u] w fun e w' => e = .returned (.bool (decide (l = m))) ∧ Below w.heap.size w w' := by
  by_cases hlen : l.length = m.length
  · by_cases h0 : l = []
    · subst h0
      obtain rfl : m = [] := List.eq_nil_of_length_eq_zero (by simpa using hlen.symm)
      obtain ⟨a, cap, rfl⟩ := hv.len
      obtain ⟨b, cap2, rfl⟩ := hu.len
      refine (Try.slices_Equal_int_empty a b cap 0 cap2 w (by omega)).mono ?_
      rintro e w' ⟨rfl, rfl⟩
      exact ⟨by simp, Below.refl _ _⟩
    · have hl0 : 0 < l.length := List.length_pos_iff.2 h0
      obtain ⟨b, off, cap, hv', hb, hc⟩ := hv.some_ (by simpa using hl0)
      obtain ⟨b2, off2, cap2, hu', hb2, hc2⟩ := hu.some_ (by rw [List.length_map]; omega)
      rw [List.length_map] at hv' hu'
      subst hv' hu'
      refine (Try.slices_Equal_int b off l.length cap b2 off2 m.length cap2 l m w (Nat.le_refl _) (Nat.le_refl _) (by omega) (by omega) (fun j hj => ?_) (fun j hj => ?_)).mono ?_
      · rw [hc j _ (get_map intC l j hj)]
        simp [intC, List.getD_eq_getElem?_getD, hj]
      · rw [hc2 j _ (get_map intC m j hj)]
        simp [intC, List.getD_eq_getElem?_getD, hj]
      · rintro e w' ⟨rfl, q, rfl⟩
        refine ⟨?_, below_drewN w q⟩
        rw [List.take_of_length_le (Nat.le_refl _), List.take_of_length_le (Nat.le_refl _)]
        congr 2
        by_cases h : l = m <;> simp [h]
  · obtain ⟨a, cap, rfl⟩ := hv.len
    obtain ⟨b, cap2, rfl⟩ := hu.len
    rw [List.length_map, List.length_map]
    rw [show decide (l = m) = false by simp; rintro rfl; exact hlen rfl]
    exact unlike_i l.length m.length a b cap cap2 w hlen h1 h2

end Go.Proofs.Ytebjljiklacolaa
