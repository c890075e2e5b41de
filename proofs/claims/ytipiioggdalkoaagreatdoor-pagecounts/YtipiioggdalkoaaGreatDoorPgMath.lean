/- Places of a page: each is a record, bad, or clear; from Next on they are clear. Nothing of the program but its contracts' functions. -/
import Derived.Test.YtipiioggdalkoaaGreatDoorPgAppend
namespace Go.Proofs.YtipiioggdalkoaaGreatDoor
set_option linter.unusedVariables false
set_option linter.unusedSimpArgs false

theorem tcnt_succ (p : Nat → Bool) (r : Nat) : tcnt p (List.range (r + 1)) = tcnt p (List.range r) + (if p r = true then 1 else 0) := by
  simp only [tcnt, List.range_succ, List.filter_append, List.length_append, List.filter_cons, List.filter_nil]
  split <;> simp
theorem tend_succ (p : Nat → Bool) (r : Nat) : tend p (List.range (r + 1)) = if p r = true then r + 1 else tend p (List.range r) := by
  simp [tend, List.range_succ]
/-- From there on none is such; the one ahead of it is. -/
theorem tend_spec (p : Nat → Bool) : ∀ r, (∀ j, tend p (List.range r) ≤ j → j < r → p j = false) ∧ (0 < tend p (List.range r) → p (tend p (List.range r) - 1) = true)
  | 0 => ⟨fun j _ h => by omega, fun h => by simp [tend] at h⟩
  | r + 1 => by
    obtain ⟨h1, h2⟩ := tend_spec p r
    rw [tend_succ]
    cases hp : p r with
    | true => exact ⟨fun j a b => by simp at a; omega, fun _ => by simpa using hp⟩
    | false =>
      simp only [Bool.false_eq_true, if_false]
      refine ⟨fun j a b => ?_, h2⟩
      by_cases e : j = r
      · subst e; exact hp
      · exact h1 j a (by omega)
theorem rec_not_clear {t : List UInt8} (h : isRec t = true) : clearL t = false := by
  rcases readE_cases t with ⟨h0, h1⟩ | ⟨h0, _⟩
  · rw [← h1]; exact clearL_rec _
  · simp [isRec, h0] at h
theorem recOf_len (t : List UInt8) : (recOf t).length = if isRec t = true then 1 else 0 := by
  unfold recOf isRec
  by_cases h : readE t = 0 <;> simp [h]
theorem recsOf_succ (s : List UInt8) (n : Int) (r : Nat) : recsOf s n (List.range (r + 1)) = recsOf s n (List.range r) ++ recOf (slotL s n r) := by simp [recsOf, List.range_succ]
/-- Each place is one of three. -/
theorem three_kinds (s : List UInt8) (n : Int) : ∀ r, tcnt (fun i => clearL (slotL s n i)) (List.range r) + tcnt (fun i => badP (slotL s n i)) (List.range r) + (recsOf s n (List.range r)).length = r
  | 0 => by simp [tcnt, recsOf]
  | r + 1 => by
    have ih := three_kinds s n r
    rw [tcnt_succ, tcnt_succ, recsOf_succ, List.length_append, recOf_len]
    cases hr : isRec (slotL s n r) with
    | true =>
      have hc := rec_not_clear hr
      have hb : badP (slotL s n r) = false := by simp [badP, hr]
      rw [hc, hb]
      simp only [Bool.false_eq_true, if_false, if_true]
      omega
    | false =>
      cases hc : clearL (slotL s n r) with
      | true =>
        have hb : badP (slotL s n r) = false := by simp [badP, hc]
        rw [hb]
        simp only [Bool.false_eq_true, if_false, if_true]
        omega
      | false =>
        have hb : badP (slotL s n r) = true := by simp [badP, hc, hr]
        rw [hb]
        simp only [Bool.false_eq_true, if_false, if_true]
        omega
theorem nextN_le (s : List UInt8) (n : Int) : nextN s n ≤ roomN s n := tend_le _ _
theorem next_clear (s : List UInt8) (n : Int) {j : Nat} (h1 : nextN s n ≤ j) (h2 : j < roomN s n) : clearL (slotL s n j) = true := by
  have := (tend_spec (fun i => nextP (slotL s n i)) (roomN s n)).1 j h1 h2
  simpa [nextP] using this
theorem next_before (s : List UInt8) (n : Int) (h : 0 < nextN s n) : clearL (slotL s n (nextN s n - 1)) = false := by
  have := (tend_spec (fun i => nextP (slotL s n i)) (roomN s n)).2 h
  have h2 : nextP (slotL s n (nextN s n - 1)) = true := this
  unfold nextP at h2
  simpa using h2
end Go.Proofs.YtipiioggdalkoaaGreatDoor
