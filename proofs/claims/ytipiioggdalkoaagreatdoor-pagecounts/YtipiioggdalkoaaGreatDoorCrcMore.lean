/- What opens, over lists. Nothing of the program. -/
import Derived.Test.YtipiioggdalkoaaGreatDoorCrcWalk
namespace Go.Proofs.YtipiioggdalkoaaGreatDoor
set_option linter.unusedVariables false

theorem take_seal (l : List UInt8) : (sealL l).take l.length = l := by simp [sealL]
theorem drop_seal (l : List UInt8) : (sealL l).drop l.length = putL (sumN l) 4 := by simp [sealL]
theorem opens_app (a p : List UInt8) (hp : p.length = 4) : opens (a ++ p) = decide (getN p = sumN a) := by
  unfold opens
  rw [List.length_append, hp, Nat.add_sub_cancel, decide_eq_true (by omega), Bool.true_and]
  simp
theorem opens_seal (l : List UInt8) : opens (sealL l) = true := by
  unfold sealL
  rw [opens_app _ _ (length_putL 4 _), getN_putL 4 _ (sumN_lt l)]
  simp
theorem openS_seal (l : List UInt8) : openS (sealL l) = l := by
  unfold openS
  rw [opens_seal, if_pos rfl, length_sealL, Nat.add_sub_cancel, take_seal]
theorem openE_seal (l : List UInt8) : openE (sealL l) = 0 := by unfold openE; rw [opens_seal]; rfl
theorem cut4 (l : List UInt8) (h : 4 ≤ l.length) : ∃ a p : List UInt8, l = a ++ p ∧ p.length = 4 :=
  ⟨l.take (l.length - 4), l.drop (l.length - 4), (List.take_append_drop _ _).symm, by rw [List.length_drop]; omega⟩
theorem seal_open (l : List UInt8) (h : opens l = true) : sealL (openS l) = l := by
  have h4 : 4 ≤ l.length := by unfold opens at h; simp at h; exact h.1
  obtain ⟨a, p, rfl, hp⟩ := cut4 l h4
  rw [opens_app a p hp] at h
  have hg : getN p = sumN a := by simpa using h
  unfold openS
  rw [opens_app a p hp, h, if_pos rfl, List.length_append, hp, Nat.add_sub_cancel, List.take_left]
  unfold sealL
  rw [← hg, ← hp, putL_getN]
theorem openE_cases (l : List UInt8) : (opens l = true ∧ openE l = 0) ∨ (opens l = false ∧ openE l = 2 ∧ openS l = []) := by
  unfold openE openS
  cases opens l <;> simp

/-- What is sealed comes to one number, and nothing else does. -/
theorem opens_on (l : List UInt8) (h4 : 4 ≤ l.length) : opens l = decide (onL 4294967295 l = stps 32 4294967295) := by
  obtain ⟨a, p, rfl, hp⟩ := cut4 l h4
  rw [opens_app a p hp, onL_append, onL_getN p, hp]
  have ha := onL_lt a (n := 4294967295) (by omega)
  have hg : getN p < 4294967296 := by have := getN_lt p; rw [hp] at this; exact this
  have hs := sumN_eq a
  generalize onL 4294967295 a = q at *
  rw [Bool.eq_iff_iff, decide_eq_true_iff, decide_eq_true_iff]
  constructor
  · intro e
    rw [e, hs, ← Nat.xor_assoc, Nat.xor_comm q, Nat.xor_assoc, Nat.xor_self, Nat.xor_zero]
  · intro e
    have := stps_inj _ (x32 ha hg) (by omega) e
    rw [hs, ← this, Nat.xor_comm q, Nat.xor_assoc, Nat.xor_self, Nat.xor_zero]

theorem pairL_pad : ∀ (a b : List UInt8), pairL (· ^^^ ·) a b = pairL (· ^^^ ·) a (b ++ List.replicate (a.length - b.length) 0)
  | [], _ => by simp [pairL]
  | x :: a, [] => by
    have : ∀ l : List UInt8, pairL (· ^^^ ·) l (List.replicate l.length 0) = l := by
      intro l
      induction l with
      | nil => rfl
      | cons y l ih => simp [pairL, List.replicate_succ]; exact ih
    rw [List.nil_append, List.length_nil, Nat.sub_zero, this]; rfl
  | x :: a, y :: b => by
    rw [List.cons_append, pairL, pairL, List.length_cons, List.length_cons, Nat.add_sub_add_right, ← pairL_pad a b]
theorem pairL_none : ∀ (a : List UInt8) (k : Nat), pairL (· ^^^ ·) a (List.replicate k 0) = a
  | [], _ => by simp [pairL]
  | x :: a, 0 => rfl
  | x :: a, k + 1 => by rw [List.replicate_succ, pairL, pairL_none a k]; simp

/-- What is turned in four bytes that stand next to each other comes to nothing where nothing is turned alone. -/
theorem turned (n : Nat) (t q : List UInt8) (k : Nat) (hq : q.length = 4) (hk : k + 4 ≤ t.length) (hn : n < 4294967296) :
    (onL n (pairL (· ^^^ ·) t (List.replicate k 0 ++ q)) = onL n t) ↔ getN q = 0 := by
  rw [pairL_pad]
  have hlen : t.length = (List.replicate k 0 ++ q ++ List.replicate (t.length - (List.replicate k (0 : UInt8) ++ q).length) 0).length := by
    simp [hq]; omega
  have h := onL_xor t _ n 0 hlen
  rw [Nat.xor_zero] at h
  rw [h]
  generalize t.length - (List.replicate k (0 : UInt8) ++ q).length = r
  rw [onL_append, onL_append, onL_zeros k, stps_zero, onL_getN q, onL_zeros r, hq, Nat.zero_xor, ← stps_add]
  have hg : getN q < 4294967296 := by have := getN_lt q; rw [hq] at this; exact this
  have ht := onL_lt t hn
  constructor
  · intro e
    have e2 := congrArg (onL n t ^^^ ·) e
    simp only [← Nat.xor_assoc, Nat.xor_self, Nat.zero_xor] at e2
    exact stps_nil _ hg e2
  · intro e
    rw [e, stps_zero, Nat.xor_zero]
theorem same_iff (t q : List UInt8) (k : Nat) (hq : q.length = 4) (hk : k + 4 ≤ t.length) :
    (pairL (· ^^^ ·) t (List.replicate k 0 ++ q) = t) ↔ getN q = 0 := by
  constructor
  · intro e
    refine (turned 0 t q k hq hk (by omega)).1 ?_
    rw [e]
  · intro e
    have h : q = List.replicate 4 0 := by
      have := putL_getN q
      rw [e, hq] at this
      rw [← this]; rfl
    rw [h, List.replicate_append_replicate, pairL_none]
theorem sum_inj {a b : List UInt8} : sumN a = sumN b ↔ onL 4294967295 a = onL 4294967295 b := by
  have ha := onL_lt a (n := 4294967295) (by omega)
  have hb := onL_lt b (n := 4294967295) (by omega)
  have e1 : sumN a = 4294967295 - onL 4294967295 a := rfl
  have e2 : sumN b = 4294967295 - onL 4294967295 b := rfl
  rw [e1, e2]
  omega
theorem sum_mix (s t u : List UInt8) (h1 : t.length = s.length) (h2 : u.length = s.length) :
    sumN (pairL (· ^^^ ·) (pairL (· ^^^ ·) s t) u) = sumN s ^^^ sumN t ^^^ sumN u := by
  have a := onL_xor s t 4294967295 4294967295 h1.symm
  have b := onL_xor (pairL (· ^^^ ·) s t) u (4294967295 ^^^ 4294967295) 4294967295 (by rw [length_pairL, h2])
  rw [a, Nat.xor_self, Nat.zero_xor] at b
  rw [sumN_eq, sumN_eq, sumN_eq, sumN_eq, b]
  generalize onL 4294967295 s = x
  generalize onL 4294967295 t = y
  generalize onL 4294967295 u = z
  rw [xors 4294967295 x 4294967295 y, Nat.xor_self, Nat.zero_xor, ← Nat.xor_assoc, ← Nat.xor_assoc, ← Nat.xor_assoc, Nat.xor_comm (x ^^^ y) 4294967295, ← Nat.xor_assoc]
theorem sum_app (a b : List UInt8) : addN (sumN a) b = sumN (a ++ b) := addN_addN 0 a b (by omega)
end Go.Proofs.YtipiioggdalkoaaGreatDoor
