/- The plain mathematics of record's laws: lists of bytes. Nothing of the program. -/
import Derived.Test.YtipiioggdalkoaaGreatDoorCrcMore
import Derived.Test.YtipiioggdalkoaaGreatDoorRecIter
namespace Go.Proofs.YtipiioggdalkoaaGreatDoor
set_option linter.unusedVariables false

/-- A payload's record. -/
def recL (a : List UInt8) : List UInt8 := sealL a ++ notL (sealL a)
/-- Whether the back half is the front one turned. -/
def halfB (s : List UInt8) : Bool := decide (notL (s.take (s.length / 2)) = s.drop (s.length / 2))
def readS (s : List UInt8) : List UInt8 := if halfB s = true then openS (s.take (s.length / 2)) else []
def readE (s : List UInt8) : Int := if halfB s = true then openE (s.take (s.length / 2)) else 2
def sizeN (n : Int) : Int := if n < 0 ∨ 4000 < n then 0 else 2 * (n + 4)

theorem length_recL (a : List UInt8) : (recL a).length = 2 * (a.length + 4) := by
  unfold recL; rw [List.length_append, length_notL, length_sealL]; omega
theorem half_two (f b : List UInt8) (h : b.length = f.length) : (f ++ b).length / 2 = f.length := by rw [List.length_append, h]; omega
theorem half_app (f b : List UInt8) (h : b.length = f.length) : halfB (f ++ b) = decide (notL f = b) := by
  unfold halfB; rw [half_two f b h, List.take_left, List.drop_left]
theorem readS_app (f b : List UInt8) (h : b.length = f.length) : readS (f ++ b) = if notL f = b then openS f else [] := by
  unfold readS; rw [half_app f b h, half_two f b h, List.take_left]; simp
theorem readE_app (f b : List UInt8) (h : b.length = f.length) : readE (f ++ b) = if notL f = b then openE f else 2 := by
  unfold readE; rw [half_app f b h, half_two f b h, List.take_left]; simp
theorem readS_rec (a : List UInt8) : readS (recL a) = a := by
  unfold recL; rw [readS_app _ _ (length_notL _), if_pos rfl, openS_seal]
theorem readE_rec (a : List UInt8) : readE (recL a) = 0 := by
  unfold recL; rw [readE_app _ _ (length_notL _), if_pos rfl, openE_seal]
theorem readE_cases (t : List UInt8) : (readE t = 0 ∧ recL (readS t) = t) ∨ (readE t = 2 ∧ readS t = []) := by
  unfold readE readS
  cases hh : halfB t with
  | false => exact .inr ⟨rfl, rfl⟩
  | true =>
    rw [if_pos rfl, if_pos rfl]
    have hn : notL (t.take (t.length / 2)) = t.drop (t.length / 2) := of_decide_eq_true hh
    rcases openE_cases (t.take (t.length / 2)) with ⟨h1, h2⟩ | ⟨h1, h2, h3⟩
    · refine .inl ⟨h2, ?_⟩
      unfold recL
      rw [seal_open _ h1, hn, List.take_append_drop]
    · exact .inr ⟨h2, h3⟩
theorem readS_len (t : List UInt8) : (readS t).length ≤ t.length := by
  unfold readS openS
  split
  · split
    · rw [List.length_take, List.length_take]; omega
    · simp
  · simp
theorem recL_inj {a b : List UInt8} (h : recL a = recL b) : a = b := by rw [← readS_rec a, h, readS_rec]

/- Cleared in part. -/
theorem byte_ext {x y : UInt8} (h : ∀ i, i < 8 → x.toBitVec.getLsbD i = y.toBitVec.getLsbD i) : x = y :=
  UInt8.toBitVec_inj.1 (BitVec.eq_of_getLsbD_eq fun i hi => h i hi)
theorem or_part (x p q : UInt8) (h : ~~~(x ||| p) = ~~~x ||| q) : x ||| p = x := by
  refine byte_ext fun i hi => ?_
  have := congrArg (fun z : UInt8 => z.toBitVec.getLsbD i) h
  simp only [UInt8.toBitVec_not, UInt8.toBitVec_or, BitVec.getLsbD_not, BitVec.getLsbD_or, hi, decide_true, Bool.true_and] at this ⊢
  revert this
  cases x.toBitVec.getLsbD i <;> cases p.toBitVec.getLsbD i <;> cases q.toBitVec.getLsbD i <;> simp
theorem or_part0 (x p : UInt8) (h : ~~~(x ||| p) = ~~~x) : x ||| p = x := by
  have := or_part x p (~~~x) (by rw [h]; simp)
  exact this
theorem and_part (x y : UInt8) (h : ~~~(x &&& y) = ~~~x &&& ~~~y) : x = y := by
  refine byte_ext fun i hi => ?_
  have := congrArg (fun z : UInt8 => z.toBitVec.getLsbD i) h
  simp only [UInt8.toBitVec_not, UInt8.toBitVec_and, BitVec.getLsbD_not, BitVec.getLsbD_and, hi, decide_true, Bool.true_and] at this ⊢
  revert this
  cases x.toBitVec.getLsbD i <;> cases y.toBitVec.getLsbD i <;> simp
theorem pairL_nil (f : UInt8 → UInt8 → UInt8) (a : List UInt8) : pairL f a [] = a := by cases a <;> rfl
/-- What is cut is done part by part. -/
theorem pairL_cut (f : UInt8 → UInt8 → UInt8) : ∀ a c s : List UInt8, pairL f (a ++ c) s = pairL f a (s.take a.length) ++ pairL f c (s.drop a.length)
  | [], c, s => by simp [pairL]
  | x :: a, c, [] => by simp [pairL_nil]
  | x :: a, c, y :: s => by simp [pairL, pairL_cut f a c s]
theorem orL_part : ∀ (f p q : List UInt8), notL (pairL (· ||| ·) f p) = pairL (· ||| ·) (notL f) q → pairL (· ||| ·) f p = f
  | [], p, q, _ => by simp [pairL]
  | x :: f, [], q, _ => rfl
  | x :: f, y :: p, [], h => by
    simp only [pairL, notL, List.map_cons, List.cons.injEq] at h ⊢
    exact ⟨or_part0 x y h.1, orL_part f p [] (by rw [pairL_nil]; exact h.2)⟩
  | x :: f, y :: p, z :: q, h => by
    simp only [pairL, notL, List.map_cons, List.cons.injEq] at h ⊢
    exact ⟨or_part x y z h.1, orL_part f p q h.2⟩
theorem part_reads (a some : List UInt8) (h : readE (pairL (· ||| ·) (recL a) some) = 0) : pairL (· ||| ·) (recL a) some = recL a := by
  unfold recL at h ⊢
  rw [pairL_cut] at h ⊢
  generalize some.take (sealL a).length = p at h ⊢
  generalize some.drop (sealL a).length = q at h ⊢
  rw [readE_app _ _ (by rw [length_pairL, length_pairL, length_notL])] at h
  split at h
  · rename_i hn
    have h1 := orL_part _ _ _ hn
    rw [h1] at hn ⊢
    rw [← hn]
  · exact absurd h (by decide)
theorem part_iff (a some : List UInt8) : (readE (pairL (· ||| ·) (recL a) some) = 0) ↔ pairL (· ||| ·) (recL a) some = recL a :=
  ⟨part_reads a some, fun h => by rw [h]; exact readE_rec a⟩

/- One over the other. -/
theorem andL_part : ∀ (f g : List UInt8), f.length = g.length → notL (pairL (· &&& ·) f g) = pairL (· &&& ·) (notL f) (notL g) → f = g
  | [], [], _, _ => rfl
  | x :: f, y :: g, e, h => by
    simp only [pairL, notL, List.map_cons, List.cons.injEq] at h ⊢
    exact ⟨and_part x y h.1, andL_part f g (by simpa using e) h.2⟩
theorem sealL_inj {a b : List UInt8} (h : sealL a = sealL b) : a = b := by rw [← openS_seal a, h, openS_seal]
theorem both_iff (a b : List UInt8) (e : b.length = a.length) : (readE (pairL (· &&& ·) (recL a) (recL b)) = 0) ↔ a = b := by
  constructor
  · intro h
    unfold recL at h
    rw [pairL_append _ _ _ _ _ (by rw [length_sealL, length_sealL, e]), readE_app _ _ (by rw [length_pairL, length_pairL, length_notL])] at h
    split at h
    · rename_i hn
      exact sealL_inj (andL_part _ _ (by rw [length_sealL, length_sealL, e]) hn)
    · exact absurd h (by decide)
  · rintro rfl
    rw [pairL_self _ (fun x => by simp), readE_rec]

/- Turned in four bytes. -/
theorem not_xor8 (x y : UInt8) : ~~~(x ^^^ y) = ~~~x ^^^ y := by
  refine byte_ext fun i hi => ?_
  simp only [UInt8.toBitVec_not, UInt8.toBitVec_xor, BitVec.getLsbD_not, BitVec.getLsbD_xor, hi, decide_true, Bool.true_and]
  cases x.toBitVec.getLsbD i <;> cases y.toBitVec.getLsbD i <;> rfl
theorem notL_xor : ∀ (f p : List UInt8), notL (pairL (· ^^^ ·) f p) = pairL (· ^^^ ·) (notL f) p
  | [], p => by simp [pairL, notL]
  | x :: f, [] => rfl
  | x :: f, y :: p => by
    have := notL_xor f p
    simp only [pairL, notL, List.map_cons, List.cons.injEq] at this ⊢
    exact ⟨not_xor8 x y, this⟩
theorem xorL_inj : ∀ (f p q : List UInt8), p.length = f.length → q.length = f.length → pairL (· ^^^ ·) f p = pairL (· ^^^ ·) f q → p = q
  | [], [], [], _, _, _ => rfl
  | x :: f, y :: p, z :: q, e1, e2, h => by
    simp only [pairL, List.cons.injEq] at h ⊢
    refine ⟨?_, xorL_inj f p q (by simpa using e1) (by simpa using e2) h.2⟩
    have := congrArg (x ^^^ ·) h.1
    simpa [← UInt8.xor_assoc] using this
/-- The list of turned bits, filled up with nothing. -/
def padL (k n : Nat) (q : List UInt8) : List UInt8 := List.replicate k 0 ++ q ++ List.replicate (n - (k + q.length)) 0
theorem length_padL (k n : Nat) (q : List UInt8) (h : k + q.length ≤ n) : (padL k n q).length = n := by simp [padL]; omega
theorem padL_out (k n : Nat) (q : List UInt8) (i : Nat) (hi : i < k ∨ k + q.length ≤ i) (h : i < n) : (padL k n q)[i]? = some 0 ∨ (padL k n q)[i]? = none := by
  unfold padL
  rw [List.append_assoc]
  rcases hi with hi | hi
  · left
    rw [List.getElem?_append_left (by simpa using hi)]
    simp [hi]
  · rw [List.getElem?_append_right (by simp; omega), List.getElem?_append_right (by simp; omega)]
    simp only [List.length_replicate, List.getElem?_replicate]
    split
    · exact .inl rfl
    · exact .inr rfl
theorem rot_halves (h : Nat) (hh : 4 ≤ h) (k : Nat) (q : List UInt8) (hq : q.length = 4) (hk : k + 4 ≤ 2 * h) (e : (padL k (2 * h) q).take h = (padL k (2 * h) q).drop h) : padL k (2 * h) q = List.replicate (2 * h) 0 := by
  have hlen := length_padL k (2 * h) q (by omega)
  have at_ : ∀ j, j < h → (padL k (2 * h) q)[j]? = (padL k (2 * h) q)[h + j]? := by
    intro j hj
    have := congrArg (fun l : List UInt8 => l[j]?) e
    simpa [List.getElem?_take, hj, List.getElem?_drop] using this
  have zero : ∀ j, j < h → (padL k (2 * h) q)[j]? = some 0 := by
    intro j hj
    by_cases hin : k ≤ j ∧ j < k + 4
    · rcases padL_out k (2 * h) q (h + j) (by omega) (by omega) with h2 | h2
      · rw [at_ j hj, h2]
      · rw [List.getElem?_eq_none_iff] at h2; omega
    · rcases padL_out k (2 * h) q j (by omega) (by omega) with h2 | h2
      · exact h2
      · rw [List.getElem?_eq_none_iff] at h2; omega
  refine List.ext_getElem? fun i => ?_
  by_cases hi : i < 2 * h
  · rw [List.getElem?_replicate, if_pos hi]
    by_cases hl : i < h
    · exact zero i hl
    · have := at_ (i - h) (by omega)
      rw [show h + (i - h) = i by omega] at this
      rw [← this]
      exact zero _ (by omega)
  · rw [List.getElem?_eq_none (by omega), List.getElem?_eq_none (by simp; omega)]
theorem rot_reads (a q : List UInt8) (k : Nat) (hq : q.length = 4) (hk : k + 4 ≤ (recL a).length) (h : readE (pairL (· ^^^ ·) (recL a) (List.replicate k 0 ++ q)) = 0) : pairL (· ^^^ ·) (recL a) (List.replicate k 0 ++ q) = recL a := by
  have hs := length_sealL a
  have hr := length_recL a
  have hpad : pairL (· ^^^ ·) (recL a) (List.replicate k 0 ++ q) = pairL (· ^^^ ·) (recL a) (padL k (2 * (sealL a).length) q) := by
    rw [pairL_pad]
    unfold padL
    rw [hr, hs]
    simp
  have hl := length_padL k (2 * (sealL a).length) q (by omega)
  rw [hpad] at h ⊢
  have hrot := rot_halves (sealL a).length (by omega) k q hq (by omega)
  generalize padL k (2 * (sealL a).length) q = p at *
  unfold recL at h ⊢
  rw [pairL_cut] at h ⊢
  rw [readE_app _ _ (by rw [length_pairL, length_pairL, length_notL])] at h
  split at h
  · rename_i hn
    rw [notL_xor] at hn
    have := hrot (xorL_inj (notL (sealL a)) _ _ (by rw [length_notL, List.length_take]; omega) (by rw [length_notL, List.length_drop]; omega) hn)
    rw [this, List.take_replicate, List.drop_replicate, pairL_none, pairL_none]
  · exact absurd h (by decide)
theorem rots_iff (a q : List UInt8) (k : Nat) (hq : q.length = 4) (hk : k + 4 ≤ (recL a).length) : (readE (pairL (· ^^^ ·) (recL a) (List.replicate k 0 ++ q)) = 0) ↔ getN q = 0 := by
  rw [← same_iff (recL a) q k hq hk]
  exact ⟨rot_reads a q k hq hk, fun h => by rw [h]; exact readE_rec a⟩

/- Halves of ones. -/
theorem count_rec (a : List UInt8) : countL (recL a) = 4 * (recL a).length := by
  have := count_not (sealL a)
  rw [length_recL]
  unfold recL
  rw [countL_append, this, length_sealL]
  omega
theorem clearL_ones (n : Nat) : clearL (List.replicate n 255) = true := by simp [clearL]
theorem not_full (x : UInt8) (h : x = 255) : ~~~x ≠ 255 := by subst h; decide
theorem clearL_rec (a : List UInt8) : clearL (recL a) = false := by
  have hs := length_sealL a
  unfold recL
  cases hl : sealL a with
  | nil => rw [hl] at hs; simp at hs
  | cons x l =>
    simp only [clearL, notL, List.all_append, List.all_cons, List.map_cons]
    by_cases hx : x = 255
    · have := not_full x hx
      simp [this]
    · simp [hx]
theorem readE_ones (n : Nat) : readE (List.replicate n 255) = 2 := by
  unfold readE
  cases hh : halfB (List.replicate n 255) with
  | false => rfl
  | true =>
    rw [if_pos rfl]
    have hn : notL ((List.replicate n 255).take ((List.replicate n (255 : UInt8)).length / 2)) = (List.replicate n 255).drop ((List.replicate n (255 : UInt8)).length / 2) := of_decide_eq_true hh
    simp only [List.length_replicate, List.take_replicate, List.drop_replicate, notL, List.map_replicate] at hn ⊢
    have hlen := congrArg List.length hn
    simp only [List.length_replicate] at hlen
    by_cases h0 : n / 2 = 0
    · have : n = 0 := by omega
      subst this
      rfl
    · exfalso
      have := congrArg (fun l : List UInt8 => l[0]?) hn
      simp only [List.getElem?_replicate] at this
      rw [if_pos (by omega), if_pos (by omega)] at this
      simp at this
theorem clear_iff (s : List UInt8) : clearL s = decide (s = List.replicate s.length 255) := by
  rw [Bool.eq_iff_iff, decide_eq_true_iff]
  unfold clearL
  rw [List.all_eq_true]
  constructor
  · intro h
    exact List.eq_replicate_iff.2 ⟨rfl, fun b hb => by simpa using h b hb⟩
  · intro h b hb
    rw [h] at hb
    simpa using (List.mem_replicate.1 hb).2
/-- Reading as the document says it. -/
theorem read_ref (s : List UInt8) (h8 : 8 ≤ s.length) (h2 : s.length % 2 = 0) : readE s = (if recL (s.take (s.length / 2 - 4)) = s then 0 else 2) ∧ readS s = if recL (s.take (s.length / 2 - 4)) = s then s.take (s.length / 2 - 4) else [] := by
  by_cases h : recL (s.take (s.length / 2 - 4)) = s
  · rw [if_pos h, if_pos h]
    have h1 := readE_rec (s.take (s.length / 2 - 4))
    have h3 := readS_rec (s.take (s.length / 2 - 4))
    rw [h] at h1 h3
    exact ⟨h1, h3⟩
  · rw [if_neg h, if_neg h]
    rcases readE_cases s with ⟨h1, h3⟩ | h1
    · exfalso
      apply h
      have hl := congrArg List.length h3
      rw [length_recL] at hl
      have h4 : s.take (s.length / 2 - 4) = readS s := by
        have e : s.take (readS s).length = (recL (readS s)).take (readS s).length := by rw [h3]
        rw [show s.length / 2 - 4 = (readS s).length by omega, e]
        unfold recL sealL
        rw [List.append_assoc, List.take_left]
      rw [h4, h3]
    · exact h1
theorem read_short (s : List UInt8) (h : s.length < 8 ∨ s.length % 2 = 1) : readE s = 2 ∧ readS s = [] := by
  rcases readE_cases s with ⟨h1, h3⟩ | h1
  · have hl := congrArg List.length h3
    rw [length_recL] at hl
    omega
  · exact h1
end Go.Proofs.YtipiioggdalkoaaGreatDoor
