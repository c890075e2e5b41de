/- Bits that are turned twice; how many are turned. Nothing of the program. -/
import Derived.Test.YtipiioggdalkoaaFlFree
namespace Go.Proofs.Ytipiioggdalkoaa
set_option linter.unusedVariables false

theorem xor_xor8 (x y : UInt8) : (x ^^^ y) ^^^ y = x := by rw [UInt8.xor_assoc, UInt8.xor_self, UInt8.xor_zero]
theorem rotL_twice (was turn : List UInt8) (k : Nat) (hk : k ≤ was.length) : rotL (rotL was k turn) k turn = was := by
  unfold rotL
  have hl : (was.take k).length = k := by rw [List.length_take]; omega
  have e1 : (was.take k ++ pairL (· ^^^ ·) (was.drop k) turn).take k = was.take k := List.take_left' hl
  have e2 : (was.take k ++ pairL (· ^^^ ·) (was.drop k) turn).drop k = pairL (· ^^^ ·) (was.drop k) turn := List.drop_left' hl
  rw [e1, e2, pairL_twice _ xor_xor8, List.take_append_drop]
theorem popB_zero : popB 0 = 0 := by decide +kernel
theorem xorL_self : ∀ l : List UInt8, countL (pairL (· ^^^ ·) l l) = 0
  | [] => rfl
  | x :: l => by simp only [pairL, countL, UInt8.xor_self, popB_zero, xorL_self l]
theorem count_xor_turn : ∀ l t : List UInt8, t.length ≤ l.length → countL (pairL (· ^^^ ·) (pairL (· ^^^ ·) l t) l) = countL t
  | [], [], _ => rfl
  | x :: l, [], _ => by simp only [pairL]; rw [UInt8.xor_self]; simp only [countL, popB_zero]; have := xorL_self l; omega
  | x :: l, y :: t, h => by
    have := count_xor_turn l t (by simpa using h)
    simp only [pairL, countL, this]
    rw [UInt8.xor_comm x y, xor_xor8]
theorem count_rot (was turn : List UInt8) (k : Nat) (hk : k + turn.length ≤ was.length) : countL (pairL (· ^^^ ·) (rotL was k turn) was) = countL turn := by
  have h : pairL (· ^^^ ·) (rotL was k turn) (was.take k ++ was.drop k) = pairL (· ^^^ ·) (was.take k) (was.take k) ++ pairL (· ^^^ ·) (pairL (· ^^^ ·) (was.drop k) turn) (was.drop k) := pairL_append _ _ _ _ _ rfl
  rw [List.take_append_drop] at h
  rw [h, countL_append, xorL_self, count_xor_turn _ _ (by rw [List.length_drop]; omega), Nat.zero_add]
/- On devices. -/
theorem sameB_self (F : Fl) : sameB F F = true := by simp [sameB]
theorem mayB_set {F : Fl} {k : Nat} {x : List UInt8} (h : mayB F = true) (hk : k < F.pages.length) (hx : x.length = (F.pages.getD k []).length) : mayB { F with pages := F.pages.set k x } = true := by
  simp only [mayB, oneSize, okWear, Bool.and_eq_true, decide_eq_true_eq, List.all_eq_true, List.length_set] at h ⊢
  obtain ⟨⟨⟨⟨h1, h2⟩, ⟨h3, h4⟩, h5⟩, h6, h7⟩, h8⟩ := h
  have hget : F.pages.getD k [] = F.pages[k] := by simp [List.getD_eq_getElem?_getD, hk]
  have hone := h5 F.pages[k] (List.getElem_mem hk)
  rw [hget] at hx
  have hhead : ((F.pages.set k x).headD []).length = (F.pages.headD []).length := by
    cases hp : F.pages with
    | nil => rw [hp] at hk; simp at hk
    | cons p ps =>
      cases k with
      | zero =>
        simp only [List.set_cons_zero, List.headD_cons]
        rw [hx]
        simp [hp]
      | succ k => simp
  rw [hhead]
  refine ⟨⟨⟨⟨h1, h2⟩, ⟨h3, h4⟩, ?_⟩, h6, h7⟩, h8⟩
  intro p hp
  rcases List.mem_or_eq_of_mem_set hp with hp | rfl
  · exact h5 p hp
  · rw [hx]; exact hone
theorem rotF_yes (F : Fl) (k n : Nat) (turn : List UInt8) (h : rotB F (k : Int) (n : Int) turn = true) : rotF F (k : Int) (n : Int) turn = { F with pages := F.pages.set k (rotL (F.pages.getD k []) n turn) } := by
  unfold rotF; rw [if_pos h, Int.toNat_natCast, Int.toNat_natCast]
theorem rot_again (F : Fl) (page at_ : Int) (turn : List UInt8) (h : rotB F page at_ turn = true) :
    rotB (rotF F page at_ turn) page at_ turn = true ∧ rotF (rotF F page at_ turn) page at_ turn = F := by
  have h' := h
  simp only [rotB, Bool.and_eq_true, decide_eq_true_eq] at h'
  obtain ⟨⟨hh, hl⟩, hf⟩ := h'
  obtain ⟨k, rfl⟩ := has_nat hh
  have hfacts := has_facts F k hh
  have hk : k < F.pages.length := hfacts.1
  have hf' := hf
  unfold fitsB at hf'
  simp only [Bool.and_eq_true, decide_eq_true_eq, Int.toNat_natCast] at hf'
  obtain ⟨n, rfl⟩ := Int.eq_ofNat_of_zero_le hf'.1
  have hget : F.pages.getD k [] = F.pages[k] := by simp [List.getD_eq_getElem?_getD, hk]
  rw [hget] at hf'
  have hset : ∀ y : List UInt8, (F.pages.set k y).getD k [] = y := fun y => by simp [List.getD_eq_getElem?_getD, hk]
  have hrf : rotF F k n turn = { F with pages := F.pages.set k (rotL F.pages[k] n turn) } := by
    unfold rotF; rw [if_pos h, Int.toNat_natCast, Int.toNat_natCast, hget]
  have hmay : mayB F = true := by unfold hasB at hh; simp only [Bool.and_eq_true] at hh; exact hh.1.1
  have hmay2 := mayB_set (x := rotL F.pages[k] n turn) hmay hk (by rw [length_rotL, hget])
  have hb : rotB (rotF F k n turn) k n turn = true := by
    rw [hrf]
    have hhas2 : hasB { F with pages := F.pages.set k (rotL F.pages[k] n turn) } (k : Int) = true := by
      unfold hasB
      rw [hmay2]
      simp only [List.length_set, Bool.true_and, Bool.and_eq_true, decide_eq_true_eq]
      omega
    simp only [rotB, hhas2, Bool.true_and, Bool.and_eq_true, decide_eq_true_eq]
    refine ⟨hl, ?_⟩
    unfold fitsB
    simp only [Int.toNat_natCast, hset, length_rotL, Bool.and_eq_true, decide_eq_true_eq]
    exact hf'
  refine ⟨hb, ?_⟩
  have e2 := rotF_yes (rotF F k n turn) k n turn hb
  rw [e2, hrf]
  simp only [hset]
  rw [rotL_twice _ _ _ (by omega), List.set_set, List.set_getElem_self]
end Go.Proofs.Ytipiioggdalkoaa
