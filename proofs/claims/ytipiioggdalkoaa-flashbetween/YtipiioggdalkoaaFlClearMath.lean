/- Bits that are cleared twice, and in any order. Nothing of the program but its contracts' functions. -/
import Derived.Test.YtipiioggdalkoaaFlRotMath
namespace Go.Proofs.Ytipiioggdalkoaa
set_option linter.unusedVariables false
set_option linter.unusedSimpArgs false

theorem pairL_len (f : UInt8 → UInt8 → UInt8) : ∀ a b : List UInt8, (pairL f a b).length = a.length
  | [], _ => rfl
  | x :: r, [] => rfl
  | x :: r, y :: q => by simp [pairL, pairL_len f r q]
theorem and_assoc8 (x y z : UInt8) : (x &&& y) &&& z = x &&& (y &&& z) := UInt8.and_assoc x y z
theorem pairL_both (a : List UInt8) : ∀ s t : List UInt8, s.length = t.length → pairL (· &&& ·) (pairL (· &&& ·) a s) t = pairL (· &&& ·) a (pairL (· &&& ·) s t) := by
  induction a with
  | nil => intro s t _; rfl
  | cons x r ih =>
    intro s t h
    match s, t, h with
    | [], [], _ => rfl
    | y :: q, z :: u, h => simp only [pairL]; rw [and_assoc8, ih q u (by simpa using h)]
theorem pairL_under : ∀ a s : List UInt8, pairL (· &&& ·) (pairL (· &&& ·) a s) a = pairL (· &&& ·) a s
  | [], _ => rfl
  | x :: r, [] => by simp only [pairL]; rw [UInt8.and_self, pairL_self _ (fun x => UInt8.and_self)]
  | x :: r, y :: q => by simp only [pairL]; rw [pairL_under r q, UInt8.and_comm x y, UInt8.and_assoc, UInt8.and_self]
theorem prog_parts (p s : List UInt8) (n : Nat) (hn : n ≤ p.length) : (progL p n s).take n = p.take n ∧ (progL p n s).drop n = pairL (· &&& ·) (p.drop n) s := by
  have hl : (p.take n).length = n := by rw [List.length_take]; omega
  exact ⟨List.take_left' hl, List.drop_left' hl⟩
theorem prog_both (p s t : List UInt8) (n : Nat) (hn : n ≤ p.length) (h : s.length = t.length) : progL (progL p n s) n t = progL p n (pairL (· &&& ·) s t) := by
  obtain ⟨h1, h2⟩ := prog_parts p s n hn
  rw [show progL (progL p n s) n t = (progL p n s).take n ++ pairL (· &&& ·) ((progL p n s).drop n) t from rfl, h1, h2, pairL_both _ _ _ h]
  rfl
theorem prog_under (p s : List UInt8) (n : Nat) (hn : n ≤ p.length) : pairL (· &&& ·) (progL p n s) p = progL p n s := by
  have h : pairL (· &&& ·) (progL p n s) (p.take n ++ p.drop n) = pairL (· &&& ·) (p.take n) (p.take n) ++ pairL (· &&& ·) (pairL (· &&& ·) (p.drop n) s) (p.drop n) := pairL_append _ _ _ _ _ rfl
  rw [List.take_append_drop] at h
  rw [h, pairL_self _ (fun x => UInt8.and_self), pairL_under]
  rfl
/-- The device with another page. -/
def setP (D : Fl) (k : Nat) (x : List UInt8) : Fl := { D with pages := D.pages.set k x }
theorem setP_self (D : Fl) (k : Nat) (hk : k < D.pages.length) : setP D k (D.pages.getD k []) = D := by
  unfold setP
  have hget : D.pages.getD k [] = D.pages[k] := by simp [List.getD_eq_getElem?_getD, hk]
  rw [hget, List.set_getElem_self]
theorem setP_has {D : Fl} {k : Nat} {x : List UInt8} (h : hasB D (k : Int) = true) (hx : x.length = (D.pages.getD k []).length) : hasB (setP D k x) (k : Int) = true := by
  have hf := has_facts D k h
  unfold hasB at h ⊢
  simp only [Bool.and_eq_true, decide_eq_true_eq] at h ⊢
  refine ⟨⟨mayB_set h.1.1 hf.1 hx, h.1.2⟩, ?_⟩
  simp only [setP, List.length_set]
  exact h.2
theorem setP_get (D : Fl) (k : Nat) (x : List UInt8) (hk : k < D.pages.length) : (setP D k x).pages.getD k [] = x := by simp [setP, List.getD_eq_getElem?_getD, hk]
/-- A program of a device that lives on. -/
theorem prog_yes {D : Fl} {k n : Nat} {s : List UInt8} (h : hasB D (k : Int) = true) (hf : n + s.length ≤ (D.pages.getD k []).length) (hd : D.dead = false) (hz : D.fuse = -1) :
    progE D k n s = 0 ∧ progF D k n s = setP D k (progL (D.pages.getD k []) n s) := by
  have hfi : fitsB D (k : Int) (n : Int) s = true := by unfold fitsB; simp only [Int.toNat_natCast, Bool.and_eq_true, decide_eq_true_eq]; omega
  have hfa := has_facts D k h
  constructor
  · unfold progE; simp [h, hfi, hd, hz]
  · unfold progF
    simp only [h, hfi, hd, hz, Int.toNat_natCast]
    have hw : D.wear.set k (D.wear.getD k 0) = D.wear := by
      have hk : k < D.wear.length := by omega
      rw [show D.wear.getD k 0 = D.wear[k] by simp [List.getD_eq_getElem?_getD, hk], List.set_getElem_self]
    rw [if_neg (by simp), if_neg (by simp), if_neg (by simp), if_neg (by decide), hw, if_neg (by decide)]
    obtain ⟨pg, wr, fu, tn, de⟩ := D
    simp only at hd hz
    subst hd hz
    rfl
theorem prog_setP {D : Fl} {k n : Nat} {x s : List UInt8} (h : hasB D (k : Int) = true) (hx : x.length = (D.pages.getD k []).length) (hf : n + s.length ≤ (D.pages.getD k []).length) (hd : D.dead = false) (hz : D.fuse = -1) :
    progE (setP D k x) k n s = 0 ∧ progF (setP D k x) k n s = setP D k (progL x n s) := by
  have hk := (has_facts D k h).1
  obtain ⟨h1, h2⟩ := prog_yes (D := setP D k x) (setP_has h hx) (n := n) (s := s) (by rw [setP_get _ _ _ hk, hx]; exact hf) hd hz
  refine ⟨h1, ?_⟩
  rw [h2, setP_get _ _ _ hk]
  simp [setP]
theorem prog_no {D : Fl} {page at_ : Int} {s : List UInt8} (h : hasB D page = false ∨ fitsB D page at_ s = false) : progE D page at_ s = 1 ∧ progF D page at_ s = D := by
  rcases h with h | h
  · unfold progE progF; simp [h]
  · unfold progE progF
    cases hasB D page <;> simp [h]
theorem fits_len {D : Fl} {page at_ : Int} {s t : List UInt8} (h : s.length = t.length) : fitsB D page at_ s = fitsB D page at_ t := by unfold fitsB; rw [h]
theorem wake_may {F : Fl} {fuse : Int} {torn : List UInt8} (ht : torn.length ≤ 64) (h : mayB F = true) : mayB { F with fuse := fuse, torn := torn, dead := false } = true := by
  simp only [mayB, Bool.and_eq_true, decide_eq_true_eq] at h ⊢
  refine ⟨h.1, ?_⟩
  first | omega | exact_mod_cast ht
theorem has_not {F : Fl} (page : Int) (h : mayB F = false) : hasB F page = false := by unfold hasB; rw [h]; rfl
end Go.Proofs.Ytipiioggdalkoaa
