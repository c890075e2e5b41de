/- A device does as many steps as its fuse, and dies in the next one. Nothing of the program but its contracts' functions. -/
import Derived.Test.YtipiioggdalkoaaFlClearMath
namespace Go.Proofs.Ytipiioggdalkoaa
set_option linter.unusedVariables false
set_option linter.unusedSimpArgs false

theorem mayB_wear {F : Fl} {k : Nat} {y : Int} (h : mayB F = true) (h0 : 0 ≤ y) (h1 : y ≤ 2147483647) : mayB { F with wear := F.wear.set k y } = true := by
  simp only [mayB, oneSize, okWear, Bool.and_eq_true, decide_eq_true_eq, List.all_eq_true, List.length_set] at h ⊢
  obtain ⟨⟨⟨h2, h3⟩, h6, h7⟩, h8⟩ := h
  refine ⟨⟨⟨h2, h3⟩, h6, ?_⟩, h8⟩
  intro p hp
  rcases List.mem_or_eq_of_mem_set hp with hp | rfl
  · exact h7 p hp
  · exact ⟨h0, h1⟩
theorem may_step {D : Fl} {k : Nat} {x : List UInt8} {y f : Int} {d : Bool} (h : hasB D (k : Int) = true) (hx : x.length = (D.pages.getD k []).length) (h0 : 0 ≤ y) (h1 : y ≤ 2147483647) :
    hasB { D with pages := D.pages.set k x, wear := D.wear.set k y, fuse := f, dead := d } (k : Int) = true := by
  have hf := has_facts D k h
  unfold hasB at h ⊢
  simp only [Bool.and_eq_true, decide_eq_true_eq] at h ⊢
  refine ⟨⟨?_, h.1.2⟩, by simp only [List.length_set]; exact h.2⟩
  exact mayB_wear (F := { D with pages := D.pages.set k x }) (mayB_set h.1.1 hf.1 hx) h0 h1
theorem erase_live {D : Fl} {k : Nat} {m : Int} (h : hasB D (k : Int) = true) (hd : D.dead = false) (hz : D.fuse ≠ 0) :
    eraseE D k = 0 ∧ eraseF D k = { D with pages := D.pages.set k (List.replicate (D.pages.getD k []).length 255), wear := D.wear.set k (wornN (D.wear.getD k 0)), fuse := if 0 < D.fuse then D.fuse - 1 else D.fuse } := by
  constructor
  · unfold eraseE; simp [h, hd, hz]
  · unfold eraseF; simp only [h, hd, Int.toNat_natCast]; rw [if_neg (by simp), if_neg (by simp), if_neg hz]
theorem erase_torn {D : Fl} {k : Nat} (h : hasB D (k : Int) = true) (hd : D.dead = false) (hz : D.fuse = 0) :
    eraseE D k = 8 ∧ eraseF D k = { D with pages := D.pages.set k (betweenL (D.pages.getD k []) (List.replicate (D.pages.getD k []).length 255) D.torn), dead := true } := by
  constructor
  · unfold eraseE; simp [h, hd, hz]
  · unfold eraseF; simp only [h, hd, Int.toNat_natCast]; rw [if_neg (by simp), if_neg (by simp), if_pos hz]
theorem erase_dead {D : Fl} {k : Nat} (h : hasB D (k : Int) = true) (hd : D.dead = true) : eraseE D k = 8 ∧ eraseF D k = D := by
  unfold eraseE eraseF; simp [h, hd]
theorem length_betweenL (was would torn : List UInt8) : (betweenL was would torn).length = was.length := by unfold betweenL; rw [pairL_len]

def fuseD (W : Fl) (k : Nat) : Nat → Fl
  | 0 => W
  | i + 1 => eraseF (fuseD W k i) k
structure FuseI (W : Fl) (k n i : Nat) (D : Fl) : Prop where
  has : hasB D (k : Int) = true
  np : D.pages.length = W.pages.length
  nw : D.wear.length = W.wear.length
  wear : D.wear.getD k 0 = min (W.wear.getD k 0 + (min n i : Nat)) 2147483647
  live : i ≤ n → D.dead = false ∧ D.fuse = ((n - i : Nat) : Int)
  dead : n < i → D.dead = true
  small : D.fuse ≤ 100
theorem wear_bound {D : Fl} {k : Nat} (h : hasB D (k : Int) = true) : 0 ≤ D.wear.getD k 0 ∧ D.wear.getD k 0 ≤ 2147483647 := by
  have hf := has_facts D k h
  have hk : k < D.wear.length := by omega
  rw [show D.wear.getD k 0 = D.wear[k] by simp [List.getD_eq_getElem?_getD, hk]]
  exact hf.2.2.2.2.2 _ (List.getElem_mem hk)
theorem fuse_all (W : Fl) (k n : Nat) (hn : n ≤ 100) (h : hasB W (k : Int) = true) (hd : W.dead = false) (hz : W.fuse = (n : Int)) : ∀ i, FuseI W k n i (fuseD W k i) := by
  have hwb := wear_bound h
  intro i
  induction i with
  | zero => exact ⟨h, rfl, rfl, by simp only [fuseD]; rw [show min n 0 = 0 by omega]; have := hwb.2; omega, fun _ => ⟨hd, by simp [fuseD, hz]⟩, fun h => by omega, by simp only [fuseD, hz]; omega⟩
  | succ i ih =>
    have hfa := has_facts _ k ih.has
    have hb := wear_bound ih.has
    have hkw : k < (fuseD W k i).wear.length := by omega
    have hw : 0 ≤ wornN ((fuseD W k i).wear.getD k 0) ∧ wornN ((fuseD W k i).wear.getD k 0) ≤ 2147483647 := by unfold wornN; split <;> omega
    by_cases h1 : i < n
    · obtain ⟨l1, l2⟩ := ih.live (by omega)
      obtain ⟨_, hE⟩ := erase_live (m := 0) ih.has l1 (by rw [l2]; omega)
      have hfu : (if 0 < (fuseD W k i).fuse then (fuseD W k i).fuse - 1 else (fuseD W k i).fuse) = ((n - (i + 1) : Nat) : Int) := by rw [l2, if_pos (by omega)]; omega
      rw [hfu] at hE
      simp only [fuseD, hE]
      refine ⟨may_step ih.has (by simp) hw.1 hw.2, by simp only [List.length_set]; exact ih.np, by simp only [List.length_set]; exact ih.nw, ?_, fun _ => ⟨l1, rfl⟩, fun h => by omega, by simp only; omega⟩
      have : ((fuseD W k i).wear.set k (wornN ((fuseD W k i).wear.getD k 0))).getD k 0 = wornN ((fuseD W k i).wear.getD k 0) := by simp [List.getD_eq_getElem?_getD, hkw]
      rw [this, ih.wear]
      unfold wornN
      rw [show min n i = i by omega, show min n (i + 1) = i + 1 by omega]
      split <;> omega
    · by_cases h2 : i = n
      · subst h2
        obtain ⟨l1, l2⟩ := ih.live (Nat.le_refl _)
        obtain ⟨_, hE⟩ := erase_torn ih.has l1 (by rw [l2]; simp)
        have hself : (fuseD W k i).wear.set k ((fuseD W k i).wear.getD k 0) = (fuseD W k i).wear := by rw [show (fuseD W k i).wear.getD k 0 = (fuseD W k i).wear[k] by simp [List.getD_eq_getElem?_getD, hkw], List.set_getElem_self]
        simp only [fuseD, hE]
        refine ⟨?_, by simp only [List.length_set]; exact ih.np, ih.nw, ?_, fun h => by omega, fun _ => rfl, ih.small⟩
        · have := may_step (D := fuseD W k i) (x := betweenL ((fuseD W k i).pages.getD k []) (List.replicate ((fuseD W k i).pages.getD k []).length 255) (fuseD W k i).torn) (y := (fuseD W k i).wear.getD k 0) (f := (fuseD W k i).fuse) (d := true) ih.has (length_betweenL _ _ _) hb.1 hb.2
          rwa [hself] at this
        · have := ih.wear
          rw [show min i (i + 1) = i by omega]
          rw [show min i i = i by omega] at this
          exact this
      · have hdd := ih.dead (by omega)
        obtain ⟨_, hE⟩ := erase_dead ih.has hdd
        simp only [fuseD, hE]
        refine ⟨ih.has, ih.np, ih.nw, ?_, fun h => by omega, fun _ => hdd, ih.small⟩
        have := ih.wear
        rw [show min n i = n by omega] at this
        rw [show min n (i + 1) = n by omega]
        exact this
/-- What an erase tells behind i others. -/
theorem fuse_told {W : Fl} {k n i : Nat} (hI : FuseI W k n i (fuseD W k i)) : (i < n → eraseE (fuseD W k i) k = 0) ∧ (n ≤ i → eraseE (fuseD W k i) k = 8) ∧ (n < i → fuseD W k (i + 1) = fuseD W k i) := by
  refine ⟨fun h => ?_, fun h => ?_, fun h => (erase_dead hI.has (hI.dead h)).2⟩
  · obtain ⟨l1, l2⟩ := hI.live (by omega)
    exact (erase_live (m := 0) hI.has l1 (by rw [l2]; omega)).1
  · by_cases h2 : i = n
    · subst h2
      obtain ⟨l1, l2⟩ := hI.live (Nat.le_refl _)
      exact (erase_torn hI.has l1 (by rw [l2]; simp)).1
    · exact (erase_dead hI.has (hI.dead (by omega))).1
end Go.Proofs.Ytipiioggdalkoaa
