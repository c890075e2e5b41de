/- What counters come to, whose nodes count apart. Nothing of the program. -/
import Derived.Test.YtnjlefciekcehaaVaOpen
namespace Go.Proofs.Ytnjlefciekcehaa
open Go.RowKit
set_option linter.unusedVariables false
set_option linter.unusedSimpArgs false

/-- The sum of what f tells of the first n places. -/
def sumTo (f : Nat → Int) : Nat → Int
  | 0 => 0
  | n + 1 => sumTo f n + f n
theorem sum_range (f : Nat → Int) : ∀ n, ((List.range n).map f).sum = sumTo f n
  | 0 => rfl
  | n + 1 => by rw [List.range_succ, List.map_append, List.sum_append, sum_range f n]; simp [sumTo]
theorem sumTo_add (f g : Nat → Int) : ∀ n, sumTo (fun j => f j + g j) n = sumTo f n + sumTo g n
  | 0 => rfl
  | n + 1 => by simp only [sumTo, sumTo_add f g n]; omega
theorem sumTo_sub (f g : Nat → Int) : ∀ n, sumTo (fun j => f j - g j) n = sumTo f n - sumTo g n
  | 0 => rfl
  | n + 1 => by simp only [sumTo, sumTo_sub f g n]; omega
theorem sumTo_congr {f g : Nat → Int} : ∀ n, (∀ j, j < n → f j = g j) → sumTo f n = sumTo g n
  | 0, _ => rfl
  | n + 1, h => by simp only [sumTo, sumTo_congr n (fun j hj => h j (by omega)), h n (by omega)]
theorem sumTo_bound (f : Nat → Int) (h : ∀ j, 0 ≤ f j ∧ f j ≤ 65535) : ∀ n, 0 ≤ sumTo f n ∧ sumTo f n ≤ 65535 * n
  | 0 => by simp [sumTo]
  | n + 1 => by
    have := sumTo_bound f h n
    have := h n
    simp only [sumTo]
    omega
/-- What one of two has: the numbers of those places that are its own. -/
def half (own : Bool) (m : Nat → Bool) (f : Nat → Int) : Nat → Int := fun j => if m j = own then f j else 0
def cntV (f g : Nat → Int) : Va := ⟨2, 0, 0, false, [], (List.range 8).map f, (List.range 8).map g, 0⟩
theorem cnt_ok (f g : Nat → Int) (hf : ∀ j, 0 ≤ f j ∧ f j ≤ 65535) (hg : ∀ j, 0 ≤ g j ∧ g j ≤ 65535) : okV (cntV f g) = true := by
  have row : ∀ h : Nat → Int, (∀ j, 0 ≤ h j ∧ h j ≤ 65535) → okRow ((List.range 8).map h) = true := by
    intro h hh
    unfold okRow
    rw [Bool.and_eq_true]
    refine ⟨by simp, List.all_eq_true.2 fun x hx => ?_⟩
    obtain ⟨j, _, rfl⟩ := List.mem_map.1 hx
    unfold okNum
    simp [hh j]
  refine count_ok rfl ?_ rfl
  unfold inCount
  rw [Bool.and_eq_true]
  exact ⟨row f hf, row g hg⟩
theorem cnt_kind (f g : Nat → Int) (h : okV (cntV f g) = true) : kindN (cntV f g) = 2 := by have := kindN_ok h; have e : (cntV f g).kind = 2 := rfl; omega
theorem cnt_sum (f g : Nat → Int) (h : okV (cntV f g) = true) : sumN (cntV f g) = sumTo f 8 - sumTo g 8 := by
  unfold sumN
  rw [if_pos (cnt_kind f g h)]
  show ((List.range 8).map f).sum - ((List.range 8).map g).sum = _
  rw [sum_range, sum_range]
theorem half_bound (own : Bool) (m : Nat → Bool) (f : Nat → Int) (h : ∀ j, 0 ≤ f j ∧ f j ≤ 65535) (j : Nat) : 0 ≤ half own m f j ∧ half own m f j ≤ 65535 := by
  unfold half
  split
  · exact h j
  · omega
theorem half_max (m : Nat → Bool) (f : Nat → Int) (h : ∀ j, 0 ≤ f j ∧ f j ≤ 65535) (j : Nat) : maxI (half true m f j) (half false m f j) = f j := by
  have := h j
  unfold half maxI
  cases m j <;> simp <;> omega
theorem half_add (m : Nat → Bool) (f : Nat → Int) (j : Nat) : half true m f j + half false m f j = f j := by
  unfold half
  cases m j <;> simp
theorem cnt_join (f g f' g' : Nat → Int) : joinCount (cntV f g) (cntV f' g') = cntV (fun j => maxI (f j) (f' j)) (fun j => maxI (g j) (g' j)) := by
  have z : ∀ a b : Nat → Int, List.zipWith maxI ((List.range 8).map a) ((List.range 8).map b) = (List.range 8).map fun j => maxI (a j) (b j) := fun a b => by simp [List.range, List.range.loop]
  unfold joinCount
  show Va.mk 2 0 0 false [] (List.zipWith maxI ((List.range 8).map f) ((List.range 8).map f')) (List.zipWith maxI ((List.range 8).map g) ((List.range 8).map g')) 0 = _
  rw [z, z]
  rfl
/-- ALL THAT IS ASKED. -/
theorem sums_facts (m : Nat → Bool) (f g : Nat → Int) (hf : ∀ j, 0 ≤ f j ∧ f j ≤ 65535) (hg : ∀ j, 0 ≤ g j ∧ g j ≤ 65535) :
    joinE (cntV (half true m f) (half true m g)) (cntV (half false m f) (half false m g)) = 0 ∧
    sumN (joinF (cntV (half true m f) (half true m g)) (cntV (half false m f) (half false m g))) = sumTo (fun j => f j - g j) 8 ∧
    sumN (cntV (half true m f) (half true m g)) + sumN (cntV (half false m f) (half false m g)) = sumTo (fun j => f j - g j) 8 := by
  have o1 := cnt_ok _ _ (half_bound true m f hf) (half_bound true m g hg)
  have o2 := cnt_ok _ _ (half_bound false m f hf) (half_bound false m g hg)
  have e : joinE (cntV (half true m f) (half true m g)) (cntV (half false m f) (half false m g)) = 0 := joinE_zero.2 ⟨o1, o2, rfl⟩
  have c1 : (fun j => maxI (half true m f j) (half false m f j)) = f := funext (half_max m f hf)
  have c2 : (fun j => maxI (half true m g j) (half false m g j)) = g := funext (half_max m g hg)
  refine ⟨e, ?_, ?_⟩
  · rw [joinF_ok e, joinV_count rfl, cnt_join, c1, c2, cnt_sum f g (cnt_ok f g hf hg), sumTo_sub]
  · rw [cnt_sum _ _ o1, cnt_sum _ _ o2, sumTo_sub]
    have a1 := sumTo_add (half true m f) (half false m f) 8
    have a2 := sumTo_add (half true m g) (half false m g) 8
    rw [sumTo_congr 8 (fun j _ => half_add m f j)] at a1
    rw [sumTo_congr 8 (fun j _ => half_add m g j)] at a2
    omega
theorem fit_cnt (f g : Nat → Int) : Fit (cntV f g) := ⟨by show 0 ≤ _; omega, by show ((List.range 8).map f).length ≤ _; simp, by show ((List.range 8).map g).length ≤ _; simp⟩
end Go.Proofs.Ytnjlefciekcehaa
