/- The activation behind a drawn region, written out: what it wrote, slot by slot, over what was there. Nothing of the program. -/
import Derived.Test.YtebjljiklacolaaFlowOps
namespace Go.Proofs.Ytebjljiklacolaa
open Go.RowKit
set_option linter.unusedVariables false

theorem setAll_size (g : Nat → Value) : ∀ (L : List Nat) (t : Array Value), (L.foldl (fun t s => t.setIfInBounds s (g s)) t).size = t.size
  | [], t => rfl
  | s :: L, t => by rw [List.foldl_cons, setAll_size g L]; simp
theorem setAll_get (g : Nat → Value) : ∀ (L : List Nat) (t : Array Value) (i : Nat), i < t.size → (L.foldl (fun t s => t.setIfInBounds s (g s)) t)[i]? = if L.contains i then some (g i) else t[i]?
  | [], t, i, hi => by simp
  | s :: L, t, i, hi => by
    rw [List.foldl_cons, setAll_get g L _ i (by simpa using hi), List.contains_cons]
    by_cases h : L.contains i = true
    · rw [h, Bool.or_true]; simp only [if_true]
    · simp only [h, Bool.false_eq_true, if_false, Bool.or_false]
      by_cases e : i = s
      · subst e; simp [hi]
      · simp [Ne.symm e, e]
theorem act_of {a a0 : Act} (hd : a.defers = a0.defers) (hs : a.tmps.size = a0.tmps.size) (L : List Nat) (hk : ∀ t, L.contains t = false → a.tmps.getD t undef = a0.tmps.getD t undef) :
    a = { tmps := L.foldl (fun t s => t.setIfInBounds s (a.tmps.getD s undef)) a0.tmps, defers := a0.defers } := by
  obtain ⟨tm, df⟩ := a
  simp only at hd hs hk ⊢
  subst hd
  congr 1
  apply Array.ext_getElem?
  intro i
  by_cases hi : i < a0.tmps.size
  · rw [setAll_get _ _ _ _ hi]
    by_cases h : L.contains i = true
    · rw [if_pos h]; simp [show i < tm.size by omega]
    · rw [if_neg h]
      have := hk i (by simpa using h)
      simpa [Array.getD_eq_getD_getElem?, show i < tm.size by omega, hi] using this
  · rw [Array.getElem?_eq_none (by omega), Array.getElem?_eq_none (by rw [setAll_size]; omega)]
theorem kept_of {ops : Array Oper} {a0 a : Act} (h : FKept ops a0 a) (D : List (Option Nat)) (L : List Nat) (hD : ops.toList.map (·.dst) = D) (hL : D.filterMap id = L) :
    a = { tmps := L.foldl (fun t s => t.setIfInBounds s (a.tmps.getD s undef)) a0.tmps, defers := a0.defers } := by
  refine act_of h.1 h.2.1 L (fun t ht => h.2.2 t ?_)
  rw [List.all_eq_true]
  intro o ho
  have hm : o.dst ∈ D := by rw [← hD]; exact List.mem_map.2 ⟨o, ho, rfl⟩
  cases hdst : o.dst with
  | none => rfl
  | some s =>
    rw [hdst] at hm
    have : s ∈ L := by rw [← hL]; exact List.mem_filterMap.2 ⟨some s, hm, rfl⟩
    simp only [bne_iff_ne, ne_eq, Option.some.injEq]
    rintro rfl
    rw [List.contains_eq_mem] at ht
    simp [this] at ht
end Go.Proofs.Ytebjljiklacolaa
