/- The greater ones, place by place: the contract. -/
import Derived.Test.YtnjlefciekcehaaVaMost
namespace Go.Proofs.Ytnjlefciekcehaa
open Go.RowKit
set_option linter.unusedVariables false
set_option linter.unusedSimpArgs false

theorem zip_take (l m : List Int) (k : Nat) (h1 : k < l.length) (h2 : k < m.length) : (List.zipWith maxI l m).take (k + 1) = (List.zipWith maxI l m).take k ++ [maxI l[k] m[k]] := by
  rw [List.take_succ_eq_append_getElem (by rw [List.length_zipWith]; omega), List.getElem_zipWith]
set_option maxRecDepth 100000 in
set_option maxHeartbeats 2000000 in
theorem most_any (l m : List Int) (v u : Value) (w : World) (hv : isCells (l.map intC) v w) (hu : isCells (m.map intC) u w) (hlm : l.length = m.length) (hl : l.length ≤ 1000000) :
    Calls Try.prog 29 #[v, u] w fun e w' => ∃ v', e = .returned v' ∧ isOwn w.heap.size 3 ((List.zipWith maxI l m).map intC) v' w' ∧ Below w.heap.size w w' := by
  by_cases h0 : l.length = 0
  · obtain rfl : l = [] := List.eq_nil_of_length_eq_zero h0
    obtain ⟨a, cap, rfl⟩ := hv.len
    obtain ⟨b, cap2, rfl⟩ := hu.len
    clear hv hu
    simp only [List.map_nil, List.length_nil]
    go_enter Try.func29, Try.ntmps29
    go_wp2
    go_loop [5, 6] (fun c i => c = .slice none 0 0 ∧ i = .int .i64 0) (fun _ _ => 0)
    case atStart => exact ⟨rfl, rfl⟩
    case round =>
      obtain ⟨rfl, rfl⟩ := hrel
      go_wp2
      go_ret
      exact ⟨_, rfl, World.ownsRow_nil _ _ _ _, Below.refl _ _⟩
  · obtain ⟨b1, o1, c1, hv', l1, hc1⟩ := hv.some_ (by rw [List.length_map]; omega)
    obtain ⟨b2, o2, c2, hu', l2, hc2⟩ := hu.some_ (by rw [List.length_map]; omega)
    rw [List.length_map] at hv' hu'
    rw [← hlm] at hu'
    subst hv' hu'
    have HZ := Kept.mk (show (List.zipWith maxI l m).length = l.length by rw [List.length_zipWith]; omega)
    have HLM := Kept.mk hlm
    have HC1 := Kept.mk hc1
    have HC2 := Kept.mk hc2
    obtain ⟨n, hn⟩ : ∃ n, n = l.length := ⟨_, rfl⟩
    have HN := Kept.mk hn
    rw [← hn] at hl h0 ⊢
    clear hv hu hlm hc1 hc2 hn
    go_enter Try.func29, Try.ntmps29
    go_wp2
    go_loopw [5, 6] (fun c i wr => ∃ k : Nat, k ≤ n ∧ i = .int .i64 (k : Int) ∧ Kept (wr.ownsRow w.heap.size 3 1 c ((List.zipWith maxI l m).take k).length (((List.zipWith maxI l m).take k).map intC)) ∧ Kept (Below w.heap.size w wr)) (fun _ i _ => n - (intOf i).toNat)
    case atStart => exact ⟨0, Nat.zero_le _, rfl, ⟨World.ownsRow_nil _ _ _ _⟩, ⟨Below.refl _ _⟩⟩
    case round =>
      obtain ⟨k, hk, rfl, HO, HB⟩ := hrel
      by_cases hlt : k < n
      · have d1 : decide ((k : Int) < (n : Int)) = true := by simpa using hlt
        have hkl : k < l.length := by rw [← HN.out]; exact hlt
        have hkm : k < m.length := by rw [← HLM.out]; exact hkl
        have HT := Kept.mk (zip_take l m k hkl hkm)
        have P1 := Kept.mk ((HB.out.cell (p := ⟨b1, o1 + k, none⟩) l1).trans (HC1.out k _ (get_map intC l k hkl)))
        have P2 := Kept.mk ((HB.out.cell (p := ⟨b2, o2 + k, none⟩) l2).trans (HC2.out k _ (get_map intC m k hkm)))
        have HLT := Kept.mk (show ((List.zipWith maxI l m).take k).length ≤ 1000000 by rw [List.length_take]; omega)
        generalize (List.zipWith maxI l m).take k = xs at *
        go_wp2_with fail
        refine most_region _ _ _ rfl w.heap.size _ xs b1 o1 c1 b2 o2 c2 n k l[k] m[k] rfl rfl rfl rfl hlt P1.out (Nat.lt_of_lt_of_le l1 HB.out.size) P2.out (Nat.lt_of_lt_of_le l2 HB.out.size) HO.out HLT.out HB.out.size ?_
        intro f9 W9 h5 ho hb9
        simp only [List.foldl_cons, List.foldl_nil, h5]
        generalize f9 13 = y13
        generalize f9 14 = y14
        generalize f9 15 = y15
        generalize f9 16 = y16
        generalize f9 17 = y17
        generalize f9 18 = y18
        generalize f9 19 = y19
        generalize f9 20 = y20
        generalize f9 21 = y21
        generalize f9 22 = y22
        generalize f9 23 = y23
        generalize f9 24 = y24 at ho ⊢
        clear h5
        simp only [List.setIfInBounds_toArray, List.set_cons_succ, List.set_cons_zero]
        have HO9 := Kept.mk ho
        rw [← HT.out] at HO9
        have HB9 := Kept.mk (HB.out.trans hb9)
        clear ho hb9 HO HB P1 P2
        go_wp2
        go_roundw
        case rel => exact ⟨k + 1, by omega, by go_num, HO9, HB9⟩
        case measure => simp [intOf]; omega
      · have d1 : decide ((k : Int) < (n : Int)) = false := by simp; omega
        have HE := Kept.mk (show (List.zipWith maxI l m).take k = List.zipWith maxI l m by rw [List.take_of_length_le]; rw [HZ.out, ← HN.out]; omega)
        rw [HE.out] at HO
        go_wp2
        go_ret
        refine ⟨_, rfl, ?_, HB.out⟩
        unfold isOwn
        rw [List.length_map]
        exact HO.out
end Go.Proofs.Ytnjlefciekcehaa
