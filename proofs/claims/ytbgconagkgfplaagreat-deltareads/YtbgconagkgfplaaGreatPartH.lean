/- Joined texts: contracts of the program's functions, and the mathematics that they lean on. -/
import Derived.Test.YtbgconagkgfplaaGreatPartG
section
namespace Go.Proofs.YtbgconagkgfplaaGreat
open Go.RowKit
set_option linter.unusedVariables false
set_option linter.unusedSimpArgs false
attribute [local irreducible] setN

theorem row8 {l : List Int} {v : Value} {w : World} (h : isCells (l.map intC) v w) (hl : l.length = 8) : ∃ b off cap, v = .slice (some ⟨b, off, none⟩) 8 cap ∧ b < w.heap.size ∧ ∀ j, j < 8 → w.cell? ⟨b, off + j, none⟩ = some (.int .i64 (l.getD j 0)) := by
  obtain ⟨b, off, cap, e, h1, h2⟩ := h.some_ (by rw [List.length_map]; omega)
  rw [List.length_map, hl] at e
  refine ⟨b, off, cap, e, h1, fun j hj => ?_⟩
  rw [h2 j _ (get_map intC l j (by omega))]
  simp [intC, List.getD_eq_getElem?_getD, show j < l.length by omega]
theorem getD_all (l : List Int) (h : l.all okNum = true) (j : Nat) : 0 ≤ l.getD j 0 ∧ l.getD j 0 ≤ 65535 := by
  by_cases hj : j < l.length
  · have := List.all_eq_true.1 h l[j] (List.getElem_mem hj)
    unfold okNum at this
    simp only [Bool.and_eq_true, decide_eq_true_eq] at this
    simpa [List.getD_eq_getElem?_getD, hj] using this
  · simp [List.getD_eq_getElem?_getD, hj]
theorem sum_getD (l : List Int) (hl : l.length = 8) : sumTo (fun j => l.getD j 0) 8 = l.sum := by
  rw [← sum_range]
  congr 1
  apply List.ext_getElem?
  intro j
  by_cases hj : j < 8
  · rw [List.getElem?_map, List.getElem?_range hj, List.getElem?_eq_getElem (by omega)]
    simp [List.getD_eq_getElem?_getD, show j < l.length by omega]
  · rw [List.getElem?_eq_none (by simp; omega), List.getElem?_eq_none (by omega)]
theorem sum_between (f g : Nat → Int) (hf : ∀ j, 0 ≤ f j ∧ f j ≤ 65535) (hg : ∀ j, 0 ≤ g j ∧ g j ≤ 65535) (k : Nat) : -(65535 * (k : Int)) ≤ sumTo (fun j => f j - g j) k ∧ sumTo (fun j => f j - g j) k ≤ 65535 * (k : Int) := by
  rw [sumTo_sub]
  have := sumTo_bound f hf k
  have := sumTo_bound g hg k
  omega
set_option maxRecDepth 20000 in
set_option maxHeartbeats 2000000 in
theorem rsum_no1 (A : Va) (v : Value) (w : World) (hv : isVa A v w) (hF : Fit A) (h : okV A = false) :
    Calls Tryz.prog 78 #[v] w fun e w' => e = .returned (.int .i64 0) ∧ Below w.heap.size w w' := by
  obtain ⟨vp, vm, rfl, hp, hm⟩ := hv
  obtain ⟨hB, hV⟩ := vbox w A vp vm hp hm w.heap.size rfl
  have HXa := Kept.mk (show isVa A (.agg #[.int .i64 A.kind, .int .i64 A.time, .int .i64 A.node, .bool A.dead, .string ⟨A.text.toArray⟩, vp, vm, .int .u64 (A.flags.toNat : Int)]) (w.alloc (.cells #[.int .i64 A.kind, .int .i64 A.time, .int .i64 A.node, .bool A.dead, .string ⟨A.text.toArray⟩, vp, vm, .int .u64 (A.flags.toNat : Int)] 28)) from va_mk (cells_up hp hB.out) (cells_up hm hB.out))
  have HO := Kept.mk h
  clear hp hm h
  go_enter Tryz.func78, Tryz.ntmps78
  go_wp2_with fail
  ((with_reducible refine (rcheck_any A _ _ HXa.out hF).mono ?_); rintro e w1 ⟨rfl, hb1⟩)
  rewrite [HO.out]
  obtain ⟨q, r, -, -, -, k0, k1, k2, k3, k4, k5, k6, k7⟩ := (hV.out.keep hb1).open_
  replace hB := Kept.mk (hB.out.trans (hb1.mono hB.out.size))
  clear hb1 hV HXa
  go_wp2
  all_goals go_ret
  all_goals exact ⟨rfl, hB.out⟩
set_option maxRecDepth 20000 in
set_option maxHeartbeats 2000000 in
theorem rsum_no2 (A : Va) (v : Value) (w : World) (hv : isVa A v w) (hF : Fit A) (h : okV A = true) (h2 : A.kind ≠ 2) :
    Calls Tryz.prog 78 #[v] w fun e w' => e = .returned (.int .i64 0) ∧ Below w.heap.size w w' := by
  obtain ⟨vp, vm, rfl, hp, hm⟩ := hv
  obtain ⟨hB, hV⟩ := vbox w A vp vm hp hm w.heap.size rfl
  have HXa := Kept.mk (show isVa A (.agg #[.int .i64 A.kind, .int .i64 A.time, .int .i64 A.node, .bool A.dead, .string ⟨A.text.toArray⟩, vp, vm, .int .u64 (A.flags.toNat : Int)]) (w.alloc (.cells #[.int .i64 A.kind, .int .i64 A.time, .int .i64 A.node, .bool A.dead, .string ⟨A.text.toArray⟩, vp, vm, .int .u64 (A.flags.toNat : Int)] 28)) from va_mk (cells_up hp hB.out) (cells_up hm hB.out))
  have HO := Kept.mk h
  clear hp hm h
  go_enter Tryz.func78, Tryz.ntmps78
  go_wp2_with fail
  ((with_reducible refine (rcheck_any A _ _ HXa.out hF).mono ?_); rintro e w1 ⟨rfl, hb1⟩)
  rewrite [HO.out]
  obtain ⟨q, r, -, -, -, k0, k1, k2, k3, k4, k5, k6, k7⟩ := (hV.out.keep hb1).open_
  replace hB := Kept.mk (hB.out.trans (hb1.mono hB.out.size))
  clear hb1 hV HXa
  go_wp2
  all_goals go_ret
  all_goals exact ⟨rfl, hB.out⟩
set_option maxRecDepth 20000 in
set_option maxHeartbeats 2000000 in
theorem rsum_yes (A : Va) (v : Value) (w : World) (hv : isVa A v w) (hF : Fit A) (h : okV A = true) (h2 : A.kind = 2) (n1 : A.plus.length = 8) (n2 : A.minus.length = 8) (q1 : A.plus.all okNum = true) (q2 : A.minus.all okNum = true) :
    Calls Tryz.prog 78 #[v] w fun e w' => e = .returned (.int .i64 (A.plus.sum - A.minus.sum)) ∧ Below w.heap.size w w' := by
  obtain ⟨vp, vm, rfl, hp, hm⟩ := hv
  obtain ⟨hB, hV⟩ := vbox w A vp vm hp hm w.heap.size rfl
  have HXa := Kept.mk (show isVa A (.agg #[.int .i64 A.kind, .int .i64 A.time, .int .i64 A.node, .bool A.dead, .string ⟨A.text.toArray⟩, vp, vm, .int .u64 (A.flags.toNat : Int)]) (w.alloc (.cells #[.int .i64 A.kind, .int .i64 A.time, .int .i64 A.node, .bool A.dead, .string ⟨A.text.toArray⟩, vp, vm, .int .u64 (A.flags.toNat : Int)] 28)) from va_mk (cells_up hp hB.out) (cells_up hm hB.out))
  obtain ⟨b1, o1, c1, rfl, l1, t1⟩ := row8 hp n1
  obtain ⟨b2, o2, c2, rfl, l2, t2⟩ := row8 hm n2
  have HC := Kept.mk (cellsN_at w 28 [.int .i64 A.kind, .int .i64 A.time, .int .i64 A.node, .bool A.dead, .string ⟨A.text.toArray⟩, .slice (some ⟨b1, o1, none⟩) 8 c1, .slice (some ⟨b2, o2, none⟩) 8 c2, .int .u64 (A.flags.toNat : Int)] w.heap.size rfl)
  have T1 := Kept.mk t1
  have T2 := Kept.mk t2
  have HO := Kept.mk h
  have kk : (A.kind == 2) = true := by simpa using h2
  have kk2 : (A.kind != 2) = false := by simpa using h2
  have H2 := Kept.mk h2
  have G1 := Kept.mk (getD_all A.plus q1)
  have G2 := Kept.mk (getD_all A.minus q2)
  have HE := Kept.mk (show sumTo (fun j => A.plus.getD j 0 - A.minus.getD j 0) 8 = A.plus.sum - A.minus.sum by rw [sumTo_sub, sum_getD _ n1, sum_getD _ n2])
  clear hp hm h t1 t2 q1 q2 hV h2
  go_enter Tryz.func78, Tryz.ntmps78
  go_wp2_with fail
  ((with_reducible refine (rcheck_any A _ _ HXa.out hF).mono ?_); rintro e w1 ⟨rfl, hb1⟩)
  rewrite [HO.out]
  have HC1 := Kept.mk (HC.out.keep hb1 HC.out.1)
  have k0 := HC1.out.2 0 _ rfl
  replace hB := Kept.mk (hB.out.trans (hb1.mono hB.out.size))
  clear hb1 HXa HC
  have h2 := H2.out
  go_wp2
  clear k0 h2
  go_loopw [3, 4] (fun c i wr => ∃ k : Nat, k ≤ 8 ∧ i = .int .i64 (k : Int) ∧ c = .int .i64 (sumTo (fun j => A.plus.getD j 0 - A.minus.getD j 0) k) ∧ Kept (Below w1.heap.size w1 wr)) (fun _ i _ => 8 - (intOf i).toNat)
  case atStart => exact ⟨0, by omega, rfl, rfl, ⟨Below.refl _ _⟩⟩
  case round =>
    obtain ⟨k, hk, rfl, rfl, HB⟩ := hrel
    have hBw := Kept.mk (hB.out.trans (HB.out.mono hB.out.size))
    by_cases hlt : k < 8
    · have d1 : decide ((k : Int) < 8) = true := by simp; omega
      have k5 := (HC1.out.keep HB.out HC1.out.1).2 5 _ rfl
      have k6 := (HC1.out.keep HB.out HC1.out.1).2 6 _ rfl
      have z1 := (hBw.out.cell (p := ⟨b1, o1 + k, none⟩) l1).trans (T1.out k hlt)
      have z2 := (hBw.out.cell (p := ⟨b2, o2 + k, none⟩) l2).trans (T2.out k hlt)
      obtain ⟨bx1, bx2⟩ := G1.out k
      obtain ⟨by1, by2⟩ := G2.out k
      obtain ⟨bs1, bs2⟩ := sum_between _ _ G1.out G2.out k
      have HS2 := Kept.mk (show sumTo (fun j => A.plus.getD j 0 - A.minus.getD j 0) (k + 1) = sumTo (fun j => A.plus.getD j 0 - A.minus.getD j 0) k + A.plus.getD k 0 - A.minus.getD k 0 by show _ + (_ - _) = _; omega)
      generalize sumTo (fun j => A.plus.getD j 0 - A.minus.getD j 0) k = s at *
      generalize A.plus.getD k 0 = x at *
      generalize A.minus.getD k 0 = y at *
      go_wp2
      go_region
      all_goals go_wp2
      all_goals
        go_roundw
        case rel => exact ⟨k + 1, by omega, by go_num, by rw [HS2.out], ⟨HB.out.drew⟩⟩
        case measure => simp [intOf]; omega
    · have d1 : decide ((k : Int) < 8) = false := by simp; omega
      obtain rfl : k = 8 := by omega
      rw [HE.out]
      go_wp2
      go_ret
      exact ⟨rfl, hBw.out⟩
theorem rsum_any (A : Va) (v : Value) (w : World) (hv : isVa A v w) (hF : Fit A) :
    Calls Tryz.prog 78 #[v] w fun e w' => e = .returned (.int .i64 (sumN A)) ∧ Below w.heap.size w w' := by
  cases h : okV A with
  | false =>
    rw [show sumN A = 0 by unfold sumN; rw [if_neg]; intro e; unfold okV at h; rw [e] at h; simp at h]
    exact rsum_no1 A v w hv hF h
  | true =>
    have hk := kindN_ok h
    by_cases h2 : A.kind = 2
    · have k2 := kindN_two (show kindN A = 2 by omega)
      rw [show sumN A = A.plus.sum - A.minus.sum by unfold sumN; rw [if_pos (by omega)]]
      exact rsum_yes A v w hv hF h h2 (okRow_len k2.2.2.1) (okRow_len k2.2.2.2) (okRow_all k2.2.2.1) (okRow_all k2.2.2.2)
    · rw [show sumN A = 0 by unfold sumN; rw [if_neg (by omega)]]
      exact rsum_no2 A v w hv hF h h2
end Go.Proofs.YtbgconagkgfplaaGreat
end
section
namespace Go.Proofs.YtbgconagkgfplaaGreat
open Go.RowKit
set_option linter.unusedVariables false
set_option linter.unusedSimpArgs false
attribute [local irreducible] setN

set_option maxRecDepth 20000 in
set_option maxHeartbeats 2000000 in
theorem rleast_1 (w : World) : Calls Tryz.prog 111 #[.int .i64 1] w fun e w' => ∃ v', e = .returned (.tuple #[v', .int .i64 0]) ∧ isVa (leastF 1) v' w' ∧ Below w.heap.size w w' := by
  have b1 := lit_below w (.cells #[.int .i64 0, .int .i64 0, .int .i64 0, .bool false, .string ⟨#[]⟩, .slice none 0 0, .slice none 0 0, .int .u64 0] 28)
  have b2 := lit_below (w.alloc (.cells #[.int .i64 0, .int .i64 0, .int .i64 0, .bool false, .string ⟨#[]⟩, .slice none 0 0, .slice none 0 0, .int .u64 0] 28)) (.cells #[.int .i64 1, .int .i64 0, .int .i64 0, .bool false, .string ⟨#[]⟩, .slice none 0 0, .slice none 0 0, .int .u64 0] 28)
  have hB := Kept.mk (b1.trans (b2.mono b1.size))
  have HZ := Kept.mk ((cellsN_at w 28 [.int .i64 0, .int .i64 0, .int .i64 0, .bool false, .string ⟨#[]⟩, .slice none 0 0, .slice none 0 0, .int .u64 0] w.heap.size rfl).keep b2 (by simp <;> omega))
  have HF := Kept.mk ((free5_at w #[.int .i64 0, .int .i64 0, .int .i64 0, .bool false, .string ⟨#[]⟩, .slice none 0 0, .slice none 0 0, .int .u64 0] 28 w.heap.size rfl).keep b2 (by simp <;> omega))
  obtain ⟨hBK, K4, K5⟩ := vset (leastF 1) (.slice none 0 0) (.slice none 0 0) (g := w.heap.size) (Nat.le_refl _) hB.out HZ.out rfl (.inl ⟨rfl, rfl⟩) (.inl ⟨rfl, rfl⟩) (by intro h; cases h) (by intro h; cases h)
  obtain ⟨hc', hp', hm'⟩ := K4.out
  clear K4 b1 b2
  go_enter Tryz.func111, Tryz.ntmps111
  go_wp2_with (have hz0 := K5; refine wpList_storeN 28 rfl (.tmp 2) (.tmp 20) rfl w.heap.size [.int .i64 1, .int .i64 0, .int .i64 0, .bool false, .string ⟨#[]⟩, .slice none 0 0, .slice none 0 0, .int .u64 0] size_va rfl rfl HZ.out rfl HF.out K5.out ?_; clear hz0 K5)
  exact bodyPost_ret (resultsN2 rfl _ _ w.heap.size _ (.int .i64 0) size_va agg_va rfl rfl hc') rfl ⟨_, rfl, ⟨(.slice none 0 0), (.slice none 0 0), rfl, hp', hm'⟩, hBK.out⟩
set_option maxRecDepth 20000 in
set_option maxHeartbeats 2000000 in
theorem rleast_3 (w : World) : Calls Tryz.prog 111 #[.int .i64 3] w fun e w' => ∃ v', e = .returned (.tuple #[v', .int .i64 0]) ∧ isVa (leastF 3) v' w' ∧ Below w.heap.size w w' := by
  have b1 := lit_below w (.cells #[.int .i64 0, .int .i64 0, .int .i64 0, .bool false, .string ⟨#[]⟩, .slice none 0 0, .slice none 0 0, .int .u64 0] 28)
  have b2 := lit_below (w.alloc (.cells #[.int .i64 0, .int .i64 0, .int .i64 0, .bool false, .string ⟨#[]⟩, .slice none 0 0, .slice none 0 0, .int .u64 0] 28)) (.cells #[.int .i64 3, .int .i64 0, .int .i64 0, .bool false, .string ⟨#[]⟩, .slice none 0 0, .slice none 0 0, .int .u64 0] 28)
  have hB := Kept.mk (b1.trans (b2.mono b1.size))
  have HZ := Kept.mk ((cellsN_at w 28 [.int .i64 0, .int .i64 0, .int .i64 0, .bool false, .string ⟨#[]⟩, .slice none 0 0, .slice none 0 0, .int .u64 0] w.heap.size rfl).keep b2 (by simp <;> omega))
  have HF := Kept.mk ((free5_at w #[.int .i64 0, .int .i64 0, .int .i64 0, .bool false, .string ⟨#[]⟩, .slice none 0 0, .slice none 0 0, .int .u64 0] 28 w.heap.size rfl).keep b2 (by simp <;> omega))
  obtain ⟨hBK, K4, K5⟩ := vset (leastF 3) (.slice none 0 0) (.slice none 0 0) (g := w.heap.size) (Nat.le_refl _) hB.out HZ.out rfl (.inl ⟨rfl, rfl⟩) (.inl ⟨rfl, rfl⟩) (by intro h; cases h) (by intro h; cases h)
  obtain ⟨hc', hp', hm'⟩ := K4.out
  clear K4 b1 b2
  go_enter Tryz.func111, Tryz.ntmps111
  go_wp2_with (have hz0 := K5; refine wpList_storeN 28 rfl (.tmp 2) (.tmp 20) rfl w.heap.size [.int .i64 3, .int .i64 0, .int .i64 0, .bool false, .string ⟨#[]⟩, .slice none 0 0, .slice none 0 0, .int .u64 0] size_va rfl rfl HZ.out rfl HF.out K5.out ?_; clear hz0 K5)
  exact bodyPost_ret (resultsN2 rfl _ _ w.heap.size _ (.int .i64 0) size_va agg_va rfl rfl hc') rfl ⟨_, rfl, ⟨(.slice none 0 0), (.slice none 0 0), rfl, hp', hm'⟩, hBK.out⟩
set_option maxRecDepth 20000 in
set_option maxHeartbeats 2000000 in
theorem rleast_2 (w : World) : Calls Tryz.prog 111 #[.int .i64 2] w fun e w' => ∃ v', e = .returned (.tuple #[v', .int .i64 0]) ∧ isVa (leastF 2) v' w' ∧ Below w.heap.size w w' := by
  have b1 := lit_below w (.cells #[.int .i64 0, .int .i64 0, .int .i64 0, .bool false, .string ⟨#[]⟩, .slice none 0 0, .slice none 0 0, .int .u64 0] 28)
  have b2 := lit_below (w.alloc (.cells #[.int .i64 0, .int .i64 0, .int .i64 0, .bool false, .string ⟨#[]⟩, .slice none 0 0, .slice none 0 0, .int .u64 0] 28)) (.cells #[.int .i64 2, .int .i64 0, .int .i64 0, .bool false, .string ⟨#[]⟩, .slice (some ⟨w.heap.size + 1 + 1, 0, none⟩) 8 8, .slice (some ⟨w.heap.size + 1 + 1 + 1, 0, none⟩) 8 8, .int .u64 0] 28)
  have b3 := lit_below ((w.alloc (.cells #[.int .i64 0, .int .i64 0, .int .i64 0, .bool false, .string ⟨#[]⟩, .slice none 0 0, .slice none 0 0, .int .u64 0] 28)).alloc (.cells #[.int .i64 2, .int .i64 0, .int .i64 0, .bool false, .string ⟨#[]⟩, .slice (some ⟨w.heap.size + 1 + 1, 0, none⟩) 8 8, .slice (some ⟨w.heap.size + 1 + 1 + 1, 0, none⟩) 8 8, .int .u64 0] 28)) (.cells (madeCells #[Value.int .i64 0] 8) 3)
  have b4 := lit_below (((w.alloc (.cells #[.int .i64 0, .int .i64 0, .int .i64 0, .bool false, .string ⟨#[]⟩, .slice none 0 0, .slice none 0 0, .int .u64 0] 28)).alloc (.cells #[.int .i64 2, .int .i64 0, .int .i64 0, .bool false, .string ⟨#[]⟩, .slice (some ⟨w.heap.size + 1 + 1, 0, none⟩) 8 8, .slice (some ⟨w.heap.size + 1 + 1 + 1, 0, none⟩) 8 8, .int .u64 0] 28)).alloc (.cells (madeCells #[Value.int .i64 0] 8) 3)) (.cells (madeCells #[Value.int .i64 0] 8) 3)
  have hB := Kept.mk (((b1.trans (b2.mono b1.size)).trans (b3.mono (b1.trans (b2.mono b1.size)).size)).trans (b4.mono ((b1.trans (b2.mono b1.size)).trans (b3.mono (b1.trans (b2.mono b1.size)).size)).size))
  have HZ := Kept.mk ((((cellsN_at w 28 [.int .i64 0, .int .i64 0, .int .i64 0, .bool false, .string ⟨#[]⟩, .slice none 0 0, .slice none 0 0, .int .u64 0] w.heap.size rfl).keep b2 (by simp <;> omega)).keep b3 (by simp <;> omega)).keep b4 (by simp <;> omega))
  have HF := Kept.mk ((((free5_at w #[.int .i64 0, .int .i64 0, .int .i64 0, .bool false, .string ⟨#[]⟩, .slice none 0 0, .slice none 0 0, .int .u64 0] 28 w.heap.size rfl).keep b2 (by simp <;> omega)).keep b3 (by simp <;> omega)).keep b4 (by simp <;> omega))
  have r1 := (World.rowIs_made ((w.alloc (.cells #[.int .i64 0, .int .i64 0, .int .i64 0, .bool false, .string ⟨#[]⟩, .slice none 0 0, .slice none 0 0, .int .u64 0] 28)).alloc (.cells #[.int .i64 2, .int .i64 0, .int .i64 0, .bool false, .string ⟨#[]⟩, .slice (some ⟨w.heap.size + 1 + 1, 0, none⟩) 8 8, .slice (some ⟨w.heap.size + 1 + 1 + 1, 0, none⟩) 8 8, .int .u64 0] 28)) (.int .i64 0) 8 3).of_block (b4.block _ (by simp))
  have r2 := World.rowIs_made (((w.alloc (.cells #[.int .i64 0, .int .i64 0, .int .i64 0, .bool false, .string ⟨#[]⟩, .slice none 0 0, .slice none 0 0, .int .u64 0] 28)).alloc (.cells #[.int .i64 2, .int .i64 0, .int .i64 0, .bool false, .string ⟨#[]⟩, .slice (some ⟨w.heap.size + 1 + 1, 0, none⟩) 8 8, .slice (some ⟨w.heap.size + 1 + 1 + 1, 0, none⟩) 8 8, .int .u64 0] 28)).alloc (.cells (madeCells #[Value.int .i64 0] 8) 3)) (.int .i64 0) 8 3
  rw [show ((w.alloc (.cells #[.int .i64 0, .int .i64 0, .int .i64 0, .bool false, .string ⟨#[]⟩, .slice none 0 0, .slice none 0 0, .int .u64 0] 28)).alloc (.cells #[.int .i64 2, .int .i64 0, .int .i64 0, .bool false, .string ⟨#[]⟩, .slice (some ⟨w.heap.size + 1 + 1, 0, none⟩) 8 8, .slice (some ⟨w.heap.size + 1 + 1 + 1, 0, none⟩) 8 8, .int .u64 0] 28)).heap.size = w.heap.size + 1 + 1 by simp] at r1
  rw [show (((w.alloc (.cells #[.int .i64 0, .int .i64 0, .int .i64 0, .bool false, .string ⟨#[]⟩, .slice none 0 0, .slice none 0 0, .int .u64 0] 28)).alloc (.cells #[.int .i64 2, .int .i64 0, .int .i64 0, .bool false, .string ⟨#[]⟩, .slice (some ⟨w.heap.size + 1 + 1, 0, none⟩) 8 8, .slice (some ⟨w.heap.size + 1 + 1 + 1, 0, none⟩) 8 8, .int .u64 0] 28)).alloc (.cells (madeCells #[Value.int .i64 0] 8) 3)).heap.size = w.heap.size + 1 + 1 + 1 by simp] at r2
  have hmk : ∀ W : World, (Instr.makeSlice 23 (.int .i64 8) (.int .i64 8)).run Tryz.prog W = .ok (.slice (some ⟨W.heap.size, 0, none⟩) 8 8) (W.alloc (.cells (madeCells #[Value.int .i64 0] 8) 3)) := fun W => run_make_row' (P := Tryz.prog) 23 3 (.int .i64 0) 8 Tryz.underlying23 Tryz.infoInt rfl .i64 .i64 8 (by omega) (by omega) W
  obtain ⟨hBK, K4, K5⟩ := vset (leastF 2) (.slice (some ⟨w.heap.size + 1 + 1, 0, none⟩) 8 8) (.slice (some ⟨w.heap.size + 1 + 1 + 1, 0, none⟩) 8 8) (g := w.heap.size) (Nat.le_refl _) hB.out HZ.out rfl (cells_row8 (f := fun _ => 0) r1 (by decide)) (cells_row8 (f := fun _ => 0) r2 (by decide)) (by simp [blk]; omega) (by simp [blk]; omega)
  obtain ⟨hc', hp', hm'⟩ := K4.out
  clear K4 b1 b2 b3 b4 r1 r2
  go_enter Tryz.func111, Tryz.ntmps111
  go_wp2_with (have hz0 := K5; refine wpList_storeN 28 rfl (.tmp 2) (.tmp 20) rfl w.heap.size [.int .i64 2, .int .i64 0, .int .i64 0, .bool false, .string ⟨#[]⟩, .slice (some ⟨w.heap.size + 1 + 1, 0, none⟩) 8 8, .slice (some ⟨w.heap.size + 1 + 1 + 1, 0, none⟩) 8 8, .int .u64 0] size_va rfl rfl HZ.out rfl HF.out K5.out ?_; clear hz0 K5)
  exact bodyPost_ret (resultsN2 rfl _ _ w.heap.size _ (.int .i64 0) size_va agg_va rfl rfl hc') rfl ⟨_, rfl, ⟨(.slice (some ⟨w.heap.size + 1 + 1, 0, none⟩) 8 8), (.slice (some ⟨w.heap.size + 1 + 1 + 1, 0, none⟩) 8 8), rfl, hp', hm'⟩, hBK.out⟩
set_option maxRecDepth 20000 in
set_option maxHeartbeats 2000000 in
theorem rleast_lo (k : Int) (hk : k < 1) (w : World) : Calls Tryz.prog 111 #[.int .i64 k] w fun e w' => ∃ v', e = .returned (.tuple #[v', .int .i64 3]) ∧ isVa zeroV v' w' ∧ Below w.heap.size w w' := by
  have b1 := lit_below w (.cells #[.int .i64 0, .int .i64 0, .int .i64 0, .bool false, .string ⟨#[]⟩, .slice none 0 0, .slice none 0 0, .int .u64 0] 28)
  have b2 := lit_below (w.alloc (.cells #[.int .i64 0, .int .i64 0, .int .i64 0, .bool false, .string ⟨#[]⟩, .slice none 0 0, .slice none 0 0, .int .u64 0] 28)) (.cells #[.int .i64 k, .int .i64 0, .int .i64 0, .bool false, .string ⟨#[]⟩, .slice none 0 0, .slice none 0 0, .int .u64 0] 28)
  have hB := Kept.mk (b1.trans (b2.mono b1.size))
  have HZ := Kept.mk ((cellsN_at w 28 [.int .i64 0, .int .i64 0, .int .i64 0, .bool false, .string ⟨#[]⟩, .slice none 0 0, .slice none 0 0, .int .u64 0] w.heap.size rfl).keep b2 (by simp <;> omega))
  have HF := Kept.mk ((free5_at w #[.int .i64 0, .int .i64 0, .int .i64 0, .bool false, .string ⟨#[]⟩, .slice none 0 0, .slice none 0 0, .int .u64 0] 28 w.heap.size rfl).keep b2 (by simp <;> omega))
  obtain ⟨hBK, K4, K5⟩ := vset zeroV (.slice none 0 0) (.slice none 0 0) (g := w.heap.size) (Nat.le_refl _) hB.out HZ.out rfl (.inl ⟨rfl, rfl⟩) (.inl ⟨rfl, rfl⟩) (by intro h; cases h) (by intro h; cases h)
  obtain ⟨hc', hp', hm'⟩ := K4.out
  clear K4 b1 b2
  have d1 : decide (k < 1) = true := by simpa using hk
  clear hk
  go_enter Tryz.func111, Tryz.ntmps111
  go_wp2_with (have hz0 := K5; refine wpList_storeN 28 rfl (.tmp 2) (.tmp 13) rfl w.heap.size [.int .i64 0, .int .i64 0, .int .i64 0, .bool false, .string ⟨#[]⟩, .slice none 0 0, .slice none 0 0, .int .u64 0] size_va rfl rfl HZ.out rfl HF.out K5.out ?_; clear hz0 K5)
  exact bodyPost_ret (resultsN2 rfl _ _ w.heap.size _ (.int .i64 3) size_va agg_va rfl rfl hc') rfl ⟨_, rfl, ⟨(.slice none 0 0), (.slice none 0 0), rfl, hp', hm'⟩, hBK.out⟩
set_option maxRecDepth 20000 in
set_option maxHeartbeats 2000000 in
theorem rleast_hi (k : Int) (hk : 3 < k) (w : World) : Calls Tryz.prog 111 #[.int .i64 k] w fun e w' => ∃ v', e = .returned (.tuple #[v', .int .i64 3]) ∧ isVa zeroV v' w' ∧ Below w.heap.size w w' := by
  have b1 := lit_below w (.cells #[.int .i64 0, .int .i64 0, .int .i64 0, .bool false, .string ⟨#[]⟩, .slice none 0 0, .slice none 0 0, .int .u64 0] 28)
  have b2 := lit_below (w.alloc (.cells #[.int .i64 0, .int .i64 0, .int .i64 0, .bool false, .string ⟨#[]⟩, .slice none 0 0, .slice none 0 0, .int .u64 0] 28)) (.cells #[.int .i64 k, .int .i64 0, .int .i64 0, .bool false, .string ⟨#[]⟩, .slice none 0 0, .slice none 0 0, .int .u64 0] 28)
  have hB := Kept.mk (b1.trans (b2.mono b1.size))
  have HZ := Kept.mk ((cellsN_at w 28 [.int .i64 0, .int .i64 0, .int .i64 0, .bool false, .string ⟨#[]⟩, .slice none 0 0, .slice none 0 0, .int .u64 0] w.heap.size rfl).keep b2 (by simp <;> omega))
  have HF := Kept.mk ((free5_at w #[.int .i64 0, .int .i64 0, .int .i64 0, .bool false, .string ⟨#[]⟩, .slice none 0 0, .slice none 0 0, .int .u64 0] 28 w.heap.size rfl).keep b2 (by simp <;> omega))
  obtain ⟨hBK, K4, K5⟩ := vset zeroV (.slice none 0 0) (.slice none 0 0) (g := w.heap.size) (Nat.le_refl _) hB.out HZ.out rfl (.inl ⟨rfl, rfl⟩) (.inl ⟨rfl, rfl⟩) (by intro h; cases h) (by intro h; cases h)
  obtain ⟨hc', hp', hm'⟩ := K4.out
  clear K4 b1 b2
  have d1 : decide (k < 1) = false := by simp; omega
  have d2 : decide (3 < k) = true := by simpa using hk
  clear hk
  go_enter Tryz.func111, Tryz.ntmps111
  go_wp2_with (have hz0 := K5; refine wpList_storeN 28 rfl (.tmp 2) (.tmp 13) rfl w.heap.size [.int .i64 0, .int .i64 0, .int .i64 0, .bool false, .string ⟨#[]⟩, .slice none 0 0, .slice none 0 0, .int .u64 0] size_va rfl rfl HZ.out rfl HF.out K5.out ?_; clear hz0 K5)
  exact bodyPost_ret (resultsN2 rfl _ _ w.heap.size _ (.int .i64 3) size_va agg_va rfl rfl hc') rfl ⟨_, rfl, ⟨(.slice none 0 0), (.slice none 0 0), rfl, hp', hm'⟩, hBK.out⟩
theorem rleast_any (k : Int) (w : World) : Calls Tryz.prog 111 #[.int .i64 k] w fun e w' => ∃ v', e = .returned (.tuple #[v', .int .i64 (leastE k)]) ∧ isVa (leastF k) v' w' ∧ Below w.heap.size w w' := by
  by_cases h1 : k = 1
  · subst h1; exact rleast_1 w
  · by_cases h2 : k = 2
    · subst h2; exact rleast_2 w
    · by_cases h3 : k = 3
      · subst h3; exact rleast_3 w
      · rw [show leastE k = 3 by unfold leastE; rw [if_neg (by omega)], show leastF k = zeroV by unfold leastF; rw [if_neg h1, if_neg h2, if_neg h3]]
        by_cases h4 : k < 1
        · exact rleast_lo k h4 w
        · exact rleast_hi k (by omega) w
end Go.Proofs.YtbgconagkgfplaaGreat
end
section
namespace Go.Proofs.YtbgconagkgfplaaGreat
open Go.RowKit Go.Shelf
set_option linter.unusedVariables false
set_option linter.unusedSimpArgs false
attribute [local irreducible] setN

theorem rfindP (A : Ar) (kind : Int) (key : List UInt8) (p : Int) (v : Value) (w : World) (hv : isAr A v w) (hF : FitA A) (hp : findI A (nameE kind key) = p) : Calls Tryz.prog 65 #[v, .int .i64 kind, .string ⟨key.toArray⟩] w fun e w' => e = .returned (.int .i64 p) ∧ Below w.heap.size w w' := by subst hp; exact rfind_any A kind key v w hv hF
/-- A row of eight numbers does not stand in a value's cell. -/
theorem row_off {w : World} {g : Nat} {v : Value} {T : TypeId} (hg : w.heap[g]? = some (.cells #[.int .i64 0, .int .i64 0, .int .i64 0, .bool false, .string ⟨#[]⟩, .slice none 0 0, .slice none 0 0, .int .u64 0] T (0, 0))) {l : List Int} (hl : l.length = 8 ∨ l = []) (h : isCells (l.map intC) v w) : l.map intC = [] ∨ blk v ≠ some g := by
  rcases hl with hl | rfl
  · rcases h with ⟨_, h0⟩ | ⟨_, _, _, h0⟩ | ⟨b, off, cap, rfl, hlt, hc⟩
    · exact .inl h0
    · exact .inl h0
    · refine .inr fun e => ?_
      injection e with e
      have e : b = g := e
      subst e
      have key : ∀ j, j < 8 → ∃ n : Int, (#[.int .i64 0, .int .i64 0, .int .i64 0, .bool false, .string ⟨#[]⟩, .slice none 0 0, .slice none 0 0, .int .u64 0] : Array Value)[off + j]? = some (.int .i64 n) := fun j hj => by
        obtain ⟨x, hx⟩ : ∃ x, l[j]? = some x := ⟨_, List.getElem?_eq_getElem (by omega)⟩
        have := hc j (intC x) (by rw [List.getElem?_map, hx]; rfl)
        refine ⟨x, ?_⟩
        simp only [World.cell?, hg] at this
        exact this
      by_cases h3 : off ≤ 3
      · obtain ⟨n, hn⟩ := key (3 - off) (by omega)
        rw [show off + (3 - off) = 3 by omega] at hn
        simp at hn
      · obtain ⟨n, hn⟩ := key 0 (by omega)
        have h8 : off < 8 := by
          have := (Array.getElem?_eq_some_iff.1 hn).1
          simpa using this
        have : off = 4 ∨ off = 5 ∨ off = 6 ∨ off = 7 := by omega
        rcases this with rfl | rfl | rfl | rfl <;> simp at hn
  · exact .inl rfl
theorem rows8 (k : Int) : ((leastF k).plus.length = 8 ∨ (leastF k).plus = []) ∧ ((leastF k).minus.length = 8 ∨ (leastF k).minus = []) := by
  unfold leastF
  split
  · exact ⟨.inr rfl, .inr rfl⟩
  · split
    · exact ⟨.inl rfl, .inl rfl⟩
    · split <;> exact ⟨.inr rfl, .inr rfl⟩
set_option maxRecDepth 100000 in
set_option maxHeartbeats 2000000 in
theorem rval_no' (A : Ar) (kind : Int) (key : List UInt8) (v : Value) (w : World) (hv : isAr A v w) (hF : FitA A) (hk : leastE kind = 0) (hh : heldB A kind key = false) : Calls Tryz.prog 66 #[v, .int .i64 kind, .string ⟨key.toArray⟩] w fun e w' => ∃ v', e = .returned v' ∧ isVa (leastF kind) v' w' ∧ Below w.heap.size w w' := by
  obtain ⟨vs, vi, rfl, hs, hi⟩ := hv
  have HB := Kept.mk (show Below w.heap.size w ((w.alloc (.cells #[.int .i64 A.cap, vs, vi] 25)).alloc (.cells #[.int .i64 0, .int .i64 0, .int .i64 0, .bool false, .string ⟨#[]⟩, .slice none 0 0, .slice none 0 0, .int .u64 0] 28)) from ((Below.refl _ w).alloc (Nat.le_refl _) _).alloc (by simp) _)
  have XA := Kept.mk (show isAr A (.agg #[.int .i64 A.cap, vs, vi]) ((w.alloc (.cells #[.int .i64 A.cap, vs, vi] 25)).alloc (.cells #[.int .i64 0, .int .i64 0, .int .i64 0, .bool false, .string ⟨#[]⟩, .slice none 0 0, .slice none 0 0, .int .u64 0] 28)) from stable_ar A _ _ _ ⟨vs, vi, rfl, hs, hi⟩ HB.out)
  have BA := Kept.mk ((Blk.new w 25 [.int .i64 A.cap, vs, vi] w.heap.size rfl).alloc (.cells #[.int .i64 0, .int .i64 0, .int .i64 0, .bool false, .string ⟨#[]⟩, .slice none 0 0, .slice none 0 0, .int .u64 0] 28))
  have BR := Kept.mk (Blk.new (w.alloc (.cells #[.int .i64 A.cap, vs, vi] 25)) 28 [.int .i64 0, .int .i64 0, .int .i64 0, .bool false, .string ⟨#[]⟩, .slice none 0 0, .slice none 0 0, .int .u64 0] (w.heap.size + 1) (by simp))
  have HG := Kept.mk (show ((w.alloc (.cells #[.int .i64 A.cap, vs, vi] 25)).alloc (.cells #[.int .i64 0, .int .i64 0, .int .i64 0, .bool false, .string ⟨#[]⟩, .slice none 0 0, .slice none 0 0, .int .u64 0] 28)).heap[w.heap.size + 1]? = some (.cells #[.int .i64 0, .int .i64 0, .int .i64 0, .bool false, .string ⟨#[]⟩, .slice none 0 0, .slice none 0 0, .int .u64 0] 28 (0, 0)) by have h := heap_alloc_new (w.alloc (.cells #[.int .i64 A.cap, vs, vi] 25)) (.cells #[.int .i64 0, .int .i64 0, .int .i64 0, .bool false, .string ⟨#[]⟩, .slice none 0 0, .slice none 0 0, .int .u64 0] 28); simpa using h)
  have ka0 := BA.out.cells.2 0 _ rfl
  have ka1 := BA.out.cells.2 1 _ rfl
  have ka2 := BA.out.cells.2 2 _ rfl
  obtain ⟨p, hp⟩ : ∃ p, findI A (nameE kind key) = p := ⟨_, rfl⟩
  have HP := Kept.mk hp
  have h0 : p < 0 := by unfold heldB at hh; rw [hp] at hh; have := of_decide_eq_false hh; omega
  obtain ⟨V, hV⟩ : ∃ V, leastF kind = V := ⟨_, rfl⟩
  have hr8 := rows8 kind
  rw [hV] at hr8 ⊢
  have HL := Kept.mk (fun w => by have h := rleast_any kind w; rw [hV, hk] at h; exact h)
  clear hp hs hi hh hV hk
  go_enter Tryz.func66, Tryz.ntmps66
  go_wp2_with fail
  generalize ((w.alloc (.cells #[.int .i64 A.cap, vs, vi] 25)).alloc (.cells #[.int .i64 0, .int .i64 0, .int .i64 0, .bool false, .string ⟨#[]⟩, .slice none 0 0, .slice none 0 0, .int .u64 0] 28)) = W0 at *
  refine (rfindP A kind key _ _ _ XA.out hF HP.out).mono ?_
  rintro e W1 ⟨rfl, hb⟩
  replace HB := Kept.mk (HB.out.trans (hb.mono HB.out.size))
  replace BA := Kept.mk (BA.out.keep hb)
  have hlr := BR.out.lt
  replace HG := Kept.mk ((hb.block (w.heap.size + 1) hlr).trans HG.out)
  replace BR := Kept.mk (BR.out.keep hb)
  clear hb XA ka0 ka1 ka2 hlr
  go_wp2_with fail
  refine (HL.out W1).mono ?_
  rintro e U ⟨v', rfl, ⟨p', m', rfl, hp', hm'⟩, hb⟩
  have hlr := BR.out.lt
  have HG2 := (hb.block (w.heap.size + 1) hlr).trans HG.out
  have n1 := row_off HG2 hr8.1 hp'
  have n2 := row_off HG2 hr8.2 hm'
  obtain ⟨K1, K2, K3, K4, K5⟩ := vnew U V p' m' hp' hm' U.heap.size rfl
  replace HB := Kept.mk ((HB.out.trans (hb.mono HB.out.size)))
  replace HB := Kept.mk (HB.out.trans (K3.out.mono HB.out.size))
  replace BR := Kept.mk ((BR.out.keep hb).keep K3.out)
  have K6 := Kept.mk K4.out
  obtain ⟨J1, J2, J3⟩ := vset3 V p' m' (g := w.heap.size + 1) (B := w.heap.size) (by omega) HB.out BR.out.cells rfl K6.out.2.1 K6.out.2.2 n1 n2
  clear hb hp' hm' n1 n2 HG HG2 BA hlr
  go_wp2_with (first
    | (have hz0 := K1; refine wpList_storeN 28 rfl (.tmp 8) (.tmp 19) rfl U.heap.size [.int .i64 V.kind, .int .i64 V.time, .int .i64 V.node, .bool V.dead, .string ⟨V.text.toArray⟩, p', m', .int .u64 (V.flags.toNat : Int)] size_va rfl rfl K1.out rfl K2.out K5.out ?_; clear hz0 K1 K2 K3 K4 K5; generalize setN (U.alloc (.cells #[.int .i64 0, .int .i64 0, .int .i64 0, .bool false, .string ⟨#[]⟩, .slice none 0 0, .slice none 0 0, .int .u64 0] 28)) U.heap.size 0 [.int .i64 V.kind, .int .i64 V.time, .int .i64 V.node, .bool V.dead, .string ⟨V.text.toArray⟩, p', m', .int .u64 (V.flags.toNat : Int)] = W2 at *; have k0 := K6.out.1.2 0 _ rfl; have k1 := K6.out.1.2 1 _ rfl; have k2 := K6.out.1.2 2 _ rfl; have k3 := K6.out.1.2 3 _ rfl; have k4 := K6.out.1.2 4 _ rfl; have k5 := K6.out.1.2 5 _ rfl; have k6 := K6.out.1.2 6 _ rfl; have k7 := K6.out.1.2 7 _ rfl)
    | (have hz1 := J3; refine wpList_storeN 28 rfl (.tmp 6) (.tmp 21) rfl (w.heap.size + 1) [.int .i64 V.kind, .int .i64 V.time, .int .i64 V.node, .bool V.dead, .string ⟨V.text.toArray⟩, p', m', .int .u64 (V.flags.toNat : Int)] size_va rfl rfl BR.out.cells rfl BR.out.free J3.out ?_; clear hz1))
  exact bodyPost_ret (resultsN1 rfl _ _ (w.heap.size + 1) [.int .i64 V.kind, .int .i64 V.time, .int .i64 V.node, .bool V.dead, .string ⟨V.text.toArray⟩, p', m', .int .u64 (V.flags.toNat : Int)] size_va agg_va rfl J2.out.1) rfl ⟨_, rfl, ⟨p', m', rfl, J2.out.2.1, J2.out.2.2⟩, J1.out⟩
set_option maxRecDepth 100000 in
set_option maxHeartbeats 2000000 in
theorem rval_yes' (A : Ar) (kind : Int) (key : List UInt8) (V : Va) (v : Value) (w : World) (hv : isAr A v w) (hF : FitA A) (hh : heldB A kind key = true) (hV : heldV A kind key = V) : Calls Tryz.prog 66 #[v, .int .i64 kind, .string ⟨key.toArray⟩] w fun e w' => ∃ v', e = .returned v' ∧ isVa V v' w' ∧ Below w.heap.size w w' := by
  obtain ⟨vs, vi, rfl, hs, hi⟩ := hv
  have HB := Kept.mk (show Below w.heap.size w ((w.alloc (.cells #[.int .i64 A.cap, vs, vi] 25)).alloc (.cells #[.int .i64 0, .int .i64 0, .int .i64 0, .bool false, .string ⟨#[]⟩, .slice none 0 0, .slice none 0 0, .int .u64 0] 28)) from ((Below.refl _ w).alloc (Nat.le_refl _) _).alloc (by simp) _)
  have XA := Kept.mk (show isAr A (.agg #[.int .i64 A.cap, vs, vi]) ((w.alloc (.cells #[.int .i64 A.cap, vs, vi] 25)).alloc (.cells #[.int .i64 0, .int .i64 0, .int .i64 0, .bool false, .string ⟨#[]⟩, .slice none 0 0, .slice none 0 0, .int .u64 0] 28)) from stable_ar A _ _ _ ⟨vs, vi, rfl, hs, hi⟩ HB.out)
  have BA := Kept.mk ((Blk.new w 25 [.int .i64 A.cap, vs, vi] w.heap.size rfl).alloc (.cells #[.int .i64 0, .int .i64 0, .int .i64 0, .bool false, .string ⟨#[]⟩, .slice none 0 0, .slice none 0 0, .int .u64 0] 28))
  have BR := Kept.mk (Blk.new (w.alloc (.cells #[.int .i64 A.cap, vs, vi] 25)) 28 [.int .i64 0, .int .i64 0, .int .i64 0, .bool false, .string ⟨#[]⟩, .slice none 0 0, .slice none 0 0, .int .u64 0] (w.heap.size + 1) (by simp))
  have HG := Kept.mk (show ((w.alloc (.cells #[.int .i64 A.cap, vs, vi] 25)).alloc (.cells #[.int .i64 0, .int .i64 0, .int .i64 0, .bool false, .string ⟨#[]⟩, .slice none 0 0, .slice none 0 0, .int .u64 0] 28)).heap[w.heap.size + 1]? = some (.cells #[.int .i64 0, .int .i64 0, .int .i64 0, .bool false, .string ⟨#[]⟩, .slice none 0 0, .slice none 0 0, .int .u64 0] 28 (0, 0)) by have h := heap_alloc_new (w.alloc (.cells #[.int .i64 A.cap, vs, vi] 25)) (.cells #[.int .i64 0, .int .i64 0, .int .i64 0, .bool false, .string ⟨#[]⟩, .slice none 0 0, .slice none 0 0, .int .u64 0] 28); simpa using h)
  have ka0 := BA.out.cells.2 0 _ rfl
  have ka1 := BA.out.cells.2 1 _ rfl
  have ka2 := BA.out.cells.2 2 _ rfl
  obtain ⟨p, hp⟩ : ∃ p, findI A (nameE kind key) = p := ⟨_, rfl⟩
  have HP := Kept.mk hp
  have hp0 : 0 ≤ findI A (nameE kind key) := by unfold heldB at hh; exact of_decide_eq_true hh
  have hE : (slotAt A.slots (findI A (nameE kind key))).val = V := by unfold heldV at hV; rw [if_pos hp0] at hV; exact hV
  obtain ⟨q, hq, hql, hqs, hqo⟩ := find_range hp0
  rw [hp] at hq
  subst hq
  generalize slotAt A.slots (findI A (nameE kind key)) = E at hqs hqo hE
  subst hE
  obtain ⟨b, off, cap, ea, hbl, ep, em, hec, hep, hem⟩ := hs.get hqs
  have HEA := Kept.mk ea
  have HEP := Kept.mk hep
  have HEM := Kept.mk hem
  have HEC := Kept.mk hec
  have hl := hF.slots
  have hq1 : (q : Int) < (A.slots.length : Int) := by omega
  have h0 : ¬ ((q : Int) < 0) := by omega
  clear hp hi hh hV hqs hqo hp0 hs hep hem hec ea
  go_enter Tryz.func66, Tryz.ntmps66
  go_wp2_with fail
  generalize ((w.alloc (.cells #[.int .i64 A.cap, vs, vi] 25)).alloc (.cells #[.int .i64 0, .int .i64 0, .int .i64 0, .bool false, .string ⟨#[]⟩, .slice none 0 0, .slice none 0 0, .int .u64 0] 28)) = W0 at *
  refine (rfindP A kind key _ _ _ XA.out hF HP.out).mono ?_
  rintro e W1 ⟨rfl, hb⟩
  replace HB := Kept.mk (HB.out.trans (hb.mono HB.out.size))
  replace BA := Kept.mk (BA.out.keep hb)
  have hlr := BR.out.lt
  replace HG := Kept.mk ((hb.block (w.heap.size + 1) hlr).trans HG.out)
  replace BR := Kept.mk (BR.out.keep hb)
  clear hb XA ka0 ka1 ka2 hlr
  have kb1 := BA.out.cells.2 1 _ rfl
  rw [HEA.out] at kb1
  have ke0 : W1.cell? ⟨b, off + q * 9, none⟩ = _ := (HB.out.cell (p := ⟨b, off + q * 9 + 0, none⟩) hbl).trans (HEC.out 0 _ rfl)
  have ke1 : W1.cell? ⟨b, off + q * 9 + 1, none⟩ = _ := (HB.out.cell (p := ⟨b, off + q * 9 + 1, none⟩) hbl).trans (HEC.out 1 _ rfl)
  have ke2 : W1.cell? ⟨b, off + q * 9 + 2, none⟩ = _ := (HB.out.cell (p := ⟨b, off + q * 9 + 2, none⟩) hbl).trans (HEC.out 2 _ rfl)
  have ke3 : W1.cell? ⟨b, off + q * 9 + 3, none⟩ = _ := (HB.out.cell (p := ⟨b, off + q * 9 + 3, none⟩) hbl).trans (HEC.out 3 _ rfl)
  have ke4 : W1.cell? ⟨b, off + q * 9 + 4, none⟩ = _ := (HB.out.cell (p := ⟨b, off + q * 9 + 4, none⟩) hbl).trans (HEC.out 4 _ rfl)
  have ke5 : W1.cell? ⟨b, off + q * 9 + 5, none⟩ = _ := (HB.out.cell (p := ⟨b, off + q * 9 + 5, none⟩) hbl).trans (HEC.out 5 _ rfl)
  have ke6 : W1.cell? ⟨b, off + q * 9 + 6, none⟩ = _ := (HB.out.cell (p := ⟨b, off + q * 9 + 6, none⟩) hbl).trans (HEC.out 6 _ rfl)
  have ke7 : W1.cell? ⟨b, off + q * 9 + 7, none⟩ = _ := (HB.out.cell (p := ⟨b, off + q * 9 + 7, none⟩) hbl).trans (HEC.out 7 _ rfl)
  have ke8 : W1.cell? ⟨b, off + q * 9 + 8, none⟩ = _ := (HB.out.cell (p := ⟨b, off + q * 9 + 8, none⟩) hbl).trans (HEC.out 8 _ rfl)
  generalize A.slots.length = n at *
  obtain ⟨J1, J2, J3⟩ := vset3 E.val ep em (g := w.heap.size + 1) (B := w.heap.size) (by omega) HB.out BR.out.cells rfl (stable_cells _ _ _ _ HEP.out HB.out) (stable_cells _ _ _ _ HEM.out HB.out) (old_ne HEP.out (by omega)) (old_ne HEM.out (by omega))
  clear BA HG
  go_wp2_with (have hz0 := J3; refine wpList_storeN 28 rfl (.tmp 6) (.tmp 27) rfl (w.heap.size + 1) [.int .i64 E.val.kind, .int .i64 E.val.time, .int .i64 E.val.node, .bool E.val.dead, .string ⟨E.val.text.toArray⟩, ep, em, .int .u64 (E.val.flags.toNat : Int)] size_va rfl rfl BR.out.cells rfl BR.out.free J3.out ?_; clear hz0)
  exact bodyPost_ret (resultsN1 rfl _ _ (w.heap.size + 1) [.int .i64 E.val.kind, .int .i64 E.val.time, .int .i64 E.val.node, .bool E.val.dead, .string ⟨E.val.text.toArray⟩, ep, em, .int .u64 (E.val.flags.toNat : Int)] size_va agg_va rfl J2.out.1) rfl ⟨_, rfl, ⟨ep, em, rfl, J2.out.2.1, J2.out.2.2⟩, J1.out⟩
theorem rval_at (A : Ar) (kind : Int) (key : List UInt8) (V : Va) (v : Value) (w : World) (hv : isAr A v w) (hF : FitA A) (hk : leastE kind = 0) (hV : heldV A kind key = V) : Calls Tryz.prog 66 #[v, .int .i64 kind, .string ⟨key.toArray⟩] w fun e w' => ∃ v', e = .returned v' ∧ isVa V v' w' ∧ Below w.heap.size w w' := by
  cases hh : heldB A kind key with
  | true => exact rval_yes' A kind key V v w hv hF hh hV
  | false =>
    have h := rval_no' A kind key v w hv hF hk hh
    rwa [show leastF kind = V by rw [← hV]; unfold heldV; rw [if_neg (by unfold heldB at hh; exact of_decide_eq_false hh)]] at h
theorem dead_text {V : Va} (h : okV V = true) (hk : V.kind = 1) (hd : V.dead = true) : V.text = [] := by
  have := (ok_reg h hk).1
  unfold inReg at this
  simp only [Bool.and_eq_true, decide_eq_true_eq, Bool.or_eq_true, Bool.not_eq_true'] at this
  rcases this.2 with h2 | h2
  · rw [hd] at h2; cases h2
  · simpa using h2
theorem fld_va3 (a b c : Int) (d : Bool) (t : ByteArray) (p m : Value) (f : Int) (w : World) : (Instr.field 28 (.agg #[.int .i64 a, .int .i64 b, .int .i64 c, .bool d, .string t, p, m, .int .u64 f]) 3).run Tryz.prog w = .ok (.bool d) w := by
  simp [Instr.field, run_underlying Tryz.underlying28, asAgg, part]
theorem fld_va4 (a b c : Int) (d : Bool) (t : ByteArray) (p m : Value) (f : Int) (w : World) : (Instr.field 28 (.agg #[.int .i64 a, .int .i64 b, .int .i64 c, .bool d, .string t, p, m, .int .u64 f]) 4).run Tryz.prog w = .ok (.string t) w := by
  simp [Instr.field, run_underlying Tryz.underlying28, asAgg, part]
theorem fld_va7 (a b c : Int) (d : Bool) (t : ByteArray) (p m : Value) (f : Int) (w : World) : (Instr.field 28 (.agg #[.int .i64 a, .int .i64 b, .int .i64 c, .bool d, .string t, p, m, .int .u64 f]) 7).run Tryz.prog w = .ok (.int .u64 f) w := by
  simp [Instr.field, run_underlying Tryz.underlying28, asAgg, part]
theorem ok_fitV {V : Va} (h : okV V = true) : Fit V := by
  have : okE ⟨[0], V⟩ = true := by unfold okE; rw [h]; simp
  exact (ok_fit' this).val
set_option maxRecDepth 100000 in
set_option maxHeartbeats 2000000 in
theorem rtextD (A : Ar) (key : List UInt8) (v : Value) (w : World) (hv : isAr A v w) (hF : FitA A) : Calls Tryz.prog 30 #[v, .string ⟨key.toArray⟩] w fun e w' => e = .returned (.tuple #[.string ⟨(textT A key).toArray⟩, .bool (textB A key)]) ∧ Below w.heap.size w w' := by
  obtain ⟨pa, ma, rfl, hpa, hma⟩ := hv
  obtain ⟨hB, Va⟩ := abox w A pa ma hpa hma (w.heap.size) (by simp)
  clear hpa hma
  obtain ⟨p, hp⟩ : ∃ p, findI A (nameE 1 key) = p := ⟨_, rfl⟩
  have HP := Kept.mk hp
  obtain ⟨V, hV⟩ : ∃ V, heldV A 1 key = V := ⟨_, rfl⟩
  have HV := Kept.mk hV
  have hok := held_ok A (kind := 1) key (by decide)
  rw [hV] at hok
  have HOK := Kept.mk hok
  clear hV hok
  go_enter Tryz.func30, Tryz.ntmps30
  obtain ⟨qa, ra, xa, sa, ia, ka0, ka1, ka2⟩ := Va.out.open_
  have Xa := Kept.mk xa
  have Sa := Kept.mk sa
  have Ia := Kept.mk ia
  clear xa sa ia
  go_wp2_with fail
  ((with_reducible refine (rfindP A 1 key p _ _ Xa.out hF HP.out).mono ?_); rintro e W1 ⟨rfl, hb1⟩)
  clear Xa Sa Ia ka0 ka1 ka2
  replace hB := Kept.mk (hB.out.trans ((hb1).mono hB.out.size))
  replace Va := Kept.mk (Va.out.keep (hb1))
  clear hb1
  by_cases h0 : p < 0
  · have hd0 : decide (p < 0) = true := decide_eq_true h0
    have HBB := Kept.mk (show heldB A 1 key = false by unfold heldB; rw [hp]; exact decide_eq_false (by omega))
    clear hp
    go_wp2
    go_ret2
    exact ⟨by unfold textT textB; rw [HBB.out]; rfl, hB.out⟩
  · have HBB := Kept.mk (show heldB A 1 key = true by unfold heldB; rw [hp]; exact decide_eq_true (by omega))
    have hd0 : decide (p < 0) = false := decide_eq_false h0
    clear hp
    obtain ⟨qa, ra, xa, sa, ia, ka0, ka1, ka2⟩ := Va.out.open_
    have Xa := Kept.mk xa
    have Sa := Kept.mk sa
    have Ia := Kept.mk ia
    clear xa sa ia
    go_wp2_with fail
    ((with_reducible refine (rval_at A 1 key V _ _ Xa.out hF (by decide) HV.out).mono ?_); rintro e W2 ⟨v', rfl, ⟨p', m', rfl, hp', hm'⟩, hb1⟩)
    clear Xa Sa Ia ka0 ka1 ka2
    replace hB := Kept.mk (hB.out.trans ((hb1).mono hB.out.size))
    replace Va := Kept.mk (Va.out.keep (hb1))
    clear hb1
    cases hd : V.dead with
    | true =>
      have HD := Kept.mk hd
      clear hd hp' hm'
      have fl3 := fun W => fld_va3 V.kind V.time V.node true ⟨V.text.toArray⟩ p' m' (V.flags.toNat : Int) W
      go_wp2
      go_ret2
      exact ⟨by unfold textT textB; rw [HBB.out, HV.out, HD.out, dead_text HOK.out.1 HOK.out.2 HD.out]; rfl, hB.out⟩
    | false =>
      have HD := Kept.mk hd
      clear hp' hm' hd
      have fl3 := fun W => fld_va3 V.kind V.time V.node false ⟨V.text.toArray⟩ p' m' (V.flags.toNat : Int) W
      obtain ⟨qa, ra, xa, sa, ia, ka0, ka1, ka2⟩ := Va.out.open_
      have Xa := Kept.mk xa
      have Sa := Kept.mk sa
      have Ia := Kept.mk ia
      clear xa sa ia
      go_wp2_with fail
      clear fl3
      ((with_reducible refine (rval_at A 1 key V _ _ Xa.out hF (by decide) HV.out).mono ?_); rintro e W3 ⟨v', rfl, ⟨p', m', rfl, hp', hm'⟩, hb1⟩)
      clear Xa Sa Ia ka0 ka1 ka2
      replace hB := Kept.mk (hB.out.trans ((hb1).mono hB.out.size))
      replace Va := Kept.mk (Va.out.keep (hb1))
      clear hb1
      clear hp' hm'
      have fl4 := fun W => fld_va4 V.kind V.time V.node V.dead ⟨V.text.toArray⟩ p' m' (V.flags.toNat : Int) W
      go_wp2
      go_ret2
      exact ⟨by unfold textT textB; rw [HBB.out, HV.out, HD.out]; rfl, hB.out⟩
set_option maxRecDepth 100000 in
set_option maxHeartbeats 2000000 in
theorem rsumD (A : Ar) (key : List UInt8) (v : Value) (w : World) (hv : isAr A v w) (hF : FitA A) : Calls Tryz.prog 32 #[v, .string ⟨key.toArray⟩] w fun e w' => e = .returned (.tuple #[.int .i64 (sumT A key), .bool (heldB A 2 key)]) ∧ Below w.heap.size w w' := by
  obtain ⟨pa, ma, rfl, hpa, hma⟩ := hv
  obtain ⟨hB, Va⟩ := abox w A pa ma hpa hma (w.heap.size) (by simp)
  clear hpa hma
  obtain ⟨p, hp⟩ : ∃ p, findI A (nameE 2 key) = p := ⟨_, rfl⟩
  have HP := Kept.mk hp
  obtain ⟨V, hV⟩ : ∃ V, heldV A 2 key = V := ⟨_, rfl⟩
  have HV := Kept.mk hV
  have hok := held_ok A (kind := 2) key (by decide)
  rw [hV] at hok
  have HOK := Kept.mk hok
  clear hV hok
  go_enter Tryz.func32, Tryz.ntmps32
  obtain ⟨qa, ra, xa, sa, ia, ka0, ka1, ka2⟩ := Va.out.open_
  have Xa := Kept.mk xa
  have Sa := Kept.mk sa
  have Ia := Kept.mk ia
  clear xa sa ia
  go_wp2_with fail
  ((with_reducible refine (rfindP A 2 key p _ _ Xa.out hF HP.out).mono ?_); rintro e W1 ⟨rfl, hb1⟩)
  clear Xa Sa Ia ka0 ka1 ka2
  replace hB := Kept.mk (hB.out.trans ((hb1).mono hB.out.size))
  replace Va := Kept.mk (Va.out.keep (hb1))
  clear hb1
  by_cases h0 : p < 0
  · have hd0 : decide (p < 0) = true := decide_eq_true h0
    have HBB := Kept.mk (show heldB A 2 key = false by unfold heldB; rw [hp]; exact decide_eq_false (by omega))
    clear hp
    go_wp2
    go_ret2
    exact ⟨by unfold sumT; rw [HBB.out]; rfl, hB.out⟩
  · have HBB := Kept.mk (show heldB A 2 key = true by unfold heldB; rw [hp]; exact decide_eq_true (by omega))
    have hd0 : decide (p < 0) = false := decide_eq_false h0
    clear hp
    obtain ⟨qa, ra, xa, sa, ia, ka0, ka1, ka2⟩ := Va.out.open_
    have Xa := Kept.mk xa
    have Sa := Kept.mk sa
    have Ia := Kept.mk ia
    clear xa sa ia
    go_wp2_with fail
    ((with_reducible refine (rval_at A 2 key V _ _ Xa.out hF (by decide) HV.out).mono ?_); rintro e W2 ⟨v', rfl, ⟨p', m', rfl, hp', hm'⟩, hb1⟩)
    clear Xa Sa Ia ka0 ka1 ka2
    replace hB := Kept.mk (hB.out.trans ((hb1).mono hB.out.size))
    replace Va := Kept.mk (Va.out.keep (hb1))
    clear hb1
    have XV := Kept.mk (show isVa V (.agg #[.int .i64 V.kind, .int .i64 V.time, .int .i64 V.node, .bool V.dead, .string ⟨V.text.toArray⟩, p', m', .int .u64 (V.flags.toNat : Int)]) W2 from ⟨p', m', rfl, hp', hm'⟩)
    clear hp' hm'
    have hfv := ok_fitV HOK.out.1
    obtain ⟨s, hs⟩ : ∃ s, sumN V = s := ⟨_, rfl⟩
    have HS := Kept.mk (fun v w hv => by have h := rsum_any V v w hv hfv; rw [hs] at h; exact h)
    have HSS := Kept.mk hs
    clear hs
    go_wp2_with fail
    refine (HS.out _ _ XV.out).mono ?_
    rintro e W9 ⟨rfl, hb⟩
    replace hB := Kept.mk (hB.out.trans (hb.mono hB.out.size))
    clear hb XV
    go_wp2
    go_ret2
    exact ⟨by unfold sumT; rw [HBB.out, HV.out, ← HSS.out]; rfl, hB.out⟩
set_option maxRecDepth 100000 in
set_option maxHeartbeats 2000000 in
theorem rflagsD (A : Ar) (key : List UInt8) (v : Value) (w : World) (hv : isAr A v w) (hF : FitA A) : Calls Tryz.prog 34 #[v, .string ⟨key.toArray⟩] w fun e w' => e = .returned (.tuple #[.int .u64 ((flagT A key).toNat : Int), .bool (heldB A 3 key)]) ∧ Below w.heap.size w w' := by
  obtain ⟨pa, ma, rfl, hpa, hma⟩ := hv
  obtain ⟨hB, Va⟩ := abox w A pa ma hpa hma (w.heap.size) (by simp)
  clear hpa hma
  obtain ⟨p, hp⟩ : ∃ p, findI A (nameE 3 key) = p := ⟨_, rfl⟩
  have HP := Kept.mk hp
  obtain ⟨V, hV⟩ : ∃ V, heldV A 3 key = V := ⟨_, rfl⟩
  have HV := Kept.mk hV
  have hok := held_ok A (kind := 3) key (by decide)
  rw [hV] at hok
  have HOK := Kept.mk hok
  clear hV hok
  go_enter Tryz.func34, Tryz.ntmps34
  obtain ⟨qa, ra, xa, sa, ia, ka0, ka1, ka2⟩ := Va.out.open_
  have Xa := Kept.mk xa
  have Sa := Kept.mk sa
  have Ia := Kept.mk ia
  clear xa sa ia
  go_wp2_with fail
  ((with_reducible refine (rfindP A 3 key p _ _ Xa.out hF HP.out).mono ?_); rintro e W1 ⟨rfl, hb1⟩)
  clear Xa Sa Ia ka0 ka1 ka2
  replace hB := Kept.mk (hB.out.trans ((hb1).mono hB.out.size))
  replace Va := Kept.mk (Va.out.keep (hb1))
  clear hb1
  by_cases h0 : p < 0
  · have hd0 : decide (p < 0) = true := decide_eq_true h0
    have HBB := Kept.mk (show heldB A 3 key = false by unfold heldB; rw [hp]; exact decide_eq_false (by omega))
    clear hp
    go_wp2
    go_ret2
    exact ⟨by unfold flagT; rw [HBB.out]; rfl, hB.out⟩
  · have HBB := Kept.mk (show heldB A 3 key = true by unfold heldB; rw [hp]; exact decide_eq_true (by omega))
    have hd0 : decide (p < 0) = false := decide_eq_false h0
    clear hp
    obtain ⟨qa, ra, xa, sa, ia, ka0, ka1, ka2⟩ := Va.out.open_
    have Xa := Kept.mk xa
    have Sa := Kept.mk sa
    have Ia := Kept.mk ia
    clear xa sa ia
    go_wp2_with fail
    ((with_reducible refine (rval_at A 3 key V _ _ Xa.out hF (by decide) HV.out).mono ?_); rintro e W2 ⟨v', rfl, ⟨p', m', rfl, hp', hm'⟩, hb1⟩)
    clear Xa Sa Ia ka0 ka1 ka2
    replace hB := Kept.mk (hB.out.trans ((hb1).mono hB.out.size))
    replace Va := Kept.mk (Va.out.keep (hb1))
    clear hb1
    clear hp' hm'
    have fl7 := fun W => fld_va7 V.kind V.time V.node V.dead ⟨V.text.toArray⟩ p' m' (V.flags.toNat : Int) W
    go_wp2
    go_ret2
    exact ⟨by unfold flagT; rw [HBB.out, HV.out]; rfl, hB.out⟩
end Go.Proofs.YtbgconagkgfplaaGreat
end
section
namespace Go.Proofs.YtbgconagkgfplaaGreat
open Go.RowKit Go.Shelf
set_option linter.unusedVariables false
set_option linter.unusedSimpArgs false
attribute [local irreducible] setN

def keepB (e : En) : Bool := !e.val.dead
theorem scan_keep (A : Ar) : scanA A = (allA A).filter keepB := rfl
theorem take_keep {L : List En} {k : Nat} {E : En} (h : L[k]? = some E) : (L.take (k + 1)).filter keepB = (L.take k).filter keepB ++ (if E.val.dead = true then [] else [E]) := by
  rw [List.take_add_one, h, List.filter_append]
  congr 1
  unfold keepB
  cases hd : E.val.dead <;> simp [hd]
set_option maxRecDepth 100000 in
set_option maxHeartbeats 2000000 in
theorem rscanD (A : Ar) (v : Value) (w : World) (hv : isAr A v w) (hF : FitA A) : Calls Tryz.prog 37 #[v] w fun e w' => ∃ v', e = .returned v' ∧ isEns (scanA A) v' w' ∧ Below w.heap.size w w' := by
  obtain ⟨pa, ma, rfl, hpa, hma⟩ := hv
  obtain ⟨hB, Va⟩ := abox w A pa ma hpa hma (w.heap.size) (by simp)
  clear hpa hma
  obtain ⟨L, hL⟩ : ∃ L, allA A = L := ⟨_, rfl⟩
  have hl9 := all_len hF
  rw [hL] at hl9
  rw [scan_keep, hL]
  have HALL := Kept.mk (fun (v : Value) (w : World) hv => by have h := rallA_post A v w hv hF; rw [hL] at h; exact h)
  clear hL
  go_enter Tryz.func37, Tryz.ntmps37
  obtain ⟨qa, ra, xa, sa, ia, ka0, ka1, ka2⟩ := Va.out.open_
  have Xa := Kept.mk xa
  have Sa := Kept.mk sa
  have Ia := Kept.mk ia
  clear xa sa ia
  go_wp2_with fail
  ((with_reducible refine (HALL.out _ _ Xa.out).mono ?_); rintro e W1 ⟨v', rfl, hl, hb1⟩)
  clear Xa Sa Ia ka0 ka1 ka2
  replace hB := Kept.mk (hB.out.trans ((hb1).mono hB.out.size))
  replace Va := Kept.mk (Va.out.keep (hb1))
  obtain ⟨lx, lc, el⟩ := hl.len
  subst el
  have SL := Kept.mk hl
  generalize hn : L.length = n at *
  have HN := Kept.mk hn
  clear hb1 hl hn
  go_wp2
  go_loopw [3, 5] (fun o i wr => ∃ (k : Nat) (ps : RowE), k ≤ n ∧ i = .int .i64 (k : Int) ∧ Kept (OutV W1.heap.size o ps wr) ∧ Kept (ps.map (·.1) = (L.take k).filter keepB) ∧ Kept (Below W1.heap.size W1 wr)) (fun _ i _ => n - (intOf i).toNat)
  case atStart => exact ⟨0, [], Nat.zero_le _, rfl, ⟨outV_nil _ _⟩, ⟨rfl⟩, ⟨Below.refl _ _⟩⟩
  case round =>
    obtain ⟨k, ps, hk, rfl, OV, HPS, BZ⟩ := hrel
    have hpl : ps.length ≤ 1000 := by have := congrArg List.length HPS.out; rw [List.length_map] at this; rw [this]; exact Nat.le_trans (List.length_filter_le _ _) (by rw [List.length_take]; omega)
    by_cases hlt : k < n
    · skip
      have hlt' : (k : Int) < (n : Int) := by omega
      have hpk : ps.length ≤ k := by have := congrArg List.length HPS.out; rw [List.length_map] at this; rw [this]; exact Nat.le_trans (List.length_filter_le _ _) (by rw [List.length_take]; omega)
      obtain ⟨E, hE⟩ : ∃ E, L[k]? = some E := ⟨_, List.getElem?_eq_getElem (by rw [HN.out]; exact hlt)⟩
      obtain ⟨b, off, cap, ev, hbl, vp, vm, hc, hp, hm⟩ := SL.out.get hE
      rw [HN.out] at ev
      injection ev with ev1 ev2 ev3
      subst ev1 ev3
      clear ev2
      have HTK := Kept.mk (take_keep hE)
      have HC := Kept.mk hc
      have HP := Kept.mk hp
      have HM := Kept.mk hm
      clear hE hc hp hm
      have k0 : wr.cell? ⟨b, off + k * 9, none⟩ = _ := (BZ.out.cell (p := ⟨b, off + k * 9 + 0, none⟩) hbl).trans (HC.out 0 _ rfl)
      have k1 : wr.cell? ⟨b, off + k * 9 + 1, none⟩ = _ := (BZ.out.cell (p := ⟨b, off + k * 9 + 1, none⟩) hbl).trans (HC.out 1 _ rfl)
      have k2 : wr.cell? ⟨b, off + k * 9 + 2, none⟩ = _ := (BZ.out.cell (p := ⟨b, off + k * 9 + 2, none⟩) hbl).trans (HC.out 2 _ rfl)
      have k3 : wr.cell? ⟨b, off + k * 9 + 3, none⟩ = _ := (BZ.out.cell (p := ⟨b, off + k * 9 + 3, none⟩) hbl).trans (HC.out 3 _ rfl)
      have k4 : wr.cell? ⟨b, off + k * 9 + 4, none⟩ = _ := (BZ.out.cell (p := ⟨b, off + k * 9 + 4, none⟩) hbl).trans (HC.out 4 _ rfl)
      have k5 : wr.cell? ⟨b, off + k * 9 + 5, none⟩ = _ := (BZ.out.cell (p := ⟨b, off + k * 9 + 5, none⟩) hbl).trans (HC.out 5 _ rfl)
      have k6 : wr.cell? ⟨b, off + k * 9 + 6, none⟩ = _ := (BZ.out.cell (p := ⟨b, off + k * 9 + 6, none⟩) hbl).trans (HC.out 6 _ rfl)
      have k7 : wr.cell? ⟨b, off + k * 9 + 7, none⟩ = _ := (BZ.out.cell (p := ⟨b, off + k * 9 + 7, none⟩) hbl).trans (HC.out 7 _ rfl)
      have k8 : wr.cell? ⟨b, off + k * 9 + 8, none⟩ = _ := (BZ.out.cell (p := ⟨b, off + k * 9 + 8, none⟩) hbl).trans (HC.out 8 _ rfl)
      obtain ⟨z, hz⟩ : ∃ z, E.val.dead = z := ⟨_, rfl⟩
      rw [hz] at HTK
      have k4' : wr.cell? ⟨b, off + k * 9 + 1 + 3, none⟩ = some (.bool z) := by rw [show off + k * 9 + 1 + 3 = off + k * 9 + 4 by omega, ← hz]; exact k4
      have k4z : wr.cell? ⟨b, off + k * 9 + 4, none⟩ = some (.bool z) := by rw [← hz]; exact k4
      have HZ := Kept.mk hz
      clear k4 hz
      cases z with
      | true =>
        clear k0 k1 k2 k3 k5 k6 k7 k8
        go_wp2
        go_roundw
        case rel => exact ⟨k + 1, ps, by omega, by go_num, OV, ⟨by rw [HTK.out, HPS.out]; simp⟩, BZ⟩
        case measure => simp [intOf]; omega
      | false =>
        have OV1 := Kept.mk (OV.out.keep (lit_below wr (.cells #[.string ⟨E.key.toArray⟩, .int .i64 E.val.kind, .int .i64 E.val.time, .int .i64 E.val.node, .bool E.val.dead, .string ⟨E.val.text.toArray⟩, vp, vm, .int .u64 (E.val.flags.toNat : Int)] 30)))
        have BZ1 := Kept.mk (BZ.out.trans ((lit_below wr (.cells #[.string ⟨E.key.toArray⟩, .int .i64 E.val.kind, .int .i64 E.val.time, .int .i64 E.val.node, .bool E.val.dead, .string ⟨E.val.text.toArray⟩, vp, vm, .int .u64 (E.val.flags.toNat : Int)] 30)).mono BZ.out.size))
        have SRC := Kept.mk (src_oneE E vp vm wr)
        have ROW := Kept.mk (show RowsOk [(E, vp, vm)] W1 from fun q hq => by rw [List.mem_singleton] at hq; subst hq; exact ⟨HP.out, HM.out⟩)
        have ROW1 := Kept.mk (show RowsOk [(E, vp, vm)] (wr.alloc (.cells #[.string ⟨E.key.toArray⟩, .int .i64 E.val.kind, .int .i64 E.val.time, .int .i64 E.val.node, .bool E.val.dead, .string ⟨E.val.text.toArray⟩, vp, vm, .int .u64 (E.val.flags.toNat : Int)] 30)) from fun q hq => ⟨stable_cells _ _ _ _ (ROW.out q hq).1 BZ1.out, stable_cells _ _ _ _ (ROW.out q hq).2 BZ1.out⟩)
        have HOF := Kept.mk (show ∀ q ∈ [(E, vp, vm)], ∀ b, u3.ownBlock = some b → OffQ b q from fun q hq b hbo => off_old ROW.out (OV.out.own.lt b hbo).1 q hq)
        have hp2 : ps.length + [(E, vp, vm)].length ≤ 1000 := (by simp; omega)
        have HPK := Kept.mk hp2
        clear hp2
        have kd0 : E.val.dead = false := HZ.out
        clear kd0
        have eAL : (.cells #[.string ⟨E.key.toArray⟩, .int .i64 E.val.kind, .int .i64 E.val.time, .int .i64 E.val.node, .bool false, .string ⟨E.val.text.toArray⟩, vp, vm, .int .u64 (E.val.flags.toNat : Int)] 30 : Obj) = (.cells #[.string ⟨E.key.toArray⟩, .int .i64 E.val.kind, .int .i64 E.val.time, .int .i64 E.val.node, .bool E.val.dead, .string ⟨E.val.text.toArray⟩, vp, vm, .int .u64 (E.val.flags.toNat : Int)] 30) := by rw [HZ.out]
        go_wp2_with (at_builtin; go_loud (refine wpList_append_ens rfl (.tmp 21) (.tmp 26) rfl W1.heap.size u3 ps rfl OV1.out _ [(E, vp, vm)] rfl SRC.out ROW1.out HOF.out HPK.out BZ1.out.size ?_; intro v3 W5 ho3 hg3; have OV3 := Kept.mk ho3; have BZ3 := Kept.mk (grown_below OV1.out hg3 BZ1.out (Nat.le_refl _)); clear ho3 hg3 k0 k1 k2 k3 k5 k6 k7 k8))
        go_roundw
        case rel => exact ⟨k + 1, ps ++ [(E, vp, vm)], by omega, by go_num, OV3, ⟨by rw [HTK.out, List.map_append, HPS.out]; simp⟩, BZ3⟩
        case measure => simp [intOf]; omega
    · skip
      obtain rfl : k = n := by omega
      have hlt' : ¬ (k : Int) < (k : Int) := by omega
      have HEQ := Kept.mk (show ps.map (·.1) = L.filter keepB by rw [HPS.out, List.take_of_length_le (by rw [HN.out]; exact Nat.le_refl _)])
      have hB9 := hB.out.trans (BZ.out.mono hB.out.size)
      have HEN := Kept.mk (show isEns (L.filter keepB) u3 wr by rw [← HEQ.out]; exact OV.out.ens)
      obtain ⟨ox, oc, hov⟩ := OV.out.len
      subst hov
      go_wp2
      go_ret
      exact ⟨_, rfl, HEN.out, hB9⟩
end Go.Proofs.YtbgconagkgfplaaGreat
end
