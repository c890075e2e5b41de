/- The document's Below, Least, Sum. -/
import Derived.Test.YtnjlefciekcehaaVaRef3
import Derived.Test.YtnjlefciekcehaaVaSumMath
namespace Go.Proofs.Ytnjlefciekcehaa
open Go.RowKit
set_option linter.unusedVariables false
set_option linter.unusedSimpArgs false
attribute [local irreducible] setN

set_option maxRecDepth 20000 in
set_option maxHeartbeats 2000000 in
theorem rbelow_no (A B : Va) (v u : Value) (w : World) (hv : isVa A v w) (hu : isVa B u w) (hA : Fit A) (hC : Fit B) (he : (joinE A B == 0) = false) :
    Calls Try.prog 18 #[v, u] w fun e w' => e = .returned (.bool (belowB A B)) ∧ Below w.heap.size w w' := by
  have hv0 := hv
  have hu0 := hu
  obtain ⟨pa, ma, rfl, hpa, hma⟩ := hv
  obtain ⟨pb, mb, rfl, hpb, hmb⟩ := hu
  obtain ⟨hB, Va⟩ := vbox w A pa ma hpa hma (w.heap.size) (by simp)
  obtain ⟨hBn, Vb⟩ := vbox (w.alloc (.cells #[.int .i64 A.kind, .int .i64 A.time, .int .i64 A.node, .bool A.dead, .string ⟨A.text.toArray⟩, pa, ma, .int .u64 (A.flags.toNat : Int)] 25)) B pb mb (stable_cells _ _ _ _ hpb hB.out) (stable_cells _ _ _ _ hmb hB.out) (w.heap.size + 1) (by simp)
  replace Va := Kept.mk (Va.out.keep hBn.out)
  replace hB := Kept.mk (hB.out.trans (hBn.out.mono hB.out.size))
  clear hBn
  clear hpa hma hpb hmb
  have HS := Kept.mk (show belowB A B = ((joinE A B == 0) && decide (B = joinF A B)) by unfold belowB; rw [show decide (B = joinF A B) = decide (joinF A B = B) by rw [decide_eq_decide]; exact ⟨Eq.symm, Eq.symm⟩]; cases h : (joinE A B == 0) <;> simp at h <;> simp [h])
  rw [he] at HS
  have HA := Kept.mk (va_grow hv0 hB.out)
  have HU := Kept.mk (va_grow hu0 hB.out)
  clear hv0 hu0
  go_enter Try.func18, Try.ntmps18
  go_wp2_with fail
  generalize (w.alloc (.cells #[.int .i64 A.kind, .int .i64 A.time, .int .i64 A.node, .bool A.dead, .string ⟨A.text.toArray⟩, pa, ma, .int .u64 (A.flags.toNat : Int)] 25)).alloc (.cells #[.int .i64 B.kind, .int .i64 B.time, .int .i64 B.node, .bool B.dead, .string ⟨B.text.toArray⟩, pb, mb, .int .u64 (B.flags.toNat : Int)] 25) = W0 at *
  ((with_reducible refine (rjoin_any A B _ _ _ HA.out HU.out hA hC).mono ?_); rintro e U ⟨v', rfl, ⟨p', m', rfl, hp', hm'⟩, hb1⟩)
  obtain ⟨K1, K2, K3, K4, K5⟩ := vnew U (joinF A B) p' m' hp' hm' U.heap.size rfl
  clear hp' hm'
  replace hB := Kept.mk (hB.out.trans ((hb1).mono hB.out.size))
  replace Va := Kept.mk (Va.out.keep (hb1))
  replace Vb := Kept.mk (Vb.out.keep (hb1))
  clear hb1
  go_wp2_with (have hz0 := K1; refine wpList_storeN 25 rfl (.tmp 5) (.tmp 11) rfl U.heap.size [.int .i64 (joinF A B).kind, .int .i64 (joinF A B).time, .int .i64 (joinF A B).node, .bool (joinF A B).dead, .string ⟨(joinF A B).text.toArray⟩, p', m', .int .u64 ((joinF A B).flags.toNat : Int)] size_va rfl rfl K1.out rfl K2.out K5.out ?_; replace hB := Kept.mk (hB.out.trans ((K3.out).mono hB.out.size)); replace Va := Kept.mk (Va.out.keep (K3.out)); replace Vb := Kept.mk (Vb.out.keep (K3.out)); have Vj := Kept.mk K4.out.var; clear hz0 K1 K2 K3 K4 K5; generalize setN (U.alloc (.cells #[.int .i64 0, .int .i64 0, .int .i64 0, .bool false, .string ⟨#[]⟩, .slice none 0 0, .slice none 0 0, .int .u64 0] 25)) U.heap.size 0 [.int .i64 (joinF A B).kind, .int .i64 (joinF A B).time, .int .i64 (joinF A B).node, .bool (joinF A B).dead, .string ⟨(joinF A B).text.toArray⟩, p', m', .int .u64 ((joinF A B).flags.toNat : Int)] = W1 at *; generalize U.heap.size = gj at *)
  go_ret
  exact ⟨by rw [HS.out]; rfl, hB.out⟩
set_option maxRecDepth 20000 in
set_option maxHeartbeats 2000000 in
theorem rbelow_yes (A B : Va) (v u : Value) (w : World) (hv : isVa A v w) (hu : isVa B u w) (hA : Fit A) (hC : Fit B) (he : (joinE A B == 0) = true) :
    Calls Try.prog 18 #[v, u] w fun e w' => e = .returned (.bool (belowB A B)) ∧ Below w.heap.size w w' := by
  have hv0 := hv
  have hu0 := hu
  obtain ⟨pa, ma, rfl, hpa, hma⟩ := hv
  obtain ⟨pb, mb, rfl, hpb, hmb⟩ := hu
  obtain ⟨hB, Va⟩ := vbox w A pa ma hpa hma (w.heap.size) (by simp)
  obtain ⟨hBn, Vb⟩ := vbox (w.alloc (.cells #[.int .i64 A.kind, .int .i64 A.time, .int .i64 A.node, .bool A.dead, .string ⟨A.text.toArray⟩, pa, ma, .int .u64 (A.flags.toNat : Int)] 25)) B pb mb (stable_cells _ _ _ _ hpb hB.out) (stable_cells _ _ _ _ hmb hB.out) (w.heap.size + 1) (by simp)
  replace Va := Kept.mk (Va.out.keep hBn.out)
  replace hB := Kept.mk (hB.out.trans (hBn.out.mono hB.out.size))
  clear hBn
  clear hpa hma hpb hmb
  have HS := Kept.mk (show belowB A B = ((joinE A B == 0) && decide (B = joinF A B)) by unfold belowB; rw [show decide (B = joinF A B) = decide (joinF A B = B) by rw [decide_eq_decide]; exact ⟨Eq.symm, Eq.symm⟩]; cases h : (joinE A B == 0) <;> simp at h <;> simp [h])
  rw [he] at HS
  have HA := Kept.mk (va_grow hv0 hB.out)
  have HU := Kept.mk (va_grow hu0 hB.out)
  clear hv0 hu0
  go_enter Try.func18, Try.ntmps18
  go_wp2_with fail
  generalize (w.alloc (.cells #[.int .i64 A.kind, .int .i64 A.time, .int .i64 A.node, .bool A.dead, .string ⟨A.text.toArray⟩, pa, ma, .int .u64 (A.flags.toNat : Int)] 25)).alloc (.cells #[.int .i64 B.kind, .int .i64 B.time, .int .i64 B.node, .bool B.dead, .string ⟨B.text.toArray⟩, pb, mb, .int .u64 (B.flags.toNat : Int)] 25) = W0 at *
  ((with_reducible refine (rjoin_any A B _ _ _ HA.out HU.out hA hC).mono ?_); rintro e U ⟨v', rfl, ⟨p', m', rfl, hp', hm'⟩, hb1⟩)
  obtain ⟨K1, K2, K3, K4, K5⟩ := vnew U (joinF A B) p' m' hp' hm' U.heap.size rfl
  clear hp' hm'
  replace hB := Kept.mk (hB.out.trans ((hb1).mono hB.out.size))
  replace Va := Kept.mk (Va.out.keep (hb1))
  replace Vb := Kept.mk (Vb.out.keep (hb1))
  clear hb1
  go_wp2_with (have hz0 := K1; refine wpList_storeN 25 rfl (.tmp 5) (.tmp 11) rfl U.heap.size [.int .i64 (joinF A B).kind, .int .i64 (joinF A B).time, .int .i64 (joinF A B).node, .bool (joinF A B).dead, .string ⟨(joinF A B).text.toArray⟩, p', m', .int .u64 ((joinF A B).flags.toNat : Int)] size_va rfl rfl K1.out rfl K2.out K5.out ?_; replace hB := Kept.mk (hB.out.trans ((K3.out).mono hB.out.size)); replace Va := Kept.mk (Va.out.keep (K3.out)); replace Vb := Kept.mk (Vb.out.keep (K3.out)); have Vj := Kept.mk K4.out.var; clear hz0 K1 K2 K3 K4 K5; generalize setN (U.alloc (.cells #[.int .i64 0, .int .i64 0, .int .i64 0, .bool false, .string ⟨#[]⟩, .slice none 0 0, .slice none 0 0, .int .u64 0] 25)) U.heap.size 0 [.int .i64 (joinF A B).kind, .int .i64 (joinF A B).time, .int .i64 (joinF A B).node, .bool (joinF A B).dead, .string ⟨(joinF A B).text.toArray⟩, p', m', .int .u64 ((joinF A B).flags.toNat : Int)] = W1 at *; generalize U.heap.size = gj at *; obtain ⟨qj, rj, xj, -, -, kj0, kj1, kj2, kj3, kj4, kj5, kj6, kj7⟩ := Vj.out.open_; have Xj := Kept.mk xj; clear xj; obtain ⟨qb, rb, xb, -, -, kb0, kb1, kb2, kb3, kb4, kb5, kb6, kb7⟩ := Vb.out.open_; have Xb := Kept.mk xb; clear xb)
  ((with_reducible refine (rsame_any B (joinF A B) _ _ _ Xb.out Xj.out hC (fit_join hA hC)).mono ?_); rintro e W2 ⟨rfl, hb1⟩)
  clear Xj kj0 kj1 kj2 kj3 kj4 kj5 kj6 kj7
  clear Xb kb0 kb1 kb2 kb3 kb4 kb5 kb6 kb7
  replace hB := Kept.mk (hB.out.trans ((hb1).mono hB.out.size))
  replace Va := Kept.mk (Va.out.keep (hb1))
  replace Vb := Kept.mk (Vb.out.keep (hb1))
  replace Vj := Kept.mk (Vj.out.keep (hb1))
  clear hb1
  obtain ⟨z, hz⟩ : ∃ z, z = decide (B = joinF A B) := ⟨_, rfl⟩
  rw [← hz] at HS ⊢
  clear hz
  go_wp2
  go_ret
  exact ⟨by rw [HS.out]; rfl, hB.out⟩
theorem rbelow_any (A B : Va) (v u : Value) (w : World) (hv : isVa A v w) (hu : isVa B u w) (hA : Fit A) (hC : Fit B) :
    Calls Try.prog 18 #[v, u] w fun e w' => e = .returned (.bool (belowB A B)) ∧ Below w.heap.size w w' := by
  cases h : (joinE A B == 0) with
  | false => exact rbelow_no A B v u w hv hu hA hC h
  | true => exact rbelow_yes A B v u w hv hu hA hC h
theorem row8 {l : List Int} {v : Value} {w : World} (h : isCells (l.map intC) v w) (hl : l.length = 8) : ∃ b off cap, v = .slice (some ⟨b, off, none⟩) 8 cap ∧ b < w.heap.size ∧ ∀ j, j < 8 → w.cell? ⟨b, off + j, none⟩ = some (.int .i64 (l.getD j 0)) := by
  obtain ⟨b, off, cap, e, h1, h2⟩ := h.some_ (by rw [List.length_map]; omega)
  rw [List.length_map, hl] at e
  refine ⟨b, off, cap, e, h1, fun j hj => ?_⟩
  rw [h2 j _ (get_map intC l j (by omega))]
  simp [intC, List.getD_eq_getElem?_getD, show j < l.length by omega]
theorem getD_all (l : List Int) (h : l.all okNum = true) (j : Nat) : 0 ≤ l.getD j 0 ∧ l.getD j 0 ≤ 65535 := by
  by_cases hj : j < l.length
  · have := List.all_eq_true.1 h l[j] (List.getElem_mem hj)
    unfold okNum at this
    simp only [Bool.and_eq_true, decide_eq_true_eq] at this
    simpa [List.getD_eq_getElem?_getD, hj] using this
  · simp [List.getD_eq_getElem?_getD, hj]
theorem sum_getD (l : List Int) (hl : l.length = 8) : sumTo (fun j => l.getD j 0) 8 = l.sum := by
  rw [← sum_range]
  congr 1
  apply List.ext_getElem?
  intro j
  by_cases hj : j < 8
  · rw [List.getElem?_map, List.getElem?_range hj, List.getElem?_eq_getElem (by omega)]
    simp [List.getD_eq_getElem?_getD, show j < l.length by omega]
  · rw [List.getElem?_eq_none (by simp; omega), List.getElem?_eq_none (by omega)]
theorem sum_between (f g : Nat → Int) (hf : ∀ j, 0 ≤ f j ∧ f j ≤ 65535) (hg : ∀ j, 0 ≤ g j ∧ g j ≤ 65535) (k : Nat) : -(65535 * (k : Int)) ≤ sumTo (fun j => f j - g j) k ∧ sumTo (fun j => f j - g j) k ≤ 65535 * (k : Int) := by
  rw [sumTo_sub]
  have := sumTo_bound f hf k
  have := sumTo_bound g hg k
  omega
set_option maxRecDepth 20000 in
set_option maxHeartbeats 2000000 in
theorem rsum_no1 (A : Va) (v : Value) (w : World) (hv : isVa A v w) (hF : Fit A) (h : okV A = false) :
    Calls Try.prog 19 #[v] w fun e w' => e = .returned (.int .i64 0) ∧ Below w.heap.size w w' := by
  obtain ⟨vp, vm, rfl, hp, hm⟩ := hv
  obtain ⟨hB, hV⟩ := vbox w A vp vm hp hm w.heap.size rfl
  have HXa := Kept.mk (show isVa A (.agg #[.int .i64 A.kind, .int .i64 A.time, .int .i64 A.node, .bool A.dead, .string ⟨A.text.toArray⟩, vp, vm, .int .u64 (A.flags.toNat : Int)]) (w.alloc (.cells #[.int .i64 A.kind, .int .i64 A.time, .int .i64 A.node, .bool A.dead, .string ⟨A.text.toArray⟩, vp, vm, .int .u64 (A.flags.toNat : Int)] 25)) from va_mk (cells_up hp hB.out) (cells_up hm hB.out))
  have HO := Kept.mk h
  clear hp hm h
  go_enter Try.func19, Try.ntmps19
  go_wp2_with fail
  ((with_reducible refine (rcheck_any A _ _ HXa.out hF).mono ?_); rintro e w1 ⟨rfl, hb1⟩)
  rewrite [HO.out]
  obtain ⟨q, r, -, -, -, k0, k1, k2, k3, k4, k5, k6, k7⟩ := (hV.out.keep hb1).open_
  replace hB := Kept.mk (hB.out.trans (hb1.mono hB.out.size))
  clear hb1 hV HXa
  go_wp2
  all_goals go_ret
  all_goals exact ⟨rfl, hB.out⟩
set_option maxRecDepth 20000 in
set_option maxHeartbeats 2000000 in
theorem rsum_no2 (A : Va) (v : Value) (w : World) (hv : isVa A v w) (hF : Fit A) (h : okV A = true) (h2 : A.kind ≠ 2) :
    Calls Try.prog 19 #[v] w fun e w' => e = .returned (.int .i64 0) ∧ Below w.heap.size w w' := by
  obtain ⟨vp, vm, rfl, hp, hm⟩ := hv
  obtain ⟨hB, hV⟩ := vbox w A vp vm hp hm w.heap.size rfl
  have HXa := Kept.mk (show isVa A (.agg #[.int .i64 A.kind, .int .i64 A.time, .int .i64 A.node, .bool A.dead, .string ⟨A.text.toArray⟩, vp, vm, .int .u64 (A.flags.toNat : Int)]) (w.alloc (.cells #[.int .i64 A.kind, .int .i64 A.time, .int .i64 A.node, .bool A.dead, .string ⟨A.text.toArray⟩, vp, vm, .int .u64 (A.flags.toNat : Int)] 25)) from va_mk (cells_up hp hB.out) (cells_up hm hB.out))
  have HO := Kept.mk h
  clear hp hm h
  go_enter Try.func19, Try.ntmps19
  go_wp2_with fail
  ((with_reducible refine (rcheck_any A _ _ HXa.out hF).mono ?_); rintro e w1 ⟨rfl, hb1⟩)
  rewrite [HO.out]
  obtain ⟨q, r, -, -, -, k0, k1, k2, k3, k4, k5, k6, k7⟩ := (hV.out.keep hb1).open_
  replace hB := Kept.mk (hB.out.trans (hb1.mono hB.out.size))
  clear hb1 hV HXa
  go_wp2
  all_goals go_ret
  all_goals exact ⟨rfl, hB.out⟩
set_option maxRecDepth 20000 in
set_option maxHeartbeats 2000000 in
theorem rsum_yes (A : Va) (v : Value) (w : World) (hv : isVa A v w) (hF : Fit A) (h : okV A = true) (h2 : A.kind = 2) (n1 : A.plus.length = 8) (n2 : A.minus.length = 8) (q1 : A.plus.all okNum = true) (q2 : A.minus.all okNum = true) :
    Calls Try.prog 19 #[v] w fun e w' => e = .returned (.int .i64 (A.plus.sum - A.minus.sum)) ∧ Below w.heap.size w w' := by
  obtain ⟨vp, vm, rfl, hp, hm⟩ := hv
  obtain ⟨hB, hV⟩ := vbox w A vp vm hp hm w.heap.size rfl
  have HXa := Kept.mk (show isVa A (.agg #[.int .i64 A.kind, .int .i64 A.time, .int .i64 A.node, .bool A.dead, .string ⟨A.text.toArray⟩, vp, vm, .int .u64 (A.flags.toNat : Int)]) (w.alloc (.cells #[.int .i64 A.kind, .int .i64 A.time, .int .i64 A.node, .bool A.dead, .string ⟨A.text.toArray⟩, vp, vm, .int .u64 (A.flags.toNat : Int)] 25)) from va_mk (cells_up hp hB.out) (cells_up hm hB.out))
  obtain ⟨b1, o1, c1, rfl, l1, t1⟩ := row8 hp n1
  obtain ⟨b2, o2, c2, rfl, l2, t2⟩ := row8 hm n2
  have HC := Kept.mk (cellsN_at w 25 [.int .i64 A.kind, .int .i64 A.time, .int .i64 A.node, .bool A.dead, .string ⟨A.text.toArray⟩, .slice (some ⟨b1, o1, none⟩) 8 c1, .slice (some ⟨b2, o2, none⟩) 8 c2, .int .u64 (A.flags.toNat : Int)] w.heap.size rfl)
  have T1 := Kept.mk t1
  have T2 := Kept.mk t2
  have HO := Kept.mk h
  have kk : (A.kind == 2) = true := by simpa using h2
  have kk2 : (A.kind != 2) = false := by simpa using h2
  have H2 := Kept.mk h2
  have G1 := Kept.mk (getD_all A.plus q1)
  have G2 := Kept.mk (getD_all A.minus q2)
  have HE := Kept.mk (show sumTo (fun j => A.plus.getD j 0 - A.minus.getD j 0) 8 = A.plus.sum - A.minus.sum by rw [sumTo_sub, sum_getD _ n1, sum_getD _ n2])
  clear hp hm h t1 t2 q1 q2 hV h2
  go_enter Try.func19, Try.ntmps19
  go_wp2_with fail
  ((with_reducible refine (rcheck_any A _ _ HXa.out hF).mono ?_); rintro e w1 ⟨rfl, hb1⟩)
  rewrite [HO.out]
  have HC1 := Kept.mk (HC.out.keep hb1 HC.out.1)
  have k0 := HC1.out.2 0 _ rfl
  replace hB := Kept.mk (hB.out.trans (hb1.mono hB.out.size))
  clear hb1 HXa HC
  have h2 := H2.out
  go_wp2
  clear k0 h2
  go_loopw [3, 4] (fun c i wr => ∃ k : Nat, k ≤ 8 ∧ i = .int .i64 (k : Int) ∧ c = .int .i64 (sumTo (fun j => A.plus.getD j 0 - A.minus.getD j 0) k) ∧ Kept (Below w1.heap.size w1 wr)) (fun _ i _ => 8 - (intOf i).toNat)
  case atStart => exact ⟨0, by omega, rfl, rfl, ⟨Below.refl _ _⟩⟩
  case round =>
    obtain ⟨k, hk, rfl, rfl, HB⟩ := hrel
    have hBw := Kept.mk (hB.out.trans (HB.out.mono hB.out.size))
    by_cases hlt : k < 8
    · have d1 : decide ((k : Int) < 8) = true := by simp; omega
      have k5 := (HC1.out.keep HB.out HC1.out.1).2 5 _ rfl
      have k6 := (HC1.out.keep HB.out HC1.out.1).2 6 _ rfl
      have z1 := (hBw.out.cell (p := ⟨b1, o1 + k, none⟩) l1).trans (T1.out k hlt)
      have z2 := (hBw.out.cell (p := ⟨b2, o2 + k, none⟩) l2).trans (T2.out k hlt)
      obtain ⟨bx1, bx2⟩ := G1.out k
      obtain ⟨by1, by2⟩ := G2.out k
      obtain ⟨bs1, bs2⟩ := sum_between _ _ G1.out G2.out k
      have HS2 := Kept.mk (show sumTo (fun j => A.plus.getD j 0 - A.minus.getD j 0) (k + 1) = sumTo (fun j => A.plus.getD j 0 - A.minus.getD j 0) k + A.plus.getD k 0 - A.minus.getD k 0 by show _ + (_ - _) = _; omega)
      generalize sumTo (fun j => A.plus.getD j 0 - A.minus.getD j 0) k = s at *
      generalize A.plus.getD k 0 = x at *
      generalize A.minus.getD k 0 = y at *
      go_wp2
      go_region
      all_goals go_wp2
      all_goals
        go_roundw
        case rel => exact ⟨k + 1, by omega, by go_num, by rw [HS2.out], ⟨HB.out.drew⟩⟩
        case measure => simp [intOf]; omega
    · have d1 : decide ((k : Int) < 8) = false := by simp; omega
      obtain rfl : k = 8 := by omega
      rw [HE.out]
      go_wp2
      go_ret
      exact ⟨rfl, hBw.out⟩
theorem rsum_any (A : Va) (v : Value) (w : World) (hv : isVa A v w) (hF : Fit A) :
    Calls Try.prog 19 #[v] w fun e w' => e = .returned (.int .i64 (sumN A)) ∧ Below w.heap.size w w' := by
  cases h : okV A with
  | false =>
    rw [show sumN A = 0 by unfold sumN; rw [if_neg]; intro e; unfold okV at h; rw [e] at h; simp at h]
    exact rsum_no1 A v w hv hF h
  | true =>
    have hk := kindN_ok h
    by_cases h2 : A.kind = 2
    · have k2 := kindN_two (show kindN A = 2 by omega)
      rw [show sumN A = A.plus.sum - A.minus.sum by unfold sumN; rw [if_pos (by omega)]]
      exact rsum_yes A v w hv hF h h2 (okRow_len k2.2.2.1) (okRow_len k2.2.2.2) (okRow_all k2.2.2.1) (okRow_all k2.2.2.2)
    · rw [show sumN A = 0 by unfold sumN; rw [if_neg (by omega)]]
      exact rsum_no2 A v w hv hF h h2
end Go.Proofs.Ytnjlefciekcehaa
