/- Contracts of the counters' methods, and of what joins registers. -/
import Derived.Test.YtebjljiklacolaaVaKinds
namespace Go.Proofs.Ytebjljiklacolaa
open Go.RowKit
set_option linter.unusedVariables false
set_option linter.unusedSimpArgs false
attribute [local irreducible] setN

set_option maxRecDepth 20000 in
set_option maxHeartbeats 1000000 in
theorem join1_any (A B : Va) (k ga gb : Nat) (w : World) (hA : VarV w ga A) (hB : VarV w gb B) (ha : A.plus.length = 8) (hb : B.plus.length = 8) (hk : k < 8) :
    Calls Try.prog 98 #[.int .i64 (k : Int), .pointer (some ⟨ga, 0, none⟩), .pointer (some ⟨gb, 0, none⟩)] w fun e w' => e = .returned (.int .i64 (maxI (A.plus.getD k 0) (B.plus.getD k 0))) ∧ Below w.heap.size w w' := by
  obtain ⟨vp, vm, hc, hp, hm⟩ := hA
  obtain ⟨up, um, gc, gp, gm⟩ := hB
  obtain ⟨b, off, cap, rfl, hlt, hcell⟩ := hp.some_ (by rw [List.length_map]; omega)
  obtain ⟨b2, off2, cap2, rfl, hlt2, hcell2⟩ := gp.some_ (by rw [List.length_map]; omega)
  rw [List.length_map, ha] at hc
  rw [List.length_map, hb] at gc
  have k1 := hc.2 5 _ rfl
  have k2 := gc.2 5 _ rfl
  have c1 : w.cell? ⟨b, off + k, none⟩ = some (.int .i64 (A.plus.getD k 0)) := by rw [hcell k _ (get_map intC _ k (by omega))]; simp [intC, List.getD_eq_getElem?_getD, show k < A.plus.length by omega]
  have c2 : w.cell? ⟨b2, off2 + k, none⟩ = some (.int .i64 (B.plus.getD k 0)) := by rw [hcell2 k _ (get_map intC _ k (by omega))]; simp [intC, List.getD_eq_getElem?_getD, show k < B.plus.length by omega]
  have HM := Kept.mk (show maxI (A.plus.getD k 0) (B.plus.getD k 0) = max (A.plus.getD k 0) (B.plus.getD k 0) by unfold maxI; split <;> omega)
  generalize A.plus.getD k 0 = x at *
  generalize B.plus.getD k 0 = y at *
  clear hc hp hm gc gp gm hcell hcell2
  go_enter Try.func98, Try.ntmps98
  go_wp2
  go_region
  all_goals go_wp2
  all_goals go_ret
  all_goals exact ⟨by rw [HM.out]; rfl, by exact below_drewN _ 1⟩
set_option maxRecDepth 20000 in
set_option maxHeartbeats 1000000 in
theorem join2_any (A B : Va) (k ga gb : Nat) (w : World) (hA : VarV w ga A) (hB : VarV w gb B) (ha : A.minus.length = 8) (hb : B.minus.length = 8) (hk : k < 8) :
    Calls Try.prog 99 #[.int .i64 (k : Int), .pointer (some ⟨ga, 0, none⟩), .pointer (some ⟨gb, 0, none⟩)] w fun e w' => e = .returned (.int .i64 (maxI (A.minus.getD k 0) (B.minus.getD k 0))) ∧ Below w.heap.size w w' := by
  obtain ⟨vp, vm, hc, hp, hm⟩ := hA
  obtain ⟨up, um, gc, gp, gm⟩ := hB
  obtain ⟨b, off, cap, rfl, hlt, hcell⟩ := hm.some_ (by rw [List.length_map]; omega)
  obtain ⟨b2, off2, cap2, rfl, hlt2, hcell2⟩ := gm.some_ (by rw [List.length_map]; omega)
  rw [List.length_map, ha] at hc
  rw [List.length_map, hb] at gc
  have k1 := hc.2 6 _ rfl
  have k2 := gc.2 6 _ rfl
  have c1 : w.cell? ⟨b, off + k, none⟩ = some (.int .i64 (A.minus.getD k 0)) := by rw [hcell k _ (get_map intC _ k (by omega))]; simp [intC, List.getD_eq_getElem?_getD, show k < A.minus.length by omega]
  have c2 : w.cell? ⟨b2, off2 + k, none⟩ = some (.int .i64 (B.minus.getD k 0)) := by rw [hcell2 k _ (get_map intC _ k (by omega))]; simp [intC, List.getD_eq_getElem?_getD, show k < B.minus.length by omega]
  have HM := Kept.mk (show maxI (A.minus.getD k 0) (B.minus.getD k 0) = max (A.minus.getD k 0) (B.minus.getD k 0) by unfold maxI; split <;> omega)
  generalize A.minus.getD k 0 = x at *
  generalize B.minus.getD k 0 = y at *
  clear hc hp hm gc gp gm hcell hcell2
  go_enter Try.func99, Try.ntmps99
  go_wp2
  go_region
  all_goals go_wp2
  all_goals go_ret
  all_goals exact ⟨by rw [HM.out]; rfl, by exact below_drewN _ 1⟩
theorem zip_range : ∀ (n : Nat) (l m : List Int), l.length = n → m.length = n → (List.range n).map (fun j => maxI (l.getD j 0) (m.getD j 0)) = List.zipWith maxI l m := by
  intro n l m h1 h2
  apply List.ext_getElem?
  intro j
  by_cases hj : j < n
  · rw [List.getElem?_map, List.getElem?_range hj, List.getElem?_zipWith, List.getElem?_eq_getElem (by omega : j < l.length), List.getElem?_eq_getElem (by omega : j < m.length)]
    simp [List.getD_eq_getElem?_getD, show j < l.length by omega, show j < m.length by omega]
  · rw [List.getElem?_eq_none (by simp; omega), List.getElem?_eq_none (by simp; omega)]
theorem cells_row8 {w : World} {g : Nat} {f : Nat → Int} {l : List Int} (h : w.rowIs g 3 8 (fun j => intC (f j))) (e : (List.range 8).map f = l) : isCells (l.map intC) (.slice (some ⟨g, 0, none⟩) 8 8) w := by
  have := cells_of_row h
  rw [← e, List.map_map]
  exact this
set_option maxRecDepth 20000 in
set_option maxHeartbeats 1000000 in
theorem countJoin_any (A B : Va) (v u : Value) (w : World) (hv : isVa A v w) (hu : isVa B u w) (a1 : A.plus.length = 8) (a2 : A.minus.length = 8) (b1 : B.plus.length = 8) (b2 : B.minus.length = 8) :
    Calls Try.prog 92 #[.agg #[], v, u] w fun e w' => ∃ v', e = .returned v' ∧ isVaN w.heap.size (joinCount A B) v' w' ∧ Below w.heap.size w w' := by
  have hen1 : Enters Try.prog 98 := enters_of Try.func98 (by kernel_rfl) rfl
  have hen2 : Enters Try.prog 99 := enters_of Try.func99 (by kernel_rfl) rfl
  obtain ⟨up, um, rfl, gp, gm⟩ := hu
  obtain ⟨vp, vm, rfl, hp, hm⟩ := hv
  have hB0 := lit_below w (.cells #[] 86)
  obtain ⟨hB1, hV⟩ := vbox _ A vp vm (stable_cells _ _ _ _ hp hB0) (stable_cells _ _ _ _ hm hB0) (w.heap.size + 1) (by simp)
  have hB := Kept.mk (hB0.trans (hB1.out.mono hB0.size))
  obtain ⟨hB2, hU⟩ := vbox ((w.alloc (.cells #[] 86)).alloc (.cells #[.int .i64 A.kind, .int .i64 A.time, .int .i64 A.node, .bool A.dead, .string ⟨A.text.toArray⟩, vp, vm, .int .u64 (A.flags.toNat : Int)] 25)) B up um (stable_cells _ _ _ _ gp hB.out) (stable_cells _ _ _ _ gm hB.out) (w.heap.size + 2) (by simp)
  replace hB := Kept.mk (hB.out.trans (hB2.out.mono hB.out.size))
  have hB3 := lit_below (((w.alloc (.cells #[] 86)).alloc (.cells #[.int .i64 A.kind, .int .i64 A.time, .int .i64 A.node, .bool A.dead, .string ⟨A.text.toArray⟩, vp, vm, .int .u64 (A.flags.toNat : Int)] 25)).alloc (.cells #[.int .i64 B.kind, .int .i64 B.time, .int .i64 B.node, .bool B.dead, .string ⟨B.text.toArray⟩, up, um, .int .u64 (B.flags.toNat : Int)] 25)) (.cells #[.int .i64 0, .int .i64 0, .int .i64 0, .bool false, .string ⟨#[]⟩, .slice none 0 0, .slice none 0 0, .int .u64 0] 25)
  have HZ := Kept.mk (cellsN_at (((w.alloc (.cells #[] 86)).alloc (.cells #[.int .i64 A.kind, .int .i64 A.time, .int .i64 A.node, .bool A.dead, .string ⟨A.text.toArray⟩, vp, vm, .int .u64 (A.flags.toNat : Int)] 25)).alloc (.cells #[.int .i64 B.kind, .int .i64 B.time, .int .i64 B.node, .bool B.dead, .string ⟨B.text.toArray⟩, up, um, .int .u64 (B.flags.toNat : Int)] 25)) 25 [.int .i64 0, .int .i64 0, .int .i64 0, .bool false, .string ⟨#[]⟩, .slice none 0 0, .slice none 0 0, .int .u64 0] (w.heap.size + 3) (by simp))
  have HF := Kept.mk (free5_at (((w.alloc (.cells #[] 86)).alloc (.cells #[.int .i64 A.kind, .int .i64 A.time, .int .i64 A.node, .bool A.dead, .string ⟨A.text.toArray⟩, vp, vm, .int .u64 (A.flags.toNat : Int)] 25)).alloc (.cells #[.int .i64 B.kind, .int .i64 B.time, .int .i64 B.node, .bool B.dead, .string ⟨B.text.toArray⟩, up, um, .int .u64 (B.flags.toNat : Int)] 25)) #[.int .i64 0, .int .i64 0, .int .i64 0, .bool false, .string ⟨#[]⟩, .slice none 0 0, .slice none 0 0, .int .u64 0] 25 (w.heap.size + 3) (by simp))
  replace hV := Kept.mk ((hV.out.keep hB2.out).keep hB3)
  replace hU := Kept.mk (hU.out.keep hB3)
  replace hB := Kept.mk (hB.out.trans (hB3.mono hB.out.size))
  have hS : Kept (w.heap.size + 4 = ((((w.alloc (.cells #[] 86)).alloc (.cells #[.int .i64 A.kind, .int .i64 A.time, .int .i64 A.node, .bool A.dead, .string ⟨A.text.toArray⟩, vp, vm, .int .u64 (A.flags.toNat : Int)] 25)).alloc (.cells #[.int .i64 B.kind, .int .i64 B.time, .int .i64 B.node, .bool B.dead, .string ⟨B.text.toArray⟩, up, um, .int .u64 (B.flags.toNat : Int)] 25)).alloc (.cells #[.int .i64 0, .int .i64 0, .int .i64 0, .bool false, .string ⟨#[]⟩, .slice none 0 0, .slice none 0 0, .int .u64 0] 25)).heap.size) := ⟨by simp⟩
  clear hp hm gp gm hB0 hB1 hB2 hB3
  go_enter Try.func92, Try.ntmps92
  go_wp2_with fail
  generalize ((((w.alloc (.cells #[] 86)).alloc (.cells #[.int .i64 A.kind, .int .i64 A.time, .int .i64 A.node, .bool A.dead, .string ⟨A.text.toArray⟩, vp, vm, .int .u64 (A.flags.toNat : Int)] 25)).alloc (.cells #[.int .i64 B.kind, .int .i64 B.time, .int .i64 B.node, .bool B.dead, .string ⟨B.text.toArray⟩, up, um, .int .u64 (B.flags.toNat : Int)] 25)).alloc (.cells #[.int .i64 0, .int .i64 0, .int .i64 0, .bool false, .string ⟨#[]⟩, .slice none 0 0, .slice none 0 0, .int .u64 0] 25)) = W0 at *
  refine (row_any (fun j => maxI (A.plus.getD j 0) (B.plus.getD j 0)) 98 _ hen1 W0 ?_).mono ?_
  · intro k w' hk hb
    exact join1_any A B k _ _ w' (hV.out.keep hb) (hU.out.keep hb) a1 b1 hk
  rintro e w1 ⟨rfl, hr1, hb1⟩
  have HR1 := Kept.mk hr1
  have HB1 := Kept.mk hb1
  clear hr1 hb1
  go_wp2_with fail
  refine (row_any (fun j => maxI (A.minus.getD j 0) (B.minus.getD j 0)) 99 _ hen2 w1 ?_).mono ?_
  · intro k w' hk hb
    exact join2_any A B k _ _ w' ((hV.out.keep HB1.out).keep hb) ((hU.out.keep HB1.out).keep hb) a2 b2 hk
  rintro e w2 ⟨rfl, hr2, hb2⟩
  have hlt1 := HR1.out.lt
  have hp2 := cells_row8 (HR1.out.of_block (hb2.block _ hlt1)) (zip_range 8 A.plus B.plus a1 b1)
  have hm2 := cells_row8 hr2 (zip_range 8 A.minus B.minus a2 b2)
  have hBB := hB.out.trans ((HB1.out.trans (hb2.mono HB1.out.size)).mono hB.out.size)
  have hZ := (HZ.out.keep HB1.out HZ.out.1).keep hb2 (Nat.lt_of_lt_of_le HZ.out.1 HB1.out.size)
  have K2 := Kept.mk ((HF.out.keep HB1.out HZ.out.1).keep hb2 (Nat.lt_of_lt_of_le HZ.out.1 HB1.out.size))
  have hs := hS.out
  obtain ⟨hBK, K4, K5⟩ := vset (joinCount A B) (.slice (some ⟨W0.heap.size, 0, none⟩) 8 8) (.slice (some ⟨w1.heap.size, 0, none⟩) 8 8) (g := w.heap.size + 3) (by omega) hBB hZ rfl hp2 hm2 (by simp [blk]; omega) (by simp [blk]; omega)
  have K1 := Kept.mk hZ
  obtain ⟨hc', hp', hm'⟩ := K4.out
  have np := newB_row (B := w.heap.size) (show w.heap.size ≤ W0.heap.size by omega) 0 8 8
  have nm := newB_row (B := w.heap.size) (show w.heap.size ≤ w1.heap.size by omega) 0 8 8
  clear hp2 hm2 hBB hZ hb2 hr2 HR1 HB1 K4
  go_wp2_with (refine wpList_storeN 25 rfl (.tmp 6) (.tmp 11) rfl (w.heap.size + 3) [.int .i64 2, .int .i64 0, .int .i64 0, .bool false, .string ⟨#[]⟩, .slice (some ⟨W0.heap.size, 0, none⟩) 8 8, .slice (some ⟨w1.heap.size, 0, none⟩) 8 8, .int .u64 0] size_va rfl rfl K1.out rfl K2.out K5.out ?_)
  exact bodyPost_ret (resultsN1 rfl _ _ (w.heap.size + 3) _ size_va agg_va rfl hc') rfl ⟨_, rfl, ⟨_, _, rfl, hp', hm', np, nm⟩, hBK.out⟩
end Go.Proofs.Ytebjljiklacolaa
