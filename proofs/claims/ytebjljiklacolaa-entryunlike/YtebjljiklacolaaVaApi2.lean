/- Contracts of package value: Least, Sum, Join, Below. -/
import Derived.Test.YtebjljiklacolaaVaApi
namespace Go.Proofs.Ytebjljiklacolaa
open Go.RowKit
set_option linter.unusedVariables false
set_option linter.unusedSimpArgs false
attribute [local irreducible] setN

theorem kindN_two {A : Va} (h : kindN A = 2) : okV A = true ∧ A.kind = 2 ∧ okRow A.plus = true ∧ okRow A.minus = true := by
  have ho : okV A = true := by unfold okV; rw [h]; rfl
  have hk : A.kind = 2 := by have := kindN_ok ho; rw [h] at this; omega
  have := (ok_count ho hk).1
  unfold inCount at this
  rw [Bool.and_eq_true] at this
  exact ⟨ho, hk, this⟩
theorem okRow_all {l : List Int} (h : okRow l = true) : l.all okNum = true := by unfold okRow at h; rw [Bool.and_eq_true] at h; exact h.2
theorem kindN_le (A : Va) : kindN A = 0 ∨ kindN A = 1 ∨ kindN A = 2 ∨ kindN A = 3 := by
  unfold kindN
  split
  · split <;> simp
  · split
    · split <;> simp
    · split
      · split <;> simp
      · simp
set_option maxRecDepth 20000 in
set_option maxHeartbeats 1000000 in
theorem vjoin_no1 (A B : Va) (v u : Value) (w : World) (hv : isVa A v w) (hu : isVa B u w) (hA : Fit A) (hB0 : Fit B) (h : okV A = false) :
    Calls Try.prog 15 #[v, u] w fun e w' => ∃ v', e = .returned (.tuple #[v', .int .i64 2]) ∧ isVaN w.heap.size zeroV v' w' ∧ Below w.heap.size w w' := by
  obtain ⟨vp, vm, rfl, hp, hm⟩ := hv
  obtain ⟨up, um, rfl, gp, gm⟩ := hu
  obtain ⟨hB1, hV⟩ := vbox w A vp vm hp hm w.heap.size rfl
  obtain ⟨hB2, hU⟩ := vbox (w.alloc (.cells #[.int .i64 A.kind, .int .i64 A.time, .int .i64 A.node, .bool A.dead, .string ⟨A.text.toArray⟩, vp, vm, .int .u64 (A.flags.toNat : Int)] 25)) B up um (stable_cells _ _ _ _ gp hB1.out) (stable_cells _ _ _ _ gm hB1.out) (w.heap.size + 1) (by simp)
  have hB3 := lit_below ((w.alloc (.cells #[.int .i64 A.kind, .int .i64 A.time, .int .i64 A.node, .bool A.dead, .string ⟨A.text.toArray⟩, vp, vm, .int .u64 (A.flags.toNat : Int)] 25)).alloc (.cells #[.int .i64 B.kind, .int .i64 B.time, .int .i64 B.node, .bool B.dead, .string ⟨B.text.toArray⟩, up, um, .int .u64 (B.flags.toNat : Int)] 25)) (.cells #[.int .i64 0, .int .i64 0, .int .i64 0, .bool false, .string ⟨#[]⟩, .slice none 0 0, .slice none 0 0, .int .u64 0] 25)
  have HZ := Kept.mk (cellsN_at ((w.alloc (.cells #[.int .i64 A.kind, .int .i64 A.time, .int .i64 A.node, .bool A.dead, .string ⟨A.text.toArray⟩, vp, vm, .int .u64 (A.flags.toNat : Int)] 25)).alloc (.cells #[.int .i64 B.kind, .int .i64 B.time, .int .i64 B.node, .bool B.dead, .string ⟨B.text.toArray⟩, up, um, .int .u64 (B.flags.toNat : Int)] 25)) 25 [.int .i64 0, .int .i64 0, .int .i64 0, .bool false, .string ⟨#[]⟩, .slice none 0 0, .slice none 0 0, .int .u64 0] (w.heap.size + 2) (by simp))
  have HF := Kept.mk (free5_at ((w.alloc (.cells #[.int .i64 A.kind, .int .i64 A.time, .int .i64 A.node, .bool A.dead, .string ⟨A.text.toArray⟩, vp, vm, .int .u64 (A.flags.toNat : Int)] 25)).alloc (.cells #[.int .i64 B.kind, .int .i64 B.time, .int .i64 B.node, .bool B.dead, .string ⟨B.text.toArray⟩, up, um, .int .u64 (B.flags.toNat : Int)] 25)) #[.int .i64 0, .int .i64 0, .int .i64 0, .bool false, .string ⟨#[]⟩, .slice none 0 0, .slice none 0 0, .int .u64 0] 25 (w.heap.size + 2) (by simp))
  replace hV := Kept.mk ((hV.out.keep hB2.out).keep hB3)
  replace hU := Kept.mk (hU.out.keep hB3)
  have hB := Kept.mk ((hB1.out.trans (hB2.out.mono hB1.out.size)).trans (hB3.mono (hB1.out.trans (hB2.out.mono hB1.out.size)).size))
  have hX := Kept.mk (show isVa A (.agg #[.int .i64 A.kind, .int .i64 A.time, .int .i64 A.node, .bool A.dead, .string ⟨A.text.toArray⟩, vp, vm, .int .u64 (A.flags.toNat : Int)]) (((w.alloc (.cells #[.int .i64 A.kind, .int .i64 A.time, .int .i64 A.node, .bool A.dead, .string ⟨A.text.toArray⟩, vp, vm, .int .u64 (A.flags.toNat : Int)] 25)).alloc (.cells #[.int .i64 B.kind, .int .i64 B.time, .int .i64 B.node, .bool B.dead, .string ⟨B.text.toArray⟩, up, um, .int .u64 (B.flags.toNat : Int)] 25)).alloc (.cells #[.int .i64 0, .int .i64 0, .int .i64 0, .bool false, .string ⟨#[]⟩, .slice none 0 0, .slice none 0 0, .int .u64 0] 25)) from ⟨vp, vm, rfl, stable_cells _ _ _ _ hp hB.out, stable_cells _ _ _ _ hm hB.out⟩)
  have hs : (((w.alloc (.cells #[.int .i64 A.kind, .int .i64 A.time, .int .i64 A.node, .bool A.dead, .string ⟨A.text.toArray⟩, vp, vm, .int .u64 (A.flags.toNat : Int)] 25)).alloc (.cells #[.int .i64 B.kind, .int .i64 B.time, .int .i64 B.node, .bool B.dead, .string ⟨B.text.toArray⟩, up, um, .int .u64 (B.flags.toNat : Int)] 25)).alloc (.cells #[.int .i64 0, .int .i64 0, .int .i64 0, .bool false, .string ⟨#[]⟩, .slice none 0 0, .slice none 0 0, .int .u64 0] 25)).heap.size = w.heap.size + 3 := by simp
  clear hp hm gp gm hB1 hB2 hB3
  have HO := Kept.mk h
  clear h
  go_enter Try.func15, Try.ntmps15
  go_wp2_with fail
  generalize ((w.alloc (.cells #[.int .i64 A.kind, .int .i64 A.time, .int .i64 A.node, .bool A.dead, .string ⟨A.text.toArray⟩, vp, vm, .int .u64 (A.flags.toNat : Int)] 25)).alloc (.cells #[.int .i64 B.kind, .int .i64 B.time, .int .i64 B.node, .bool B.dead, .string ⟨B.text.toArray⟩, up, um, .int .u64 (B.flags.toNat : Int)] 25)).alloc (.cells #[.int .i64 0, .int .i64 0, .int .i64 0, .bool false, .string ⟨#[]⟩, .slice none 0 0, .slice none 0 0, .int .u64 0] 25) = W0 at *
  refine (kv_any A _ _ hX.out hA).mono ?_
  rintro e w1 ⟨rfl, hb1⟩
  replace hV := Kept.mk (hV.out.keep hb1)
  replace hU := Kept.mk (hU.out.keep hb1)
  replace HF := Kept.mk (HF.out.keep hb1 HZ.out.1)
  replace HZ := Kept.mk (HZ.out.keep hb1 HZ.out.1)
  replace hB := Kept.mk (hB.out.trans (hb1.mono hB.out.size))
  have hs1 := hb1.size
  clear hb1 hX
  rewrite [HO.out]
  generalize ifaceK (kindN A) = ik
  obtain ⟨hBK, K4, K5⟩ := vset zeroV (.slice none 0 0) (.slice none 0 0) (g := w.heap.size + 2) (by omega) hB.out HZ.out rfl (.inl ⟨rfl, rfl⟩) (.inl ⟨rfl, rfl⟩) (by intro h; cases h) (by intro h; cases h)
  obtain ⟨hc', hp', hm'⟩ := K4.out
  clear K4
  go_wp2_with (refine wpList_storeN 25 rfl (.tmp 4) (.tmp 20) rfl (w.heap.size + 2) [.int .i64 0, .int .i64 0, .int .i64 0, .bool false, .string ⟨#[]⟩, .slice none 0 0, .slice none 0 0, .int .u64 0] size_va rfl rfl HZ.out rfl HF.out K5.out ?_)
  exact bodyPost_ret (resultsN2 rfl _ _ (w.heap.size + 2) _ (.int .i64 2) size_va agg_va rfl rfl hc') rfl ⟨_, rfl, ⟨_, _, rfl, hp', hm', newB_nil _, newB_nil _⟩, hBK.out⟩
set_option maxRecDepth 20000 in
set_option maxHeartbeats 1000000 in
theorem vjoin_no2 (A B : Va) (v u : Value) (w : World) (hv : isVa A v w) (hu : isVa B u w) (hA : Fit A) (hB0 : Fit B) (h : okV A = true) (h2 : okV B = false) :
    Calls Try.prog 15 #[v, u] w fun e w' => ∃ v', e = .returned (.tuple #[v', .int .i64 2]) ∧ isVaN w.heap.size zeroV v' w' ∧ Below w.heap.size w w' := by
  obtain ⟨vp, vm, rfl, hp, hm⟩ := hv
  obtain ⟨up, um, rfl, gp, gm⟩ := hu
  obtain ⟨hB1, hV⟩ := vbox w A vp vm hp hm w.heap.size rfl
  obtain ⟨hB2, hU⟩ := vbox (w.alloc (.cells #[.int .i64 A.kind, .int .i64 A.time, .int .i64 A.node, .bool A.dead, .string ⟨A.text.toArray⟩, vp, vm, .int .u64 (A.flags.toNat : Int)] 25)) B up um (stable_cells _ _ _ _ gp hB1.out) (stable_cells _ _ _ _ gm hB1.out) (w.heap.size + 1) (by simp)
  have hB3 := lit_below ((w.alloc (.cells #[.int .i64 A.kind, .int .i64 A.time, .int .i64 A.node, .bool A.dead, .string ⟨A.text.toArray⟩, vp, vm, .int .u64 (A.flags.toNat : Int)] 25)).alloc (.cells #[.int .i64 B.kind, .int .i64 B.time, .int .i64 B.node, .bool B.dead, .string ⟨B.text.toArray⟩, up, um, .int .u64 (B.flags.toNat : Int)] 25)) (.cells #[.int .i64 0, .int .i64 0, .int .i64 0, .bool false, .string ⟨#[]⟩, .slice none 0 0, .slice none 0 0, .int .u64 0] 25)
  have HZ := Kept.mk (cellsN_at ((w.alloc (.cells #[.int .i64 A.kind, .int .i64 A.time, .int .i64 A.node, .bool A.dead, .string ⟨A.text.toArray⟩, vp, vm, .int .u64 (A.flags.toNat : Int)] 25)).alloc (.cells #[.int .i64 B.kind, .int .i64 B.time, .int .i64 B.node, .bool B.dead, .string ⟨B.text.toArray⟩, up, um, .int .u64 (B.flags.toNat : Int)] 25)) 25 [.int .i64 0, .int .i64 0, .int .i64 0, .bool false, .string ⟨#[]⟩, .slice none 0 0, .slice none 0 0, .int .u64 0] (w.heap.size + 2) (by simp))
  have HF := Kept.mk (free5_at ((w.alloc (.cells #[.int .i64 A.kind, .int .i64 A.time, .int .i64 A.node, .bool A.dead, .string ⟨A.text.toArray⟩, vp, vm, .int .u64 (A.flags.toNat : Int)] 25)).alloc (.cells #[.int .i64 B.kind, .int .i64 B.time, .int .i64 B.node, .bool B.dead, .string ⟨B.text.toArray⟩, up, um, .int .u64 (B.flags.toNat : Int)] 25)) #[.int .i64 0, .int .i64 0, .int .i64 0, .bool false, .string ⟨#[]⟩, .slice none 0 0, .slice none 0 0, .int .u64 0] 25 (w.heap.size + 2) (by simp))
  replace hV := Kept.mk ((hV.out.keep hB2.out).keep hB3)
  replace hU := Kept.mk (hU.out.keep hB3)
  have hB := Kept.mk ((hB1.out.trans (hB2.out.mono hB1.out.size)).trans (hB3.mono (hB1.out.trans (hB2.out.mono hB1.out.size)).size))
  have hX := Kept.mk (show isVa A (.agg #[.int .i64 A.kind, .int .i64 A.time, .int .i64 A.node, .bool A.dead, .string ⟨A.text.toArray⟩, vp, vm, .int .u64 (A.flags.toNat : Int)]) (((w.alloc (.cells #[.int .i64 A.kind, .int .i64 A.time, .int .i64 A.node, .bool A.dead, .string ⟨A.text.toArray⟩, vp, vm, .int .u64 (A.flags.toNat : Int)] 25)).alloc (.cells #[.int .i64 B.kind, .int .i64 B.time, .int .i64 B.node, .bool B.dead, .string ⟨B.text.toArray⟩, up, um, .int .u64 (B.flags.toNat : Int)] 25)).alloc (.cells #[.int .i64 0, .int .i64 0, .int .i64 0, .bool false, .string ⟨#[]⟩, .slice none 0 0, .slice none 0 0, .int .u64 0] 25)) from ⟨vp, vm, rfl, stable_cells _ _ _ _ hp hB.out, stable_cells _ _ _ _ hm hB.out⟩)
  have hs : (((w.alloc (.cells #[.int .i64 A.kind, .int .i64 A.time, .int .i64 A.node, .bool A.dead, .string ⟨A.text.toArray⟩, vp, vm, .int .u64 (A.flags.toNat : Int)] 25)).alloc (.cells #[.int .i64 B.kind, .int .i64 B.time, .int .i64 B.node, .bool B.dead, .string ⟨B.text.toArray⟩, up, um, .int .u64 (B.flags.toNat : Int)] 25)).alloc (.cells #[.int .i64 0, .int .i64 0, .int .i64 0, .bool false, .string ⟨#[]⟩, .slice none 0 0, .slice none 0 0, .int .u64 0] 25)).heap.size = w.heap.size + 3 := by simp
  clear hp hm gp gm hB1 hB2 hB3
  have HO := Kept.mk h
  have HC : Kept (checkV B = 2) := ⟨by unfold checkV; rw [h2]; rfl⟩
  clear h h2
  go_enter Try.func15, Try.ntmps15
  go_wp2_with fail
  generalize ((w.alloc (.cells #[.int .i64 A.kind, .int .i64 A.time, .int .i64 A.node, .bool A.dead, .string ⟨A.text.toArray⟩, vp, vm, .int .u64 (A.flags.toNat : Int)] 25)).alloc (.cells #[.int .i64 B.kind, .int .i64 B.time, .int .i64 B.node, .bool B.dead, .string ⟨B.text.toArray⟩, up, um, .int .u64 (B.flags.toNat : Int)] 25)).alloc (.cells #[.int .i64 0, .int .i64 0, .int .i64 0, .bool false, .string ⟨#[]⟩, .slice none 0 0, .slice none 0 0, .int .u64 0] 25) = W0 at *
  refine (kv_any A _ _ hX.out hA).mono ?_
  rintro e w1 ⟨rfl, hb1⟩
  replace hV := Kept.mk (hV.out.keep hb1)
  replace hU := Kept.mk (hU.out.keep hb1)
  replace HF := Kept.mk (HF.out.keep hb1 HZ.out.1)
  replace HZ := Kept.mk (HZ.out.keep hb1 HZ.out.1)
  replace hB := Kept.mk (hB.out.trans (hb1.mono hB.out.size))
  have hs1 := hb1.size
  clear hb1 hX
  rewrite [HO.out]
  generalize ifaceK (kindN A) = ik
  obtain ⟨qb, rb, xb, _, _, kb0, kb1, kb2, kb3, kb4, kb5, kb6, kb7⟩ := hU.out.open_
  have Xb := Kept.mk xb
  clear xb
  go_wp2_with fail
  refine (vcheck_any B _ _ Xb.out hB0).mono ?_
  rintro e w2 ⟨rfl, hb2⟩
  replace hV := Kept.mk (hV.out.keep hb2)
  replace hU := Kept.mk (hU.out.keep hb2)
  replace HF := Kept.mk (HF.out.keep hb2 HZ.out.1)
  replace HZ := Kept.mk (HZ.out.keep hb2 HZ.out.1)
  replace hB := Kept.mk (hB.out.trans (hb2.mono hB.out.size))
  have hs2 := hb2.size
  rewrite [HC.out]
  clear hb2
  clear Xb kb0 kb1 kb2 kb3 kb4 kb5 kb6 kb7
  obtain ⟨hBK, K4, K5⟩ := vset zeroV (.slice none 0 0) (.slice none 0 0) (g := w.heap.size + 2) (by omega) hB.out HZ.out rfl (.inl ⟨rfl, rfl⟩) (.inl ⟨rfl, rfl⟩) (by intro h; cases h) (by intro h; cases h)
  obtain ⟨hc', hp', hm'⟩ := K4.out
  clear K4
  go_wp2_with (refine wpList_storeN 25 rfl (.tmp 4) (.tmp 20) rfl (w.heap.size + 2) [.int .i64 0, .int .i64 0, .int .i64 0, .bool false, .string ⟨#[]⟩, .slice none 0 0, .slice none 0 0, .int .u64 0] size_va rfl rfl HZ.out rfl HF.out K5.out ?_)
  exact bodyPost_ret (resultsN2 rfl _ _ (w.heap.size + 2) _ (.int .i64 2) size_va agg_va rfl rfl hc') rfl ⟨_, rfl, ⟨_, _, rfl, hp', hm', newB_nil _, newB_nil _⟩, hBK.out⟩
set_option maxRecDepth 20000 in
set_option maxHeartbeats 1000000 in
theorem vjoin_no3 (A B : Va) (v u : Value) (w : World) (hv : isVa A v w) (hu : isVa B u w) (hA : Fit A) (hB0 : Fit B) (h : okV A = true) (h2 : okV B = true) (h3 : A.kind ≠ B.kind) :
    Calls Try.prog 15 #[v, u] w fun e w' => ∃ v', e = .returned (.tuple #[v', .int .i64 3]) ∧ isVaN w.heap.size zeroV v' w' ∧ Below w.heap.size w w' := by
  obtain ⟨vp, vm, rfl, hp, hm⟩ := hv
  obtain ⟨up, um, rfl, gp, gm⟩ := hu
  obtain ⟨hB1, hV⟩ := vbox w A vp vm hp hm w.heap.size rfl
  obtain ⟨hB2, hU⟩ := vbox (w.alloc (.cells #[.int .i64 A.kind, .int .i64 A.time, .int .i64 A.node, .bool A.dead, .string ⟨A.text.toArray⟩, vp, vm, .int .u64 (A.flags.toNat : Int)] 25)) B up um (stable_cells _ _ _ _ gp hB1.out) (stable_cells _ _ _ _ gm hB1.out) (w.heap.size + 1) (by simp)
  have hB3 := lit_below ((w.alloc (.cells #[.int .i64 A.kind, .int .i64 A.time, .int .i64 A.node, .bool A.dead, .string ⟨A.text.toArray⟩, vp, vm, .int .u64 (A.flags.toNat : Int)] 25)).alloc (.cells #[.int .i64 B.kind, .int .i64 B.time, .int .i64 B.node, .bool B.dead, .string ⟨B.text.toArray⟩, up, um, .int .u64 (B.flags.toNat : Int)] 25)) (.cells #[.int .i64 0, .int .i64 0, .int .i64 0, .bool false, .string ⟨#[]⟩, .slice none 0 0, .slice none 0 0, .int .u64 0] 25)
  have HZ := Kept.mk (cellsN_at ((w.alloc (.cells #[.int .i64 A.kind, .int .i64 A.time, .int .i64 A.node, .bool A.dead, .string ⟨A.text.toArray⟩, vp, vm, .int .u64 (A.flags.toNat : Int)] 25)).alloc (.cells #[.int .i64 B.kind, .int .i64 B.time, .int .i64 B.node, .bool B.dead, .string ⟨B.text.toArray⟩, up, um, .int .u64 (B.flags.toNat : Int)] 25)) 25 [.int .i64 0, .int .i64 0, .int .i64 0, .bool false, .string ⟨#[]⟩, .slice none 0 0, .slice none 0 0, .int .u64 0] (w.heap.size + 2) (by simp))
  have HF := Kept.mk (free5_at ((w.alloc (.cells #[.int .i64 A.kind, .int .i64 A.time, .int .i64 A.node, .bool A.dead, .string ⟨A.text.toArray⟩, vp, vm, .int .u64 (A.flags.toNat : Int)] 25)).alloc (.cells #[.int .i64 B.kind, .int .i64 B.time, .int .i64 B.node, .bool B.dead, .string ⟨B.text.toArray⟩, up, um, .int .u64 (B.flags.toNat : Int)] 25)) #[.int .i64 0, .int .i64 0, .int .i64 0, .bool false, .string ⟨#[]⟩, .slice none 0 0, .slice none 0 0, .int .u64 0] 25 (w.heap.size + 2) (by simp))
  replace hV := Kept.mk ((hV.out.keep hB2.out).keep hB3)
  replace hU := Kept.mk (hU.out.keep hB3)
  have hB := Kept.mk ((hB1.out.trans (hB2.out.mono hB1.out.size)).trans (hB3.mono (hB1.out.trans (hB2.out.mono hB1.out.size)).size))
  have hX := Kept.mk (show isVa A (.agg #[.int .i64 A.kind, .int .i64 A.time, .int .i64 A.node, .bool A.dead, .string ⟨A.text.toArray⟩, vp, vm, .int .u64 (A.flags.toNat : Int)]) (((w.alloc (.cells #[.int .i64 A.kind, .int .i64 A.time, .int .i64 A.node, .bool A.dead, .string ⟨A.text.toArray⟩, vp, vm, .int .u64 (A.flags.toNat : Int)] 25)).alloc (.cells #[.int .i64 B.kind, .int .i64 B.time, .int .i64 B.node, .bool B.dead, .string ⟨B.text.toArray⟩, up, um, .int .u64 (B.flags.toNat : Int)] 25)).alloc (.cells #[.int .i64 0, .int .i64 0, .int .i64 0, .bool false, .string ⟨#[]⟩, .slice none 0 0, .slice none 0 0, .int .u64 0] 25)) from ⟨vp, vm, rfl, stable_cells _ _ _ _ hp hB.out, stable_cells _ _ _ _ hm hB.out⟩)
  have hs : (((w.alloc (.cells #[.int .i64 A.kind, .int .i64 A.time, .int .i64 A.node, .bool A.dead, .string ⟨A.text.toArray⟩, vp, vm, .int .u64 (A.flags.toNat : Int)] 25)).alloc (.cells #[.int .i64 B.kind, .int .i64 B.time, .int .i64 B.node, .bool B.dead, .string ⟨B.text.toArray⟩, up, um, .int .u64 (B.flags.toNat : Int)] 25)).alloc (.cells #[.int .i64 0, .int .i64 0, .int .i64 0, .bool false, .string ⟨#[]⟩, .slice none 0 0, .slice none 0 0, .int .u64 0] 25)).heap.size = w.heap.size + 3 := by simp
  clear hp hm gp gm hB1 hB2 hB3
  have HO := Kept.mk h
  have HC : Kept (checkV B = 0) := ⟨by unfold checkV; rw [h2]; rfl⟩
  have d3 : (A.kind == B.kind) = false := by simpa using h3
  clear h h2 h3
  go_enter Try.func15, Try.ntmps15
  go_wp2_with fail
  generalize ((w.alloc (.cells #[.int .i64 A.kind, .int .i64 A.time, .int .i64 A.node, .bool A.dead, .string ⟨A.text.toArray⟩, vp, vm, .int .u64 (A.flags.toNat : Int)] 25)).alloc (.cells #[.int .i64 B.kind, .int .i64 B.time, .int .i64 B.node, .bool B.dead, .string ⟨B.text.toArray⟩, up, um, .int .u64 (B.flags.toNat : Int)] 25)).alloc (.cells #[.int .i64 0, .int .i64 0, .int .i64 0, .bool false, .string ⟨#[]⟩, .slice none 0 0, .slice none 0 0, .int .u64 0] 25) = W0 at *
  refine (kv_any A _ _ hX.out hA).mono ?_
  rintro e w1 ⟨rfl, hb1⟩
  replace hV := Kept.mk (hV.out.keep hb1)
  replace hU := Kept.mk (hU.out.keep hb1)
  replace HF := Kept.mk (HF.out.keep hb1 HZ.out.1)
  replace HZ := Kept.mk (HZ.out.keep hb1 HZ.out.1)
  replace hB := Kept.mk (hB.out.trans (hb1.mono hB.out.size))
  have hs1 := hb1.size
  clear hb1 hX
  rewrite [HO.out]
  generalize ifaceK (kindN A) = ik
  obtain ⟨qb, rb, xb, _, _, kb0, kb1, kb2, kb3, kb4, kb5, kb6, kb7⟩ := hU.out.open_
  have Xb := Kept.mk xb
  clear xb
  go_wp2_with fail
  refine (vcheck_any B _ _ Xb.out hB0).mono ?_
  rintro e w2 ⟨rfl, hb2⟩
  replace hV := Kept.mk (hV.out.keep hb2)
  replace hU := Kept.mk (hU.out.keep hb2)
  replace HF := Kept.mk (HF.out.keep hb2 HZ.out.1)
  replace HZ := Kept.mk (HZ.out.keep hb2 HZ.out.1)
  replace hB := Kept.mk (hB.out.trans (hb2.mono hB.out.size))
  have hs2 := hb2.size
  rewrite [HC.out]
  clear hb2
  clear Xb kb0 kb1 kb2 kb3 kb4 kb5 kb6 kb7
  obtain ⟨qa, ra, xa, _, _, ka0, ka1, ka2, ka3, ka4, ka5, ka6, ka7⟩ := hV.out.open_
  have Xa := Kept.mk xa
  clear xa
  obtain ⟨qb, rb, xb, _, _, kb0, kb1, kb2, kb3, kb4, kb5, kb6, kb7⟩ := hU.out.open_
  have Xb := Kept.mk xb
  clear xb
  obtain ⟨hBK, K4, K5⟩ := vset zeroV (.slice none 0 0) (.slice none 0 0) (g := w.heap.size + 2) (by omega) hB.out HZ.out rfl (.inl ⟨rfl, rfl⟩) (.inl ⟨rfl, rfl⟩) (by intro h; cases h) (by intro h; cases h)
  obtain ⟨hc', hp', hm'⟩ := K4.out
  clear K4
  go_wp2_with (refine wpList_storeN 25 rfl (.tmp 4) (.tmp 26) rfl (w.heap.size + 2) [.int .i64 0, .int .i64 0, .int .i64 0, .bool false, .string ⟨#[]⟩, .slice none 0 0, .slice none 0 0, .int .u64 0] size_va rfl rfl HZ.out rfl HF.out K5.out ?_)
  exact bodyPost_ret (resultsN2 rfl _ _ (w.heap.size + 2) _ (.int .i64 3) size_va agg_va rfl rfl hc') rfl ⟨_, rfl, ⟨_, _, rfl, hp', hm', newB_nil _, newB_nil _⟩, hBK.out⟩
set_option maxRecDepth 20000 in
set_option maxHeartbeats 1000000 in
theorem vjoin_reg (A B : Va) (v u : Value) (w : World) (hv : isVa A v w) (hu : isVa B u w) (hA : Fit A) (hB0 : Fit B) (h : kindN A = 1) (h2 : okV B = true) (h3 : A.kind = B.kind) :
    Calls Try.prog 15 #[v, u] w fun e w' => ∃ v', e = .returned (.tuple #[v', .int .i64 0]) ∧ isVaN w.heap.size (joinReg A B) v' w' ∧ Below w.heap.size w w' := by
  obtain ⟨vp, vm, rfl, hp, hm⟩ := hv
  obtain ⟨up, um, rfl, gp, gm⟩ := hu
  obtain ⟨hB1, hV⟩ := vbox w A vp vm hp hm w.heap.size rfl
  obtain ⟨hB2, hU⟩ := vbox (w.alloc (.cells #[.int .i64 A.kind, .int .i64 A.time, .int .i64 A.node, .bool A.dead, .string ⟨A.text.toArray⟩, vp, vm, .int .u64 (A.flags.toNat : Int)] 25)) B up um (stable_cells _ _ _ _ gp hB1.out) (stable_cells _ _ _ _ gm hB1.out) (w.heap.size + 1) (by simp)
  have hB3 := lit_below ((w.alloc (.cells #[.int .i64 A.kind, .int .i64 A.time, .int .i64 A.node, .bool A.dead, .string ⟨A.text.toArray⟩, vp, vm, .int .u64 (A.flags.toNat : Int)] 25)).alloc (.cells #[.int .i64 B.kind, .int .i64 B.time, .int .i64 B.node, .bool B.dead, .string ⟨B.text.toArray⟩, up, um, .int .u64 (B.flags.toNat : Int)] 25)) (.cells #[.int .i64 0, .int .i64 0, .int .i64 0, .bool false, .string ⟨#[]⟩, .slice none 0 0, .slice none 0 0, .int .u64 0] 25)
  have HZ := Kept.mk (cellsN_at ((w.alloc (.cells #[.int .i64 A.kind, .int .i64 A.time, .int .i64 A.node, .bool A.dead, .string ⟨A.text.toArray⟩, vp, vm, .int .u64 (A.flags.toNat : Int)] 25)).alloc (.cells #[.int .i64 B.kind, .int .i64 B.time, .int .i64 B.node, .bool B.dead, .string ⟨B.text.toArray⟩, up, um, .int .u64 (B.flags.toNat : Int)] 25)) 25 [.int .i64 0, .int .i64 0, .int .i64 0, .bool false, .string ⟨#[]⟩, .slice none 0 0, .slice none 0 0, .int .u64 0] (w.heap.size + 2) (by simp))
  have HF := Kept.mk (free5_at ((w.alloc (.cells #[.int .i64 A.kind, .int .i64 A.time, .int .i64 A.node, .bool A.dead, .string ⟨A.text.toArray⟩, vp, vm, .int .u64 (A.flags.toNat : Int)] 25)).alloc (.cells #[.int .i64 B.kind, .int .i64 B.time, .int .i64 B.node, .bool B.dead, .string ⟨B.text.toArray⟩, up, um, .int .u64 (B.flags.toNat : Int)] 25)) #[.int .i64 0, .int .i64 0, .int .i64 0, .bool false, .string ⟨#[]⟩, .slice none 0 0, .slice none 0 0, .int .u64 0] 25 (w.heap.size + 2) (by simp))
  replace hV := Kept.mk ((hV.out.keep hB2.out).keep hB3)
  replace hU := Kept.mk (hU.out.keep hB3)
  have hB := Kept.mk ((hB1.out.trans (hB2.out.mono hB1.out.size)).trans (hB3.mono (hB1.out.trans (hB2.out.mono hB1.out.size)).size))
  have hX := Kept.mk (show isVa A (.agg #[.int .i64 A.kind, .int .i64 A.time, .int .i64 A.node, .bool A.dead, .string ⟨A.text.toArray⟩, vp, vm, .int .u64 (A.flags.toNat : Int)]) (((w.alloc (.cells #[.int .i64 A.kind, .int .i64 A.time, .int .i64 A.node, .bool A.dead, .string ⟨A.text.toArray⟩, vp, vm, .int .u64 (A.flags.toNat : Int)] 25)).alloc (.cells #[.int .i64 B.kind, .int .i64 B.time, .int .i64 B.node, .bool B.dead, .string ⟨B.text.toArray⟩, up, um, .int .u64 (B.flags.toNat : Int)] 25)).alloc (.cells #[.int .i64 0, .int .i64 0, .int .i64 0, .bool false, .string ⟨#[]⟩, .slice none 0 0, .slice none 0 0, .int .u64 0] 25)) from ⟨vp, vm, rfl, stable_cells _ _ _ _ hp hB.out, stable_cells _ _ _ _ hm hB.out⟩)
  have hs : (((w.alloc (.cells #[.int .i64 A.kind, .int .i64 A.time, .int .i64 A.node, .bool A.dead, .string ⟨A.text.toArray⟩, vp, vm, .int .u64 (A.flags.toNat : Int)] 25)).alloc (.cells #[.int .i64 B.kind, .int .i64 B.time, .int .i64 B.node, .bool B.dead, .string ⟨B.text.toArray⟩, up, um, .int .u64 (B.flags.toNat : Int)] 25)).alloc (.cells #[.int .i64 0, .int .i64 0, .int .i64 0, .bool false, .string ⟨#[]⟩, .slice none 0 0, .slice none 0 0, .int .u64 0] 25)).heap.size = w.heap.size + 3 := by simp
  clear hp hm gp gm hB1 hB2 hB3
  have HO : Kept (okV A = true) := ⟨by unfold okV; rw [h]; rfl⟩
  have HC : Kept (checkV B = 0) := ⟨by unfold checkV; rw [h2]; rfl⟩
  have HK := Kept.mk h
  have HI : Kept (ifaceK 1 = .iface 85 (.agg #[])) := ⟨rfl⟩
  have d3 : (A.kind == B.kind) = true := by simpa using h3
  clear h h2 h3
  go_enter Try.func15, Try.ntmps15
  go_wp2_with fail
  generalize ((w.alloc (.cells #[.int .i64 A.kind, .int .i64 A.time, .int .i64 A.node, .bool A.dead, .string ⟨A.text.toArray⟩, vp, vm, .int .u64 (A.flags.toNat : Int)] 25)).alloc (.cells #[.int .i64 B.kind, .int .i64 B.time, .int .i64 B.node, .bool B.dead, .string ⟨B.text.toArray⟩, up, um, .int .u64 (B.flags.toNat : Int)] 25)).alloc (.cells #[.int .i64 0, .int .i64 0, .int .i64 0, .bool false, .string ⟨#[]⟩, .slice none 0 0, .slice none 0 0, .int .u64 0] 25) = W0 at *
  refine (kv_any A _ _ hX.out hA).mono ?_
  rintro e w1 ⟨rfl, hb1⟩
  replace hV := Kept.mk (hV.out.keep hb1)
  replace hU := Kept.mk (hU.out.keep hb1)
  replace HF := Kept.mk (HF.out.keep hb1 HZ.out.1)
  replace HZ := Kept.mk (HZ.out.keep hb1 HZ.out.1)
  replace hB := Kept.mk (hB.out.trans (hb1.mono hB.out.size))
  have hs1 := hb1.size
  clear hb1 hX
  rewrite [HO.out, HK.out, HI.out]
  obtain ⟨qb, rb, xb, _, _, kb0, kb1, kb2, kb3, kb4, kb5, kb6, kb7⟩ := hU.out.open_
  have Xb := Kept.mk xb
  clear xb
  go_wp2_with fail
  refine (vcheck_any B _ _ Xb.out hB0).mono ?_
  rintro e w2 ⟨rfl, hb2⟩
  replace hV := Kept.mk (hV.out.keep hb2)
  replace hU := Kept.mk (hU.out.keep hb2)
  replace HF := Kept.mk (HF.out.keep hb2 HZ.out.1)
  replace HZ := Kept.mk (HZ.out.keep hb2 HZ.out.1)
  replace hB := Kept.mk (hB.out.trans (hb2.mono hB.out.size))
  have hs2 := hb2.size
  rewrite [HC.out]
  clear hb2
  clear Xb kb0 kb1 kb2 kb3 kb4 kb5 kb6 kb7
  obtain ⟨qa, ra, xa, _, _, ka0, ka1, ka2, ka3, ka4, ka5, ka6, ka7⟩ := hV.out.open_
  have Xa := Kept.mk xa
  clear xa
  obtain ⟨qb, rb, xb, _, _, kb0, kb1, kb2, kb3, kb4, kb5, kb6, kb7⟩ := hU.out.open_
  have Xb := Kept.mk xb
  clear xb
  have hinv : ∀ W : World, (invoke (.fn (.method "ouroboros/value.join") #[]) #[.iface 85 (.agg #[]), .agg #[.int .i64 A.kind, .int .i64 A.time, .int .i64 A.node, .bool A.dead, .string ⟨A.text.toArray⟩, qa, ra, .int .u64 (A.flags.toNat : Int)], .agg #[.int .i64 B.kind, .int .i64 B.time, .int .i64 B.node, .bool B.dead, .string ⟨B.text.toArray⟩, qb, rb, .int .u64 (B.flags.toNat : Int)]]).run Try.prog W = .ok (.enter 80 #[.agg #[], .agg #[.int .i64 A.kind, .int .i64 A.time, .int .i64 A.node, .bool A.dead, .string ⟨A.text.toArray⟩, qa, ra, .int .u64 (A.flags.toNat : Int)], .agg #[.int .i64 B.kind, .int .i64 B.time, .int .i64 B.node, .bool B.dead, .string ⟨B.text.toArray⟩, qb, rb, .int .u64 (B.flags.toNat : Int)]]) W := fun W => by kernel_rfl
  go_wp2_with fail
  refine (regJoin_any A B _ _ _ Xa.out Xb.out).mono ?_
  rintro e w3 ⟨v', rfl, ⟨p', m', rfl, hp1, hm1, np, nm⟩, hb3⟩
  have hZ1 := HZ.out.keep hb3 HZ.out.1
  have K1 := Kept.mk hZ1
  have K2 := Kept.mk (HF.out.keep hb3 HZ.out.1)
  obtain ⟨hBK, K4, K5⟩ := vset (joinReg A B) p' m' (g := w.heap.size + 2) (by omega) (hB.out.trans (hb3.mono hB.out.size)) hZ1 rfl hp1 hm1 (np.ne (by omega)) (nm.ne (by omega))
  obtain ⟨hc', hp', hm'⟩ := K4.out
  replace np := np.low (B' := w.heap.size) (by omega)
  replace nm := nm.low (B' := w.heap.size) (by omega)
  clear K4 hp1 hm1 hZ1 hb3 hinv
  clear Xa ka0 ka1 ka2 ka3 ka4 ka5 ka6 ka7
  clear Xb kb0 kb1 kb2 kb3 kb4 kb5 kb6 kb7
  go_wp2_with (refine wpList_storeN 25 rfl (.tmp 4) (.tmp 30) rfl (w.heap.size + 2) [.int .i64 (joinReg A B).kind, .int .i64 (joinReg A B).time, .int .i64 (joinReg A B).node, .bool (joinReg A B).dead, .string ⟨(joinReg A B).text.toArray⟩, p', m', .int .u64 ((joinReg A B).flags.toNat : Int)] size_va rfl rfl K1.out rfl K2.out K5.out ?_)
  exact bodyPost_ret (resultsN2 rfl _ _ (w.heap.size + 2) _ (.int .i64 0) size_va agg_va rfl rfl hc') rfl ⟨_, rfl, ⟨_, _, rfl, hp', hm', np, nm⟩, hBK.out⟩
set_option maxRecDepth 20000 in
set_option maxHeartbeats 1000000 in
theorem vjoin_count (A B : Va) (v u : Value) (w : World) (hv : isVa A v w) (hu : isVa B u w) (hA : Fit A) (hB0 : Fit B) (h : kindN A = 2) (h2 : okV B = true) (h3 : A.kind = B.kind) (l1 : A.plus.length = 8) (l2 : A.minus.length = 8) (l3 : B.plus.length = 8) (l4 : B.minus.length = 8) :
    Calls Try.prog 15 #[v, u] w fun e w' => ∃ v', e = .returned (.tuple #[v', .int .i64 0]) ∧ isVaN w.heap.size (joinCount A B) v' w' ∧ Below w.heap.size w w' := by
  obtain ⟨vp, vm, rfl, hp, hm⟩ := hv
  obtain ⟨up, um, rfl, gp, gm⟩ := hu
  obtain ⟨hB1, hV⟩ := vbox w A vp vm hp hm w.heap.size rfl
  obtain ⟨hB2, hU⟩ := vbox (w.alloc (.cells #[.int .i64 A.kind, .int .i64 A.time, .int .i64 A.node, .bool A.dead, .string ⟨A.text.toArray⟩, vp, vm, .int .u64 (A.flags.toNat : Int)] 25)) B up um (stable_cells _ _ _ _ gp hB1.out) (stable_cells _ _ _ _ gm hB1.out) (w.heap.size + 1) (by simp)
  have hB3 := lit_below ((w.alloc (.cells #[.int .i64 A.kind, .int .i64 A.time, .int .i64 A.node, .bool A.dead, .string ⟨A.text.toArray⟩, vp, vm, .int .u64 (A.flags.toNat : Int)] 25)).alloc (.cells #[.int .i64 B.kind, .int .i64 B.time, .int .i64 B.node, .bool B.dead, .string ⟨B.text.toArray⟩, up, um, .int .u64 (B.flags.toNat : Int)] 25)) (.cells #[.int .i64 0, .int .i64 0, .int .i64 0, .bool false, .string ⟨#[]⟩, .slice none 0 0, .slice none 0 0, .int .u64 0] 25)
  have HZ := Kept.mk (cellsN_at ((w.alloc (.cells #[.int .i64 A.kind, .int .i64 A.time, .int .i64 A.node, .bool A.dead, .string ⟨A.text.toArray⟩, vp, vm, .int .u64 (A.flags.toNat : Int)] 25)).alloc (.cells #[.int .i64 B.kind, .int .i64 B.time, .int .i64 B.node, .bool B.dead, .string ⟨B.text.toArray⟩, up, um, .int .u64 (B.flags.toNat : Int)] 25)) 25 [.int .i64 0, .int .i64 0, .int .i64 0, .bool false, .string ⟨#[]⟩, .slice none 0 0, .slice none 0 0, .int .u64 0] (w.heap.size + 2) (by simp))
  have HF := Kept.mk (free5_at ((w.alloc (.cells #[.int .i64 A.kind, .int .i64 A.time, .int .i64 A.node, .bool A.dead, .string ⟨A.text.toArray⟩, vp, vm, .int .u64 (A.flags.toNat : Int)] 25)).alloc (.cells #[.int .i64 B.kind, .int .i64 B.time, .int .i64 B.node, .bool B.dead, .string ⟨B.text.toArray⟩, up, um, .int .u64 (B.flags.toNat : Int)] 25)) #[.int .i64 0, .int .i64 0, .int .i64 0, .bool false, .string ⟨#[]⟩, .slice none 0 0, .slice none 0 0, .int .u64 0] 25 (w.heap.size + 2) (by simp))
  replace hV := Kept.mk ((hV.out.keep hB2.out).keep hB3)
  replace hU := Kept.mk (hU.out.keep hB3)
  have hB := Kept.mk ((hB1.out.trans (hB2.out.mono hB1.out.size)).trans (hB3.mono (hB1.out.trans (hB2.out.mono hB1.out.size)).size))
  have hX := Kept.mk (show isVa A (.agg #[.int .i64 A.kind, .int .i64 A.time, .int .i64 A.node, .bool A.dead, .string ⟨A.text.toArray⟩, vp, vm, .int .u64 (A.flags.toNat : Int)]) (((w.alloc (.cells #[.int .i64 A.kind, .int .i64 A.time, .int .i64 A.node, .bool A.dead, .string ⟨A.text.toArray⟩, vp, vm, .int .u64 (A.flags.toNat : Int)] 25)).alloc (.cells #[.int .i64 B.kind, .int .i64 B.time, .int .i64 B.node, .bool B.dead, .string ⟨B.text.toArray⟩, up, um, .int .u64 (B.flags.toNat : Int)] 25)).alloc (.cells #[.int .i64 0, .int .i64 0, .int .i64 0, .bool false, .string ⟨#[]⟩, .slice none 0 0, .slice none 0 0, .int .u64 0] 25)) from ⟨vp, vm, rfl, stable_cells _ _ _ _ hp hB.out, stable_cells _ _ _ _ hm hB.out⟩)
  have hs : (((w.alloc (.cells #[.int .i64 A.kind, .int .i64 A.time, .int .i64 A.node, .bool A.dead, .string ⟨A.text.toArray⟩, vp, vm, .int .u64 (A.flags.toNat : Int)] 25)).alloc (.cells #[.int .i64 B.kind, .int .i64 B.time, .int .i64 B.node, .bool B.dead, .string ⟨B.text.toArray⟩, up, um, .int .u64 (B.flags.toNat : Int)] 25)).alloc (.cells #[.int .i64 0, .int .i64 0, .int .i64 0, .bool false, .string ⟨#[]⟩, .slice none 0 0, .slice none 0 0, .int .u64 0] 25)).heap.size = w.heap.size + 3 := by simp
  clear hp hm gp gm hB1 hB2 hB3
  have HO : Kept (okV A = true) := ⟨by unfold okV; rw [h]; rfl⟩
  have HC : Kept (checkV B = 0) := ⟨by unfold checkV; rw [h2]; rfl⟩
  have HK := Kept.mk h
  have HI : Kept (ifaceK 2 = .iface 86 (.agg #[])) := ⟨rfl⟩
  have d3 : (A.kind == B.kind) = true := by simpa using h3
  clear h h2 h3
  go_enter Try.func15, Try.ntmps15
  go_wp2_with fail
  generalize ((w.alloc (.cells #[.int .i64 A.kind, .int .i64 A.time, .int .i64 A.node, .bool A.dead, .string ⟨A.text.toArray⟩, vp, vm, .int .u64 (A.flags.toNat : Int)] 25)).alloc (.cells #[.int .i64 B.kind, .int .i64 B.time, .int .i64 B.node, .bool B.dead, .string ⟨B.text.toArray⟩, up, um, .int .u64 (B.flags.toNat : Int)] 25)).alloc (.cells #[.int .i64 0, .int .i64 0, .int .i64 0, .bool false, .string ⟨#[]⟩, .slice none 0 0, .slice none 0 0, .int .u64 0] 25) = W0 at *
  refine (kv_any A _ _ hX.out hA).mono ?_
  rintro e w1 ⟨rfl, hb1⟩
  replace hV := Kept.mk (hV.out.keep hb1)
  replace hU := Kept.mk (hU.out.keep hb1)
  replace HF := Kept.mk (HF.out.keep hb1 HZ.out.1)
  replace HZ := Kept.mk (HZ.out.keep hb1 HZ.out.1)
  replace hB := Kept.mk (hB.out.trans (hb1.mono hB.out.size))
  have hs1 := hb1.size
  clear hb1 hX
  rewrite [HO.out, HK.out, HI.out]
  obtain ⟨qb, rb, xb, _, _, kb0, kb1, kb2, kb3, kb4, kb5, kb6, kb7⟩ := hU.out.open_
  have Xb := Kept.mk xb
  clear xb
  go_wp2_with fail
  refine (vcheck_any B _ _ Xb.out hB0).mono ?_
  rintro e w2 ⟨rfl, hb2⟩
  replace hV := Kept.mk (hV.out.keep hb2)
  replace hU := Kept.mk (hU.out.keep hb2)
  replace HF := Kept.mk (HF.out.keep hb2 HZ.out.1)
  replace HZ := Kept.mk (HZ.out.keep hb2 HZ.out.1)
  replace hB := Kept.mk (hB.out.trans (hb2.mono hB.out.size))
  have hs2 := hb2.size
  rewrite [HC.out]
  clear hb2
  clear Xb kb0 kb1 kb2 kb3 kb4 kb5 kb6 kb7
  obtain ⟨qa, ra, xa, _, _, ka0, ka1, ka2, ka3, ka4, ka5, ka6, ka7⟩ := hV.out.open_
  have Xa := Kept.mk xa
  clear xa
  obtain ⟨qb, rb, xb, _, _, kb0, kb1, kb2, kb3, kb4, kb5, kb6, kb7⟩ := hU.out.open_
  have Xb := Kept.mk xb
  clear xb
  have hinv : ∀ W : World, (invoke (.fn (.method "ouroboros/value.join") #[]) #[.iface 86 (.agg #[]), .agg #[.int .i64 A.kind, .int .i64 A.time, .int .i64 A.node, .bool A.dead, .string ⟨A.text.toArray⟩, qa, ra, .int .u64 (A.flags.toNat : Int)], .agg #[.int .i64 B.kind, .int .i64 B.time, .int .i64 B.node, .bool B.dead, .string ⟨B.text.toArray⟩, qb, rb, .int .u64 (B.flags.toNat : Int)]]).run Try.prog W = .ok (.enter 92 #[.agg #[], .agg #[.int .i64 A.kind, .int .i64 A.time, .int .i64 A.node, .bool A.dead, .string ⟨A.text.toArray⟩, qa, ra, .int .u64 (A.flags.toNat : Int)], .agg #[.int .i64 B.kind, .int .i64 B.time, .int .i64 B.node, .bool B.dead, .string ⟨B.text.toArray⟩, qb, rb, .int .u64 (B.flags.toNat : Int)]]) W := fun W => by kernel_rfl
  go_wp2_with fail
  refine (countJoin_any A B _ _ _ Xa.out Xb.out l1 l2 l3 l4).mono ?_
  rintro e w3 ⟨v', rfl, ⟨p', m', rfl, hp1, hm1, np, nm⟩, hb3⟩
  have hZ1 := HZ.out.keep hb3 HZ.out.1
  have K1 := Kept.mk hZ1
  have K2 := Kept.mk (HF.out.keep hb3 HZ.out.1)
  obtain ⟨hBK, K4, K5⟩ := vset (joinCount A B) p' m' (g := w.heap.size + 2) (by omega) (hB.out.trans (hb3.mono hB.out.size)) hZ1 rfl hp1 hm1 (np.ne (by omega)) (nm.ne (by omega))
  obtain ⟨hc', hp', hm'⟩ := K4.out
  replace np := np.low (B' := w.heap.size) (by omega)
  replace nm := nm.low (B' := w.heap.size) (by omega)
  clear K4 hp1 hm1 hZ1 hb3 hinv
  clear Xa ka0 ka1 ka2 ka3 ka4 ka5 ka6 ka7
  clear Xb kb0 kb1 kb2 kb3 kb4 kb5 kb6 kb7
  go_wp2_with (refine wpList_storeN 25 rfl (.tmp 4) (.tmp 30) rfl (w.heap.size + 2) [.int .i64 (joinCount A B).kind, .int .i64 (joinCount A B).time, .int .i64 (joinCount A B).node, .bool (joinCount A B).dead, .string ⟨(joinCount A B).text.toArray⟩, p', m', .int .u64 ((joinCount A B).flags.toNat : Int)] size_va rfl rfl K1.out rfl K2.out K5.out ?_)
  exact bodyPost_ret (resultsN2 rfl _ _ (w.heap.size + 2) _ (.int .i64 0) size_va agg_va rfl rfl hc') rfl ⟨_, rfl, ⟨_, _, rfl, hp', hm', np, nm⟩, hBK.out⟩
set_option maxRecDepth 20000 in
set_option maxHeartbeats 1000000 in
theorem vjoin_flags (A B : Va) (v u : Value) (w : World) (hv : isVa A v w) (hu : isVa B u w) (hA : Fit A) (hB0 : Fit B) (h : kindN A = 3) (h2 : okV B = true) (h3 : A.kind = B.kind) :
    Calls Try.prog 15 #[v, u] w fun e w' => ∃ v', e = .returned (.tuple #[v', .int .i64 0]) ∧ isVaN w.heap.size (joinFlags A B) v' w' ∧ Below w.heap.size w w' := by
  obtain ⟨vp, vm, rfl, hp, hm⟩ := hv
  obtain ⟨up, um, rfl, gp, gm⟩ := hu
  obtain ⟨hB1, hV⟩ := vbox w A vp vm hp hm w.heap.size rfl
  obtain ⟨hB2, hU⟩ := vbox (w.alloc (.cells #[.int .i64 A.kind, .int .i64 A.time, .int .i64 A.node, .bool A.dead, .string ⟨A.text.toArray⟩, vp, vm, .int .u64 (A.flags.toNat : Int)] 25)) B up um (stable_cells _ _ _ _ gp hB1.out) (stable_cells _ _ _ _ gm hB1.out) (w.heap.size + 1) (by simp)
  have hB3 := lit_below ((w.alloc (.cells #[.int .i64 A.kind, .int .i64 A.time, .int .i64 A.node, .bool A.dead, .string ⟨A.text.toArray⟩, vp, vm, .int .u64 (A.flags.toNat : Int)] 25)).alloc (.cells #[.int .i64 B.kind, .int .i64 B.time, .int .i64 B.node, .bool B.dead, .string ⟨B.text.toArray⟩, up, um, .int .u64 (B.flags.toNat : Int)] 25)) (.cells #[.int .i64 0, .int .i64 0, .int .i64 0, .bool false, .string ⟨#[]⟩, .slice none 0 0, .slice none 0 0, .int .u64 0] 25)
  have HZ := Kept.mk (cellsN_at ((w.alloc (.cells #[.int .i64 A.kind, .int .i64 A.time, .int .i64 A.node, .bool A.dead, .string ⟨A.text.toArray⟩, vp, vm, .int .u64 (A.flags.toNat : Int)] 25)).alloc (.cells #[.int .i64 B.kind, .int .i64 B.time, .int .i64 B.node, .bool B.dead, .string ⟨B.text.toArray⟩, up, um, .int .u64 (B.flags.toNat : Int)] 25)) 25 [.int .i64 0, .int .i64 0, .int .i64 0, .bool false, .string ⟨#[]⟩, .slice none 0 0, .slice none 0 0, .int .u64 0] (w.heap.size + 2) (by simp))
  have HF := Kept.mk (free5_at ((w.alloc (.cells #[.int .i64 A.kind, .int .i64 A.time, .int .i64 A.node, .bool A.dead, .string ⟨A.text.toArray⟩, vp, vm, .int .u64 (A.flags.toNat : Int)] 25)).alloc (.cells #[.int .i64 B.kind, .int .i64 B.time, .int .i64 B.node, .bool B.dead, .string ⟨B.text.toArray⟩, up, um, .int .u64 (B.flags.toNat : Int)] 25)) #[.int .i64 0, .int .i64 0, .int .i64 0, .bool false, .string ⟨#[]⟩, .slice none 0 0, .slice none 0 0, .int .u64 0] 25 (w.heap.size + 2) (by simp))
  replace hV := Kept.mk ((hV.out.keep hB2.out).keep hB3)
  replace hU := Kept.mk (hU.out.keep hB3)
  have hB := Kept.mk ((hB1.out.trans (hB2.out.mono hB1.out.size)).trans (hB3.mono (hB1.out.trans (hB2.out.mono hB1.out.size)).size))
  have hX := Kept.mk (show isVa A (.agg #[.int .i64 A.kind, .int .i64 A.time, .int .i64 A.node, .bool A.dead, .string ⟨A.text.toArray⟩, vp, vm, .int .u64 (A.flags.toNat : Int)]) (((w.alloc (.cells #[.int .i64 A.kind, .int .i64 A.time, .int .i64 A.node, .bool A.dead, .string ⟨A.text.toArray⟩, vp, vm, .int .u64 (A.flags.toNat : Int)] 25)).alloc (.cells #[.int .i64 B.kind, .int .i64 B.time, .int .i64 B.node, .bool B.dead, .string ⟨B.text.toArray⟩, up, um, .int .u64 (B.flags.toNat : Int)] 25)).alloc (.cells #[.int .i64 0, .int .i64 0, .int .i64 0, .bool false, .string ⟨#[]⟩, .slice none 0 0, .slice none 0 0, .int .u64 0] 25)) from ⟨vp, vm, rfl, stable_cells _ _ _ _ hp hB.out, stable_cells _ _ _ _ hm hB.out⟩)
  have hs : (((w.alloc (.cells #[.int .i64 A.kind, .int .i64 A.time, .int .i64 A.node, .bool A.dead, .string ⟨A.text.toArray⟩, vp, vm, .int .u64 (A.flags.toNat : Int)] 25)).alloc (.cells #[.int .i64 B.kind, .int .i64 B.time, .int .i64 B.node, .bool B.dead, .string ⟨B.text.toArray⟩, up, um, .int .u64 (B.flags.toNat : Int)] 25)).alloc (.cells #[.int .i64 0, .int .i64 0, .int .i64 0, .bool false, .string ⟨#[]⟩, .slice none 0 0, .slice none 0 0, .int .u64 0] 25)).heap.size = w.heap.size + 3 := by simp
  clear hp hm gp gm hB1 hB2 hB3
  have HO : Kept (okV A = true) := ⟨by unfold okV; rw [h]; rfl⟩
  have HC : Kept (checkV B = 0) := ⟨by unfold checkV; rw [h2]; rfl⟩
  have HK := Kept.mk h
  have HI : Kept (ifaceK 3 = .iface 87 (.agg #[])) := ⟨rfl⟩
  have d3 : (A.kind == B.kind) = true := by simpa using h3
  clear h h2 h3
  go_enter Try.func15, Try.ntmps15
  go_wp2_with fail
  generalize ((w.alloc (.cells #[.int .i64 A.kind, .int .i64 A.time, .int .i64 A.node, .bool A.dead, .string ⟨A.text.toArray⟩, vp, vm, .int .u64 (A.flags.toNat : Int)] 25)).alloc (.cells #[.int .i64 B.kind, .int .i64 B.time, .int .i64 B.node, .bool B.dead, .string ⟨B.text.toArray⟩, up, um, .int .u64 (B.flags.toNat : Int)] 25)).alloc (.cells #[.int .i64 0, .int .i64 0, .int .i64 0, .bool false, .string ⟨#[]⟩, .slice none 0 0, .slice none 0 0, .int .u64 0] 25) = W0 at *
  refine (kv_any A _ _ hX.out hA).mono ?_
  rintro e w1 ⟨rfl, hb1⟩
  replace hV := Kept.mk (hV.out.keep hb1)
  replace hU := Kept.mk (hU.out.keep hb1)
  replace HF := Kept.mk (HF.out.keep hb1 HZ.out.1)
  replace HZ := Kept.mk (HZ.out.keep hb1 HZ.out.1)
  replace hB := Kept.mk (hB.out.trans (hb1.mono hB.out.size))
  have hs1 := hb1.size
  clear hb1 hX
  rewrite [HO.out, HK.out, HI.out]
  obtain ⟨qb, rb, xb, _, _, kb0, kb1, kb2, kb3, kb4, kb5, kb6, kb7⟩ := hU.out.open_
  have Xb := Kept.mk xb
  clear xb
  go_wp2_with fail
  refine (vcheck_any B _ _ Xb.out hB0).mono ?_
  rintro e w2 ⟨rfl, hb2⟩
  replace hV := Kept.mk (hV.out.keep hb2)
  replace hU := Kept.mk (hU.out.keep hb2)
  replace HF := Kept.mk (HF.out.keep hb2 HZ.out.1)
  replace HZ := Kept.mk (HZ.out.keep hb2 HZ.out.1)
  replace hB := Kept.mk (hB.out.trans (hb2.mono hB.out.size))
  have hs2 := hb2.size
  rewrite [HC.out]
  clear hb2
  clear Xb kb0 kb1 kb2 kb3 kb4 kb5 kb6 kb7
  obtain ⟨qa, ra, xa, _, _, ka0, ka1, ka2, ka3, ka4, ka5, ka6, ka7⟩ := hV.out.open_
  have Xa := Kept.mk xa
  clear xa
  obtain ⟨qb, rb, xb, _, _, kb0, kb1, kb2, kb3, kb4, kb5, kb6, kb7⟩ := hU.out.open_
  have Xb := Kept.mk xb
  clear xb
  have hinv : ∀ W : World, (invoke (.fn (.method "ouroboros/value.join") #[]) #[.iface 87 (.agg #[]), .agg #[.int .i64 A.kind, .int .i64 A.time, .int .i64 A.node, .bool A.dead, .string ⟨A.text.toArray⟩, qa, ra, .int .u64 (A.flags.toNat : Int)], .agg #[.int .i64 B.kind, .int .i64 B.time, .int .i64 B.node, .bool B.dead, .string ⟨B.text.toArray⟩, qb, rb, .int .u64 (B.flags.toNat : Int)]]).run Try.prog W = .ok (.enter 105 #[.agg #[], .agg #[.int .i64 A.kind, .int .i64 A.time, .int .i64 A.node, .bool A.dead, .string ⟨A.text.toArray⟩, qa, ra, .int .u64 (A.flags.toNat : Int)], .agg #[.int .i64 B.kind, .int .i64 B.time, .int .i64 B.node, .bool B.dead, .string ⟨B.text.toArray⟩, qb, rb, .int .u64 (B.flags.toNat : Int)]]) W := fun W => by kernel_rfl
  go_wp2_with fail
  refine (flagsJoin_any A B _ _ _ Xa.out Xb.out).mono ?_
  rintro e w3 ⟨v', rfl, ⟨p', m', rfl, hp1, hm1, np, nm⟩, hb3⟩
  have hZ1 := HZ.out.keep hb3 HZ.out.1
  have K1 := Kept.mk hZ1
  have K2 := Kept.mk (HF.out.keep hb3 HZ.out.1)
  obtain ⟨hBK, K4, K5⟩ := vset (joinFlags A B) p' m' (g := w.heap.size + 2) (by omega) (hB.out.trans (hb3.mono hB.out.size)) hZ1 rfl hp1 hm1 (np.ne (by omega)) (nm.ne (by omega))
  obtain ⟨hc', hp', hm'⟩ := K4.out
  replace np := np.low (B' := w.heap.size) (by omega)
  replace nm := nm.low (B' := w.heap.size) (by omega)
  clear K4 hp1 hm1 hZ1 hb3 hinv
  clear Xa ka0 ka1 ka2 ka3 ka4 ka5 ka6 ka7
  clear Xb kb0 kb1 kb2 kb3 kb4 kb5 kb6 kb7
  go_wp2_with (refine wpList_storeN 25 rfl (.tmp 4) (.tmp 30) rfl (w.heap.size + 2) [.int .i64 (joinFlags A B).kind, .int .i64 (joinFlags A B).time, .int .i64 (joinFlags A B).node, .bool (joinFlags A B).dead, .string ⟨(joinFlags A B).text.toArray⟩, p', m', .int .u64 ((joinFlags A B).flags.toNat : Int)] size_va rfl rfl K1.out rfl K2.out K5.out ?_)
  exact bodyPost_ret (resultsN2 rfl _ _ (w.heap.size + 2) _ (.int .i64 0) size_va agg_va rfl rfl hc') rfl ⟨_, rfl, ⟨_, _, rfl, hp', hm', np, nm⟩, hBK.out⟩
theorem vjoin_any (A B : Va) (v u : Value) (w : World) (hv : isVa A v w) (hu : isVa B u w) (hA : Fit A) (hB0 : Fit B) :
    Calls Try.prog 15 #[v, u] w fun e w' => ∃ v', e = .returned (.tuple #[v', .int .i64 (joinE A B)]) ∧ isVaN w.heap.size (joinF A B) v' w' ∧ Below w.heap.size w w' := by
  cases h1 : okV A with
  | false =>
    have e : joinE A B = 2 := by unfold joinE; rw [h1]; rfl
    rw [show joinF A B = zeroV by unfold joinF; rw [e]; rfl, e]
    exact vjoin_no1 A B v u w hv hu hA hB0 h1
  | true =>
    cases h2 : okV B with
    | false =>
      have e : joinE A B = 2 := by unfold joinE; rw [h1, h2]; rfl
      rw [show joinF A B = zeroV by unfold joinF; rw [e]; rfl, e]
      exact vjoin_no2 A B v u w hv hu hA hB0 h1 h2
    | true =>
      by_cases h3 : A.kind = B.kind
      · have e : joinE A B = 0 := joinE_zero.2 ⟨h1, h2, h3⟩
        have hk := kindN_ok h1
        rw [joinF_ok e, e]
        rcases ok_kind h1 with k | k | k
        · rw [joinV_reg k]; exact vjoin_reg A B v u w hv hu hA hB0 (by omega) h2 h3
        · have r1 := kindN_two (show kindN A = 2 by omega)
          have r2 := kindN_two (show kindN B = 2 by have := kindN_ok h2; omega)
          rw [joinV_count k]; exact vjoin_count A B v u w hv hu hA hB0 (by omega) h2 h3 (okRow_len r1.2.2.1) (okRow_len r1.2.2.2) (okRow_len r2.2.2.1) (okRow_len r2.2.2.2)
        · rw [joinV_flags k]; exact vjoin_flags A B v u w hv hu hA hB0 (by omega) h2 h3
      · have e : joinE A B = 3 := by unfold joinE; rw [h1, h2]; simp [h3]
        rw [show joinF A B = zeroV by unfold joinF; rw [e]; rfl, e]
        exact vjoin_no3 A B v u w hv hu hA hB0 h1 h2 h3
end Go.Proofs.Ytebjljiklacolaa
