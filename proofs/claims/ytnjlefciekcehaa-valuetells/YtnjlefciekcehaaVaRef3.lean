/- The document's Join. -/
import Derived.Test.YtnjlefciekcehaaVaMost2
namespace Go.Proofs.Ytnjlefciekcehaa
open Go.RowKit
set_option linter.unusedVariables false
set_option linter.unusedSimpArgs false
attribute [local irreducible] setN

theorem va_mk {A : Va} {vp vm : Value} {w : World} (hp : isCells (A.plus.map intC) vp w) (hm : isCells (A.minus.map intC) vm w) : isVa A (.agg #[.int .i64 A.kind, .int .i64 A.time, .int .i64 A.node, .bool A.dead, .string ⟨A.text.toArray⟩, vp, vm, .int .u64 (A.flags.toNat : Int)]) w := ⟨vp, vm, rfl, hp, hm⟩
theorem cells_up {cs : List Value} {v : Value} {w w' : World} (h : isCells cs v w) (hb : Below w.heap.size w w') : isCells cs v w' := stable_cells _ _ _ _ h hb
theorem vset2 {B g : Nat} {w0 w : World} (A : Va) (vp vm : Value) (hB : B ≤ g) (hb : Below B w0 w) {old : List Value} (hc : CellsN w g old) (h8 : old.length = 8) (hp : isCells (A.plus.map intC) vp w) (hm : isCells (A.minus.map intC) vm w) (np : A.plus ≠ [] → blk vp ≠ some g) (nm : A.minus ≠ [] → blk vm ≠ some g) :
    Kept (Below B w0 (setN w g 0 [.int .i64 A.kind, .int .i64 A.time, .int .i64 A.node, .bool A.dead, .string ⟨A.text.toArray⟩, vp, vm, .int .u64 (A.flags.toNat : Int)])) ∧ Kept (VarE (setN w g 0 [.int .i64 A.kind, .int .i64 A.time, .int .i64 A.node, .bool A.dead, .string ⟨A.text.toArray⟩, vp, vm, .int .u64 (A.flags.toNat : Int)]) g A vp vm) ∧ Kept (Ones [.int .i64 A.kind, .int .i64 A.time, .int .i64 A.node, .bool A.dead, .string ⟨A.text.toArray⟩, vp, vm, .int .u64 (A.flags.toNat : Int)]) := by
  have ap : ∀ (v : Value) (l : List Int), (l ≠ [] → blk v ≠ some g) → ∀ b off cap, v = .slice (some ⟨b, off, none⟩) (l.map intC).length cap → l.map intC ≠ [] → b ≠ g := by
    rintro v l h b off cap rfl hne rfl
    exact h (fun e => hne (by rw [e]; rfl)) rfl
  exact ⟨⟨below_setN hB _ 0 _ hb⟩, ⟨⟨hc.setN_ _ h8, cells_apart hp (ap vp _ np) _ _, cells_apart hm (ap vm _ nm) _ _⟩⟩, ⟨⟨rfl, rfl, rfl, rfl, rfl, hp.one, hm.one, rfl, trivial⟩⟩⟩
theorem CellsN.setAt {w : World} {g : Nat} {l : List Value} (h : CellsN w g l) (k : Nat) (v : Value) (hk : k < l.length) : CellsN (w.setCell ⟨g, k, none⟩ v) g (l.set k v) := by
  refine ⟨by rw [World.size_setCell]; exact h.1, fun j x hx => ?_⟩
  by_cases e : k = j
  · subst e
    rw [List.getElem?_set_self hk] at hx
    injection hx with hx
    subst hx
    exact World.cell?_setCell_same w _ _ (h.2 k _ (List.getElem?_eq_getElem hk))
  · rw [List.getElem?_set_ne e] at hx
    rw [World.cell?_setCell_other w _ _ _ (by intro hh; injection hh; omega)]
    exact h.2 j x hx
theorem CellsN.setOther {w : World} {g b : Nat} {l : List Value} (h : CellsN w g l) (hne : g ≠ b) (k : Nat) (v : Value) : CellsN (w.setCell ⟨b, k, none⟩ v) g l :=
  ⟨by rw [World.size_setCell]; exact h.1, fun j x hx => (World.cell?_setCell_other w _ _ _ (by intro e; injection e; omega)).trans (h.2 j x hx)⟩
def mergeV (A B : Va) : Va := ⟨A.kind, A.time, A.node, A.dead, A.text, List.zipWith maxI A.plus B.plus, List.zipWith maxI A.minus B.minus, A.flags ||| B.flags⟩
theorem merge_join {A B : Va} (h : joinE A B = 0) (k : A.kind ≠ 1) : joinF A B = mergeV A B ∧ A.plus.length = B.plus.length ∧ A.minus.length = B.minus.length := by
  obtain ⟨hA, hB, hk⟩ := joinE_zero.1 h
  rw [joinF_ok h]
  rcases ok_kind hA with k1 | k2 | k3
  · exact absurd k1 k
  · obtain ⟨a1, a2⟩ := ok_count hA k2
    obtain ⟨b1, b2⟩ := ok_count hB (by omega)
    unfold inCount at a1 b1
    rw [Bool.and_eq_true] at a1 b1
    rw [joinV_count k2]
    refine ⟨?_, by rw [okRow_len a1.1, okRow_len b1.1], by rw [okRow_len a1.2, okRow_len b1.2]⟩
    have e1 : A.time = 0 := congrArg Va.time a2
    have e2 : A.node = 0 := congrArg Va.node a2
    have e3 : A.flags = 0 := congrArg Va.flags a2
    have e4 : A.dead = false := congrArg Va.dead a2
    have e5 : A.text = [] := congrArg Va.text a2
    have e6 : B.flags = 0 := congrArg Va.flags b2
    unfold joinCount mergeV
    rw [k2, e1, e2, e3, e4, e5, e6]
    rfl
  · have a2 := ok_flags hA k3
    have b2 := ok_flags hB (by omega)
    have e1 : A.time = 0 := congrArg Va.time a2
    have e2 : A.node = 0 := congrArg Va.node a2
    have e4 : A.dead = false := congrArg Va.dead a2
    have e5 : A.text = [] := congrArg Va.text a2
    have e6 : A.plus = [] := congrArg Va.plus a2
    have e7 : A.minus = [] := congrArg Va.minus a2
    have f6 : B.plus = [] := congrArg Va.plus b2
    have f7 : B.minus = [] := congrArg Va.minus b2
    rw [joinV_flags k3]
    refine ⟨?_, by rw [e6, f6], by rw [e7, f7]⟩
    unfold joinFlags mergeV
    rw [k3, e1, e2, e4, e5, e6, e7]
    rfl
set_option maxRecDepth 20000 in
set_option maxHeartbeats 2000000 in
theorem rjoin_no1 (A B : Va) (v u : Value) (w : World) (hv : isVa A v w) (hu : isVa B u w) (hA : Fit A) (hC : Fit B) (h : okV A = false) :
    Calls Try.prog 14 #[v, u] w fun e w' => ∃ v', e = .returned (.tuple #[v', .int .i64 2]) ∧ isVa zeroV v' w' ∧ Below w.heap.size w w' := by
  obtain ⟨vp, vm, rfl, hp, hm⟩ := hv
  obtain ⟨up, um, rfl, gp, gm⟩ := hu
  have hB1 := lit_below w (.cells #[.int .i64 A.kind, .int .i64 A.time, .int .i64 A.node, .bool A.dead, .string ⟨A.text.toArray⟩, vp, vm, .int .u64 (A.flags.toNat : Int)] 25)
  have hB2 := lit_below (w.alloc (.cells #[.int .i64 A.kind, .int .i64 A.time, .int .i64 A.node, .bool A.dead, .string ⟨A.text.toArray⟩, vp, vm, .int .u64 (A.flags.toNat : Int)] 25)) (.cells #[.int .i64 B.kind, .int .i64 B.time, .int .i64 B.node, .bool B.dead, .string ⟨B.text.toArray⟩, up, um, .int .u64 (B.flags.toNat : Int)] 25)
  have hB3 := lit_below ((w.alloc (.cells #[.int .i64 A.kind, .int .i64 A.time, .int .i64 A.node, .bool A.dead, .string ⟨A.text.toArray⟩, vp, vm, .int .u64 (A.flags.toNat : Int)] 25)).alloc (.cells #[.int .i64 B.kind, .int .i64 B.time, .int .i64 B.node, .bool B.dead, .string ⟨B.text.toArray⟩, up, um, .int .u64 (B.flags.toNat : Int)] 25)) (.cells #[.int .i64 0, .int .i64 0, .int .i64 0, .bool false, .string ⟨#[]⟩, .slice none 0 0, .slice none 0 0, .int .u64 0] 25)
  have hB := Kept.mk ((hB1.trans (hB2.mono hB1.size)).trans (hB3.mono (hB1.trans (hB2.mono hB1.size)).size))
  have CA := Kept.mk (((cellsN_at w 25 [.int .i64 A.kind, .int .i64 A.time, .int .i64 A.node, .bool A.dead, .string ⟨A.text.toArray⟩, vp, vm, .int .u64 (A.flags.toNat : Int)] w.heap.size rfl).keep hB2 (by simp)).keep hB3 (by simp <;> omega))
  have CB := Kept.mk ((cellsN_at (w.alloc (.cells #[.int .i64 A.kind, .int .i64 A.time, .int .i64 A.node, .bool A.dead, .string ⟨A.text.toArray⟩, vp, vm, .int .u64 (A.flags.toNat : Int)] 25)) 25 [.int .i64 B.kind, .int .i64 B.time, .int .i64 B.node, .bool B.dead, .string ⟨B.text.toArray⟩, up, um, .int .u64 (B.flags.toNat : Int)] (w.heap.size + 1) (by simp)).keep hB3 (by simp))
  have HZ := Kept.mk (cellsN_at ((w.alloc (.cells #[.int .i64 A.kind, .int .i64 A.time, .int .i64 A.node, .bool A.dead, .string ⟨A.text.toArray⟩, vp, vm, .int .u64 (A.flags.toNat : Int)] 25)).alloc (.cells #[.int .i64 B.kind, .int .i64 B.time, .int .i64 B.node, .bool B.dead, .string ⟨B.text.toArray⟩, up, um, .int .u64 (B.flags.toNat : Int)] 25)) 25 [.int .i64 0, .int .i64 0, .int .i64 0, .bool false, .string ⟨#[]⟩, .slice none 0 0, .slice none 0 0, .int .u64 0] (w.heap.size + 2) (by simp))
  have FA := Kept.mk (((free5_at w #[.int .i64 A.kind, .int .i64 A.time, .int .i64 A.node, .bool A.dead, .string ⟨A.text.toArray⟩, vp, vm, .int .u64 (A.flags.toNat : Int)] 25 w.heap.size rfl).keep hB2 (by simp)).keep hB3 (by simp <;> omega))
  have HF := Kept.mk (free5_at ((w.alloc (.cells #[.int .i64 A.kind, .int .i64 A.time, .int .i64 A.node, .bool A.dead, .string ⟨A.text.toArray⟩, vp, vm, .int .u64 (A.flags.toNat : Int)] 25)).alloc (.cells #[.int .i64 B.kind, .int .i64 B.time, .int .i64 B.node, .bool B.dead, .string ⟨B.text.toArray⟩, up, um, .int .u64 (B.flags.toNat : Int)] 25)) #[.int .i64 0, .int .i64 0, .int .i64 0, .bool false, .string ⟨#[]⟩, .slice none 0 0, .slice none 0 0, .int .u64 0] 25 (w.heap.size + 2) (by simp))
  have hs : Kept ((((w.alloc (.cells #[.int .i64 A.kind, .int .i64 A.time, .int .i64 A.node, .bool A.dead, .string ⟨A.text.toArray⟩, vp, vm, .int .u64 (A.flags.toNat : Int)] 25)).alloc (.cells #[.int .i64 B.kind, .int .i64 B.time, .int .i64 B.node, .bool B.dead, .string ⟨B.text.toArray⟩, up, um, .int .u64 (B.flags.toNat : Int)] 25)).alloc (.cells #[.int .i64 0, .int .i64 0, .int .i64 0, .bool false, .string ⟨#[]⟩, .slice none 0 0, .slice none 0 0, .int .u64 0] 25)).heap.size = w.heap.size + 3) := ⟨by simp⟩
  have HP := Kept.mk hp
  have HM := Kept.mk hm
  have GP := Kept.mk gp
  have GM := Kept.mk gm
  clear hp hm gp gm hB1 hB2 hB3
  have HO := Kept.mk h
  clear h
  go_enter Try.func14, Try.ntmps14
  go_wp2_with fail
  generalize ((w.alloc (.cells #[.int .i64 A.kind, .int .i64 A.time, .int .i64 A.node, .bool A.dead, .string ⟨A.text.toArray⟩, vp, vm, .int .u64 (A.flags.toNat : Int)] 25)).alloc (.cells #[.int .i64 B.kind, .int .i64 B.time, .int .i64 B.node, .bool B.dead, .string ⟨B.text.toArray⟩, up, um, .int .u64 (B.flags.toNat : Int)] 25)).alloc (.cells #[.int .i64 0, .int .i64 0, .int .i64 0, .bool false, .string ⟨#[]⟩, .slice none 0 0, .slice none 0 0, .int .u64 0] 25) = W0 at *
  replace hs := Kept.mk (Nat.le_of_eq hs.out.symm)
  ((with_reducible refine (rcheck_any A _ _ (show isVa A (.agg #[.int .i64 A.kind, .int .i64 A.time, .int .i64 A.node, .bool A.dead, .string ⟨A.text.toArray⟩, vp, vm, .int .u64 (A.flags.toNat : Int)]) W0 from va_mk (cells_up HP.out hB.out) (cells_up HM.out hB.out)) hA).mono ?_); rintro e w1 ⟨rfl, hb1⟩)
  have hgA := CA.out.1
  replace FA := Kept.mk (FA.out.keep hb1 (Nat.lt_of_lt_of_le (by show w.heap.size < _; exact hgA) (Nat.le_refl _)))
  replace HF := Kept.mk (HF.out.keep hb1 HZ.out.1)
  replace CA := Kept.mk (CA.out.keep hb1 CA.out.1)
  replace CB := Kept.mk (CB.out.keep hb1 CB.out.1)
  replace HZ := Kept.mk (HZ.out.keep hb1 HZ.out.1)
  replace hB := Kept.mk (hB.out.trans (hb1.mono hB.out.size))
  replace hs := Kept.mk (Nat.le_trans hs.out hb1.size)
  clear hb1 hgA
  rewrite [HO.out]
  obtain ⟨hBK, K4, K5⟩ := vset zeroV (.slice none 0 0) (.slice none 0 0) (g := w.heap.size + 2) (by omega) hB.out HZ.out rfl (.inl ⟨rfl, rfl⟩) (.inl ⟨rfl, rfl⟩) (by intro h; cases h) (by intro h; cases h)
  obtain ⟨hc', hp', hm'⟩ := K4.out
  clear K4
  go_wp2_with (have hz0 := K5; refine wpList_storeN 25 rfl (.tmp 4) (.tmp 14) rfl (w.heap.size + 2) [.int .i64 0, .int .i64 0, .int .i64 0, .bool false, .string ⟨#[]⟩, .slice none 0 0, .slice none 0 0, .int .u64 0] size_va rfl rfl HZ.out rfl HF.out K5.out ?_; clear hz0 K5)
  exact bodyPost_ret (resultsN2 rfl _ _ (w.heap.size + 2) _ (.int .i64 2) size_va agg_va rfl rfl hc') rfl ⟨_, rfl, ⟨(.slice none 0 0), (.slice none 0 0), rfl, hp', hm'⟩, hBK.out⟩
set_option maxRecDepth 20000 in
set_option maxHeartbeats 2000000 in
theorem rjoin_no2 (A B : Va) (v u : Value) (w : World) (hv : isVa A v w) (hu : isVa B u w) (hA : Fit A) (hC : Fit B) (h : okV A = true) (h2 : okV B = false) :
    Calls Try.prog 14 #[v, u] w fun e w' => ∃ v', e = .returned (.tuple #[v', .int .i64 2]) ∧ isVa zeroV v' w' ∧ Below w.heap.size w w' := by
  obtain ⟨vp, vm, rfl, hp, hm⟩ := hv
  obtain ⟨up, um, rfl, gp, gm⟩ := hu
  have hB1 := lit_below w (.cells #[.int .i64 A.kind, .int .i64 A.time, .int .i64 A.node, .bool A.dead, .string ⟨A.text.toArray⟩, vp, vm, .int .u64 (A.flags.toNat : Int)] 25)
  have hB2 := lit_below (w.alloc (.cells #[.int .i64 A.kind, .int .i64 A.time, .int .i64 A.node, .bool A.dead, .string ⟨A.text.toArray⟩, vp, vm, .int .u64 (A.flags.toNat : Int)] 25)) (.cells #[.int .i64 B.kind, .int .i64 B.time, .int .i64 B.node, .bool B.dead, .string ⟨B.text.toArray⟩, up, um, .int .u64 (B.flags.toNat : Int)] 25)
  have hB3 := lit_below ((w.alloc (.cells #[.int .i64 A.kind, .int .i64 A.time, .int .i64 A.node, .bool A.dead, .string ⟨A.text.toArray⟩, vp, vm, .int .u64 (A.flags.toNat : Int)] 25)).alloc (.cells #[.int .i64 B.kind, .int .i64 B.time, .int .i64 B.node, .bool B.dead, .string ⟨B.text.toArray⟩, up, um, .int .u64 (B.flags.toNat : Int)] 25)) (.cells #[.int .i64 0, .int .i64 0, .int .i64 0, .bool false, .string ⟨#[]⟩, .slice none 0 0, .slice none 0 0, .int .u64 0] 25)
  have hB := Kept.mk ((hB1.trans (hB2.mono hB1.size)).trans (hB3.mono (hB1.trans (hB2.mono hB1.size)).size))
  have CA := Kept.mk (((cellsN_at w 25 [.int .i64 A.kind, .int .i64 A.time, .int .i64 A.node, .bool A.dead, .string ⟨A.text.toArray⟩, vp, vm, .int .u64 (A.flags.toNat : Int)] w.heap.size rfl).keep hB2 (by simp)).keep hB3 (by simp <;> omega))
  have CB := Kept.mk ((cellsN_at (w.alloc (.cells #[.int .i64 A.kind, .int .i64 A.time, .int .i64 A.node, .bool A.dead, .string ⟨A.text.toArray⟩, vp, vm, .int .u64 (A.flags.toNat : Int)] 25)) 25 [.int .i64 B.kind, .int .i64 B.time, .int .i64 B.node, .bool B.dead, .string ⟨B.text.toArray⟩, up, um, .int .u64 (B.flags.toNat : Int)] (w.heap.size + 1) (by simp)).keep hB3 (by simp))
  have HZ := Kept.mk (cellsN_at ((w.alloc (.cells #[.int .i64 A.kind, .int .i64 A.time, .int .i64 A.node, .bool A.dead, .string ⟨A.text.toArray⟩, vp, vm, .int .u64 (A.flags.toNat : Int)] 25)).alloc (.cells #[.int .i64 B.kind, .int .i64 B.time, .int .i64 B.node, .bool B.dead, .string ⟨B.text.toArray⟩, up, um, .int .u64 (B.flags.toNat : Int)] 25)) 25 [.int .i64 0, .int .i64 0, .int .i64 0, .bool false, .string ⟨#[]⟩, .slice none 0 0, .slice none 0 0, .int .u64 0] (w.heap.size + 2) (by simp))
  have FA := Kept.mk (((free5_at w #[.int .i64 A.kind, .int .i64 A.time, .int .i64 A.node, .bool A.dead, .string ⟨A.text.toArray⟩, vp, vm, .int .u64 (A.flags.toNat : Int)] 25 w.heap.size rfl).keep hB2 (by simp)).keep hB3 (by simp <;> omega))
  have HF := Kept.mk (free5_at ((w.alloc (.cells #[.int .i64 A.kind, .int .i64 A.time, .int .i64 A.node, .bool A.dead, .string ⟨A.text.toArray⟩, vp, vm, .int .u64 (A.flags.toNat : Int)] 25)).alloc (.cells #[.int .i64 B.kind, .int .i64 B.time, .int .i64 B.node, .bool B.dead, .string ⟨B.text.toArray⟩, up, um, .int .u64 (B.flags.toNat : Int)] 25)) #[.int .i64 0, .int .i64 0, .int .i64 0, .bool false, .string ⟨#[]⟩, .slice none 0 0, .slice none 0 0, .int .u64 0] 25 (w.heap.size + 2) (by simp))
  have hs : Kept ((((w.alloc (.cells #[.int .i64 A.kind, .int .i64 A.time, .int .i64 A.node, .bool A.dead, .string ⟨A.text.toArray⟩, vp, vm, .int .u64 (A.flags.toNat : Int)] 25)).alloc (.cells #[.int .i64 B.kind, .int .i64 B.time, .int .i64 B.node, .bool B.dead, .string ⟨B.text.toArray⟩, up, um, .int .u64 (B.flags.toNat : Int)] 25)).alloc (.cells #[.int .i64 0, .int .i64 0, .int .i64 0, .bool false, .string ⟨#[]⟩, .slice none 0 0, .slice none 0 0, .int .u64 0] 25)).heap.size = w.heap.size + 3) := ⟨by simp⟩
  have HP := Kept.mk hp
  have HM := Kept.mk hm
  have GP := Kept.mk gp
  have GM := Kept.mk gm
  clear hp hm gp gm hB1 hB2 hB3
  have HO := Kept.mk h
  have HO2 := Kept.mk h2
  clear h h2
  go_enter Try.func14, Try.ntmps14
  go_wp2_with fail
  generalize ((w.alloc (.cells #[.int .i64 A.kind, .int .i64 A.time, .int .i64 A.node, .bool A.dead, .string ⟨A.text.toArray⟩, vp, vm, .int .u64 (A.flags.toNat : Int)] 25)).alloc (.cells #[.int .i64 B.kind, .int .i64 B.time, .int .i64 B.node, .bool B.dead, .string ⟨B.text.toArray⟩, up, um, .int .u64 (B.flags.toNat : Int)] 25)).alloc (.cells #[.int .i64 0, .int .i64 0, .int .i64 0, .bool false, .string ⟨#[]⟩, .slice none 0 0, .slice none 0 0, .int .u64 0] 25) = W0 at *
  replace hs := Kept.mk (Nat.le_of_eq hs.out.symm)
  ((with_reducible refine (rcheck_any A _ _ (show isVa A (.agg #[.int .i64 A.kind, .int .i64 A.time, .int .i64 A.node, .bool A.dead, .string ⟨A.text.toArray⟩, vp, vm, .int .u64 (A.flags.toNat : Int)]) W0 from va_mk (cells_up HP.out hB.out) (cells_up HM.out hB.out)) hA).mono ?_); rintro e w1 ⟨rfl, hb1⟩)
  have hgA := CA.out.1
  replace FA := Kept.mk (FA.out.keep hb1 (Nat.lt_of_lt_of_le (by show w.heap.size < _; exact hgA) (Nat.le_refl _)))
  replace HF := Kept.mk (HF.out.keep hb1 HZ.out.1)
  replace CA := Kept.mk (CA.out.keep hb1 CA.out.1)
  replace CB := Kept.mk (CB.out.keep hb1 CB.out.1)
  replace HZ := Kept.mk (HZ.out.keep hb1 HZ.out.1)
  replace hB := Kept.mk (hB.out.trans (hb1.mono hB.out.size))
  replace hs := Kept.mk (Nat.le_trans hs.out hb1.size)
  clear hb1 hgA
  rewrite [HO.out]
  have kb0 := CB.out.2 0 _ rfl
  have kb1 := CB.out.2 1 _ rfl
  have kb2 := CB.out.2 2 _ rfl
  have kb3 := CB.out.2 3 _ rfl
  have kb4 := CB.out.2 4 _ rfl
  have kb5 := CB.out.2 5 _ rfl
  have kb6 := CB.out.2 6 _ rfl
  have kb7 := CB.out.2 7 _ rfl
  go_wp2_with fail
  ((with_reducible refine (rcheck_any B _ _ (show isVa B (.agg #[.int .i64 B.kind, .int .i64 B.time, .int .i64 B.node, .bool B.dead, .string ⟨B.text.toArray⟩, up, um, .int .u64 (B.flags.toNat : Int)]) w1 from va_mk (cells_up GP.out hB.out) (cells_up GM.out hB.out)) hC).mono ?_); rintro e w2 ⟨rfl, hb1⟩)
  clear kb0 kb1 kb2 kb3 kb4 kb5 kb6 kb7
  have hgA := CA.out.1
  replace FA := Kept.mk (FA.out.keep hb1 (Nat.lt_of_lt_of_le (by show w.heap.size < _; exact hgA) (Nat.le_refl _)))
  replace HF := Kept.mk (HF.out.keep hb1 HZ.out.1)
  replace CA := Kept.mk (CA.out.keep hb1 CA.out.1)
  replace CB := Kept.mk (CB.out.keep hb1 CB.out.1)
  replace HZ := Kept.mk (HZ.out.keep hb1 HZ.out.1)
  replace hB := Kept.mk (hB.out.trans (hb1.mono hB.out.size))
  replace hs := Kept.mk (Nat.le_trans hs.out hb1.size)
  clear hb1 hgA
  rewrite [HO2.out]
  obtain ⟨hBK, K4, K5⟩ := vset zeroV (.slice none 0 0) (.slice none 0 0) (g := w.heap.size + 2) (by omega) hB.out HZ.out rfl (.inl ⟨rfl, rfl⟩) (.inl ⟨rfl, rfl⟩) (by intro h; cases h) (by intro h; cases h)
  obtain ⟨hc', hp', hm'⟩ := K4.out
  clear K4
  go_wp2_with (have hz0 := K5; refine wpList_storeN 25 rfl (.tmp 4) (.tmp 14) rfl (w.heap.size + 2) [.int .i64 0, .int .i64 0, .int .i64 0, .bool false, .string ⟨#[]⟩, .slice none 0 0, .slice none 0 0, .int .u64 0] size_va rfl rfl HZ.out rfl HF.out K5.out ?_; clear hz0 K5)
  exact bodyPost_ret (resultsN2 rfl _ _ (w.heap.size + 2) _ (.int .i64 2) size_va agg_va rfl rfl hc') rfl ⟨_, rfl, ⟨(.slice none 0 0), (.slice none 0 0), rfl, hp', hm'⟩, hBK.out⟩
set_option maxRecDepth 20000 in
set_option maxHeartbeats 2000000 in
theorem rjoin_no3 (A B : Va) (v u : Value) (w : World) (hv : isVa A v w) (hu : isVa B u w) (hA : Fit A) (hC : Fit B) (h : okV A = true) (h2 : okV B = true) (h3 : A.kind ≠ B.kind) :
    Calls Try.prog 14 #[v, u] w fun e w' => ∃ v', e = .returned (.tuple #[v', .int .i64 3]) ∧ isVa zeroV v' w' ∧ Below w.heap.size w w' := by
  obtain ⟨vp, vm, rfl, hp, hm⟩ := hv
  obtain ⟨up, um, rfl, gp, gm⟩ := hu
  have hB1 := lit_below w (.cells #[.int .i64 A.kind, .int .i64 A.time, .int .i64 A.node, .bool A.dead, .string ⟨A.text.toArray⟩, vp, vm, .int .u64 (A.flags.toNat : Int)] 25)
  have hB2 := lit_below (w.alloc (.cells #[.int .i64 A.kind, .int .i64 A.time, .int .i64 A.node, .bool A.dead, .string ⟨A.text.toArray⟩, vp, vm, .int .u64 (A.flags.toNat : Int)] 25)) (.cells #[.int .i64 B.kind, .int .i64 B.time, .int .i64 B.node, .bool B.dead, .string ⟨B.text.toArray⟩, up, um, .int .u64 (B.flags.toNat : Int)] 25)
  have hB3 := lit_below ((w.alloc (.cells #[.int .i64 A.kind, .int .i64 A.time, .int .i64 A.node, .bool A.dead, .string ⟨A.text.toArray⟩, vp, vm, .int .u64 (A.flags.toNat : Int)] 25)).alloc (.cells #[.int .i64 B.kind, .int .i64 B.time, .int .i64 B.node, .bool B.dead, .string ⟨B.text.toArray⟩, up, um, .int .u64 (B.flags.toNat : Int)] 25)) (.cells #[.int .i64 0, .int .i64 0, .int .i64 0, .bool false, .string ⟨#[]⟩, .slice none 0 0, .slice none 0 0, .int .u64 0] 25)
  have hB := Kept.mk ((hB1.trans (hB2.mono hB1.size)).trans (hB3.mono (hB1.trans (hB2.mono hB1.size)).size))
  have CA := Kept.mk (((cellsN_at w 25 [.int .i64 A.kind, .int .i64 A.time, .int .i64 A.node, .bool A.dead, .string ⟨A.text.toArray⟩, vp, vm, .int .u64 (A.flags.toNat : Int)] w.heap.size rfl).keep hB2 (by simp)).keep hB3 (by simp <;> omega))
  have CB := Kept.mk ((cellsN_at (w.alloc (.cells #[.int .i64 A.kind, .int .i64 A.time, .int .i64 A.node, .bool A.dead, .string ⟨A.text.toArray⟩, vp, vm, .int .u64 (A.flags.toNat : Int)] 25)) 25 [.int .i64 B.kind, .int .i64 B.time, .int .i64 B.node, .bool B.dead, .string ⟨B.text.toArray⟩, up, um, .int .u64 (B.flags.toNat : Int)] (w.heap.size + 1) (by simp)).keep hB3 (by simp))
  have HZ := Kept.mk (cellsN_at ((w.alloc (.cells #[.int .i64 A.kind, .int .i64 A.time, .int .i64 A.node, .bool A.dead, .string ⟨A.text.toArray⟩, vp, vm, .int .u64 (A.flags.toNat : Int)] 25)).alloc (.cells #[.int .i64 B.kind, .int .i64 B.time, .int .i64 B.node, .bool B.dead, .string ⟨B.text.toArray⟩, up, um, .int .u64 (B.flags.toNat : Int)] 25)) 25 [.int .i64 0, .int .i64 0, .int .i64 0, .bool false, .string ⟨#[]⟩, .slice none 0 0, .slice none 0 0, .int .u64 0] (w.heap.size + 2) (by simp))
  have FA := Kept.mk (((free5_at w #[.int .i64 A.kind, .int .i64 A.time, .int .i64 A.node, .bool A.dead, .string ⟨A.text.toArray⟩, vp, vm, .int .u64 (A.flags.toNat : Int)] 25 w.heap.size rfl).keep hB2 (by simp)).keep hB3 (by simp <;> omega))
  have HF := Kept.mk (free5_at ((w.alloc (.cells #[.int .i64 A.kind, .int .i64 A.time, .int .i64 A.node, .bool A.dead, .string ⟨A.text.toArray⟩, vp, vm, .int .u64 (A.flags.toNat : Int)] 25)).alloc (.cells #[.int .i64 B.kind, .int .i64 B.time, .int .i64 B.node, .bool B.dead, .string ⟨B.text.toArray⟩, up, um, .int .u64 (B.flags.toNat : Int)] 25)) #[.int .i64 0, .int .i64 0, .int .i64 0, .bool false, .string ⟨#[]⟩, .slice none 0 0, .slice none 0 0, .int .u64 0] 25 (w.heap.size + 2) (by simp))
  have hs : Kept ((((w.alloc (.cells #[.int .i64 A.kind, .int .i64 A.time, .int .i64 A.node, .bool A.dead, .string ⟨A.text.toArray⟩, vp, vm, .int .u64 (A.flags.toNat : Int)] 25)).alloc (.cells #[.int .i64 B.kind, .int .i64 B.time, .int .i64 B.node, .bool B.dead, .string ⟨B.text.toArray⟩, up, um, .int .u64 (B.flags.toNat : Int)] 25)).alloc (.cells #[.int .i64 0, .int .i64 0, .int .i64 0, .bool false, .string ⟨#[]⟩, .slice none 0 0, .slice none 0 0, .int .u64 0] 25)).heap.size = w.heap.size + 3) := ⟨by simp⟩
  have HP := Kept.mk hp
  have HM := Kept.mk hm
  have GP := Kept.mk gp
  have GM := Kept.mk gm
  clear hp hm gp gm hB1 hB2 hB3
  have HO := Kept.mk h
  have HO2 := Kept.mk h2
  have d3 : (A.kind == B.kind) = false := by simpa using h3
  clear h h2 h3
  go_enter Try.func14, Try.ntmps14
  go_wp2_with fail
  generalize ((w.alloc (.cells #[.int .i64 A.kind, .int .i64 A.time, .int .i64 A.node, .bool A.dead, .string ⟨A.text.toArray⟩, vp, vm, .int .u64 (A.flags.toNat : Int)] 25)).alloc (.cells #[.int .i64 B.kind, .int .i64 B.time, .int .i64 B.node, .bool B.dead, .string ⟨B.text.toArray⟩, up, um, .int .u64 (B.flags.toNat : Int)] 25)).alloc (.cells #[.int .i64 0, .int .i64 0, .int .i64 0, .bool false, .string ⟨#[]⟩, .slice none 0 0, .slice none 0 0, .int .u64 0] 25) = W0 at *
  replace hs := Kept.mk (Nat.le_of_eq hs.out.symm)
  ((with_reducible refine (rcheck_any A _ _ (show isVa A (.agg #[.int .i64 A.kind, .int .i64 A.time, .int .i64 A.node, .bool A.dead, .string ⟨A.text.toArray⟩, vp, vm, .int .u64 (A.flags.toNat : Int)]) W0 from va_mk (cells_up HP.out hB.out) (cells_up HM.out hB.out)) hA).mono ?_); rintro e w1 ⟨rfl, hb1⟩)
  have hgA := CA.out.1
  replace FA := Kept.mk (FA.out.keep hb1 (Nat.lt_of_lt_of_le (by show w.heap.size < _; exact hgA) (Nat.le_refl _)))
  replace HF := Kept.mk (HF.out.keep hb1 HZ.out.1)
  replace CA := Kept.mk (CA.out.keep hb1 CA.out.1)
  replace CB := Kept.mk (CB.out.keep hb1 CB.out.1)
  replace HZ := Kept.mk (HZ.out.keep hb1 HZ.out.1)
  replace hB := Kept.mk (hB.out.trans (hb1.mono hB.out.size))
  replace hs := Kept.mk (Nat.le_trans hs.out hb1.size)
  clear hb1 hgA
  rewrite [HO.out]
  have kb0 := CB.out.2 0 _ rfl
  have kb1 := CB.out.2 1 _ rfl
  have kb2 := CB.out.2 2 _ rfl
  have kb3 := CB.out.2 3 _ rfl
  have kb4 := CB.out.2 4 _ rfl
  have kb5 := CB.out.2 5 _ rfl
  have kb6 := CB.out.2 6 _ rfl
  have kb7 := CB.out.2 7 _ rfl
  go_wp2_with fail
  ((with_reducible refine (rcheck_any B _ _ (show isVa B (.agg #[.int .i64 B.kind, .int .i64 B.time, .int .i64 B.node, .bool B.dead, .string ⟨B.text.toArray⟩, up, um, .int .u64 (B.flags.toNat : Int)]) w1 from va_mk (cells_up GP.out hB.out) (cells_up GM.out hB.out)) hC).mono ?_); rintro e w2 ⟨rfl, hb1⟩)
  clear kb0 kb1 kb2 kb3 kb4 kb5 kb6 kb7
  have hgA := CA.out.1
  replace FA := Kept.mk (FA.out.keep hb1 (Nat.lt_of_lt_of_le (by show w.heap.size < _; exact hgA) (Nat.le_refl _)))
  replace HF := Kept.mk (HF.out.keep hb1 HZ.out.1)
  replace CA := Kept.mk (CA.out.keep hb1 CA.out.1)
  replace CB := Kept.mk (CB.out.keep hb1 CB.out.1)
  replace HZ := Kept.mk (HZ.out.keep hb1 HZ.out.1)
  replace hB := Kept.mk (hB.out.trans (hb1.mono hB.out.size))
  replace hs := Kept.mk (Nat.le_trans hs.out hb1.size)
  clear hb1 hgA
  rewrite [HO2.out]
  obtain ⟨hBK, K4, K5⟩ := vset zeroV (.slice none 0 0) (.slice none 0 0) (g := w.heap.size + 2) (by omega) hB.out HZ.out rfl (.inl ⟨rfl, rfl⟩) (.inl ⟨rfl, rfl⟩) (by intro h; cases h) (by intro h; cases h)
  have ka0 := CA.out.2 0 _ rfl
  have kb0 := CB.out.2 0 _ rfl
  obtain ⟨hc', hp', hm'⟩ := K4.out
  clear K4
  go_wp2_with (have hz0 := K5; refine wpList_storeN 25 rfl (.tmp 4) (.tmp 20) rfl (w.heap.size + 2) [.int .i64 0, .int .i64 0, .int .i64 0, .bool false, .string ⟨#[]⟩, .slice none 0 0, .slice none 0 0, .int .u64 0] size_va rfl rfl HZ.out rfl HF.out K5.out ?_; clear hz0 K5)
  exact bodyPost_ret (resultsN2 rfl _ _ (w.heap.size + 2) _ (.int .i64 3) size_va agg_va rfl rfl hc') rfl ⟨_, rfl, ⟨(.slice none 0 0), (.slice none 0 0), rfl, hp', hm'⟩, hBK.out⟩
set_option maxRecDepth 20000 in
set_option maxHeartbeats 2000000 in
theorem rjoin_reg_true (A B : Va) (v u : Value) (w : World) (hv : isVa A v w) (hu : isVa B u w) (hA : Fit A) (hC : Fit B) (h : okV A = true) (h2 : okV B = true) (h3 : A.kind = B.kind) (h4 : A.kind = 1) (h5 : behindB B A = true) (hn1 : B.plus = []) (hn2 : B.minus = []) :
    Calls Try.prog 14 #[v, u] w fun e w' => ∃ v', e = .returned (.tuple #[v', .int .i64 0]) ∧ isVa B v' w' ∧ Below w.heap.size w w' := by
  obtain ⟨vp, vm, rfl, hp, hm⟩ := hv
  obtain ⟨up, um, rfl, gp, gm⟩ := hu
  have hB1 := lit_below w (.cells #[.int .i64 A.kind, .int .i64 A.time, .int .i64 A.node, .bool A.dead, .string ⟨A.text.toArray⟩, vp, vm, .int .u64 (A.flags.toNat : Int)] 25)
  have hB2 := lit_below (w.alloc (.cells #[.int .i64 A.kind, .int .i64 A.time, .int .i64 A.node, .bool A.dead, .string ⟨A.text.toArray⟩, vp, vm, .int .u64 (A.flags.toNat : Int)] 25)) (.cells #[.int .i64 B.kind, .int .i64 B.time, .int .i64 B.node, .bool B.dead, .string ⟨B.text.toArray⟩, up, um, .int .u64 (B.flags.toNat : Int)] 25)
  have hB3 := lit_below ((w.alloc (.cells #[.int .i64 A.kind, .int .i64 A.time, .int .i64 A.node, .bool A.dead, .string ⟨A.text.toArray⟩, vp, vm, .int .u64 (A.flags.toNat : Int)] 25)).alloc (.cells #[.int .i64 B.kind, .int .i64 B.time, .int .i64 B.node, .bool B.dead, .string ⟨B.text.toArray⟩, up, um, .int .u64 (B.flags.toNat : Int)] 25)) (.cells #[.int .i64 0, .int .i64 0, .int .i64 0, .bool false, .string ⟨#[]⟩, .slice none 0 0, .slice none 0 0, .int .u64 0] 25)
  have hB := Kept.mk ((hB1.trans (hB2.mono hB1.size)).trans (hB3.mono (hB1.trans (hB2.mono hB1.size)).size))
  have CA := Kept.mk (((cellsN_at w 25 [.int .i64 A.kind, .int .i64 A.time, .int .i64 A.node, .bool A.dead, .string ⟨A.text.toArray⟩, vp, vm, .int .u64 (A.flags.toNat : Int)] w.heap.size rfl).keep hB2 (by simp)).keep hB3 (by simp <;> omega))
  have CB := Kept.mk ((cellsN_at (w.alloc (.cells #[.int .i64 A.kind, .int .i64 A.time, .int .i64 A.node, .bool A.dead, .string ⟨A.text.toArray⟩, vp, vm, .int .u64 (A.flags.toNat : Int)] 25)) 25 [.int .i64 B.kind, .int .i64 B.time, .int .i64 B.node, .bool B.dead, .string ⟨B.text.toArray⟩, up, um, .int .u64 (B.flags.toNat : Int)] (w.heap.size + 1) (by simp)).keep hB3 (by simp))
  have HZ := Kept.mk (cellsN_at ((w.alloc (.cells #[.int .i64 A.kind, .int .i64 A.time, .int .i64 A.node, .bool A.dead, .string ⟨A.text.toArray⟩, vp, vm, .int .u64 (A.flags.toNat : Int)] 25)).alloc (.cells #[.int .i64 B.kind, .int .i64 B.time, .int .i64 B.node, .bool B.dead, .string ⟨B.text.toArray⟩, up, um, .int .u64 (B.flags.toNat : Int)] 25)) 25 [.int .i64 0, .int .i64 0, .int .i64 0, .bool false, .string ⟨#[]⟩, .slice none 0 0, .slice none 0 0, .int .u64 0] (w.heap.size + 2) (by simp))
  have FA := Kept.mk (((free5_at w #[.int .i64 A.kind, .int .i64 A.time, .int .i64 A.node, .bool A.dead, .string ⟨A.text.toArray⟩, vp, vm, .int .u64 (A.flags.toNat : Int)] 25 w.heap.size rfl).keep hB2 (by simp)).keep hB3 (by simp <;> omega))
  have HF := Kept.mk (free5_at ((w.alloc (.cells #[.int .i64 A.kind, .int .i64 A.time, .int .i64 A.node, .bool A.dead, .string ⟨A.text.toArray⟩, vp, vm, .int .u64 (A.flags.toNat : Int)] 25)).alloc (.cells #[.int .i64 B.kind, .int .i64 B.time, .int .i64 B.node, .bool B.dead, .string ⟨B.text.toArray⟩, up, um, .int .u64 (B.flags.toNat : Int)] 25)) #[.int .i64 0, .int .i64 0, .int .i64 0, .bool false, .string ⟨#[]⟩, .slice none 0 0, .slice none 0 0, .int .u64 0] 25 (w.heap.size + 2) (by simp))
  have hs : Kept ((((w.alloc (.cells #[.int .i64 A.kind, .int .i64 A.time, .int .i64 A.node, .bool A.dead, .string ⟨A.text.toArray⟩, vp, vm, .int .u64 (A.flags.toNat : Int)] 25)).alloc (.cells #[.int .i64 B.kind, .int .i64 B.time, .int .i64 B.node, .bool B.dead, .string ⟨B.text.toArray⟩, up, um, .int .u64 (B.flags.toNat : Int)] 25)).alloc (.cells #[.int .i64 0, .int .i64 0, .int .i64 0, .bool false, .string ⟨#[]⟩, .slice none 0 0, .slice none 0 0, .int .u64 0] 25)).heap.size = w.heap.size + 3) := ⟨by simp⟩
  have HP := Kept.mk hp
  have HM := Kept.mk hm
  have GP := Kept.mk gp
  have GM := Kept.mk gm
  clear hp hm gp gm hB1 hB2 hB3
  have HO := Kept.mk h
  have HO2 := Kept.mk h2
  have HBH := Kept.mk h5
  have d3 : (A.kind == B.kind) = true := by simpa using h3
  have d4 : (A.kind == 1) = true := by simpa using h4
  clear h h2 h3 h4 h5
  go_enter Try.func14, Try.ntmps14
  go_wp2_with fail
  generalize ((w.alloc (.cells #[.int .i64 A.kind, .int .i64 A.time, .int .i64 A.node, .bool A.dead, .string ⟨A.text.toArray⟩, vp, vm, .int .u64 (A.flags.toNat : Int)] 25)).alloc (.cells #[.int .i64 B.kind, .int .i64 B.time, .int .i64 B.node, .bool B.dead, .string ⟨B.text.toArray⟩, up, um, .int .u64 (B.flags.toNat : Int)] 25)).alloc (.cells #[.int .i64 0, .int .i64 0, .int .i64 0, .bool false, .string ⟨#[]⟩, .slice none 0 0, .slice none 0 0, .int .u64 0] 25) = W0 at *
  replace hs := Kept.mk (Nat.le_of_eq hs.out.symm)
  ((with_reducible refine (rcheck_any A _ _ (show isVa A (.agg #[.int .i64 A.kind, .int .i64 A.time, .int .i64 A.node, .bool A.dead, .string ⟨A.text.toArray⟩, vp, vm, .int .u64 (A.flags.toNat : Int)]) W0 from va_mk (cells_up HP.out hB.out) (cells_up HM.out hB.out)) hA).mono ?_); rintro e w1 ⟨rfl, hb1⟩)
  have hgA := CA.out.1
  replace FA := Kept.mk (FA.out.keep hb1 (Nat.lt_of_lt_of_le (by show w.heap.size < _; exact hgA) (Nat.le_refl _)))
  replace HF := Kept.mk (HF.out.keep hb1 HZ.out.1)
  replace CA := Kept.mk (CA.out.keep hb1 CA.out.1)
  replace CB := Kept.mk (CB.out.keep hb1 CB.out.1)
  replace HZ := Kept.mk (HZ.out.keep hb1 HZ.out.1)
  replace hB := Kept.mk (hB.out.trans (hb1.mono hB.out.size))
  replace hs := Kept.mk (Nat.le_trans hs.out hb1.size)
  clear hb1 hgA
  rewrite [HO.out]
  have kb0 := CB.out.2 0 _ rfl
  have kb1 := CB.out.2 1 _ rfl
  have kb2 := CB.out.2 2 _ rfl
  have kb3 := CB.out.2 3 _ rfl
  have kb4 := CB.out.2 4 _ rfl
  have kb5 := CB.out.2 5 _ rfl
  have kb6 := CB.out.2 6 _ rfl
  have kb7 := CB.out.2 7 _ rfl
  go_wp2_with fail
  ((with_reducible refine (rcheck_any B _ _ (show isVa B (.agg #[.int .i64 B.kind, .int .i64 B.time, .int .i64 B.node, .bool B.dead, .string ⟨B.text.toArray⟩, up, um, .int .u64 (B.flags.toNat : Int)]) w1 from va_mk (cells_up GP.out hB.out) (cells_up GM.out hB.out)) hC).mono ?_); rintro e w2 ⟨rfl, hb1⟩)
  clear kb0 kb1 kb2 kb3 kb4 kb5 kb6 kb7
  have hgA := CA.out.1
  replace FA := Kept.mk (FA.out.keep hb1 (Nat.lt_of_lt_of_le (by show w.heap.size < _; exact hgA) (Nat.le_refl _)))
  replace HF := Kept.mk (HF.out.keep hb1 HZ.out.1)
  replace CA := Kept.mk (CA.out.keep hb1 CA.out.1)
  replace CB := Kept.mk (CB.out.keep hb1 CB.out.1)
  replace HZ := Kept.mk (HZ.out.keep hb1 HZ.out.1)
  replace hB := Kept.mk (hB.out.trans (hb1.mono hB.out.size))
  replace hs := Kept.mk (Nat.le_trans hs.out hb1.size)
  clear hb1 hgA
  rewrite [HO2.out]
  have ka0 := CA.out.2 0 _ rfl
  have ka1 := CA.out.2 1 _ rfl
  have ka2 := CA.out.2 2 _ rfl
  have ka3 := CA.out.2 3 _ rfl
  have ka4 := CA.out.2 4 _ rfl
  have ka5 := CA.out.2 5 _ rfl
  have ka6 := CA.out.2 6 _ rfl
  have ka7 := CA.out.2 7 _ rfl
  have kb0 := CB.out.2 0 _ rfl
  have kb1 := CB.out.2 1 _ rfl
  have kb2 := CB.out.2 2 _ rfl
  have kb3 := CB.out.2 3 _ rfl
  have kb4 := CB.out.2 4 _ rfl
  have kb5 := CB.out.2 5 _ rfl
  have kb6 := CB.out.2 6 _ rfl
  have kb7 := CB.out.2 7 _ rfl
  go_wp2_with fail
  ((with_reducible refine (rbehind_any B A _ _ _ (show isVa B (.agg #[.int .i64 B.kind, .int .i64 B.time, .int .i64 B.node, .bool B.dead, .string ⟨B.text.toArray⟩, up, um, .int .u64 (B.flags.toNat : Int)]) w2 from va_mk (cells_up GP.out hB.out) (cells_up GM.out hB.out)) (show isVa A (.agg #[.int .i64 A.kind, .int .i64 A.time, .int .i64 A.node, .bool A.dead, .string ⟨A.text.toArray⟩, vp, vm, .int .u64 (A.flags.toNat : Int)]) w2 from va_mk (cells_up HP.out hB.out) (cells_up HM.out hB.out))).mono ?_); rintro e w3 ⟨rfl, hb1⟩)
  clear ka0 ka1 ka2 ka3 ka4 ka5 ka6 ka7 kb0 kb1 kb2 kb3 kb4 kb5 kb6 kb7
  have hgA := CA.out.1
  replace FA := Kept.mk (FA.out.keep hb1 (Nat.lt_of_lt_of_le (by show w.heap.size < _; exact hgA) (Nat.le_refl _)))
  replace HF := Kept.mk (HF.out.keep hb1 HZ.out.1)
  replace CA := Kept.mk (CA.out.keep hb1 CA.out.1)
  replace CB := Kept.mk (CB.out.keep hb1 CB.out.1)
  replace HZ := Kept.mk (HZ.out.keep hb1 HZ.out.1)
  replace hB := Kept.mk (hB.out.trans (hb1.mono hB.out.size))
  replace hs := Kept.mk (Nat.le_trans hs.out hb1.size)
  clear hb1 hgA
  rewrite [HBH.out]
  obtain ⟨hBK, K4, K5⟩ := vset2 B up um (g := w.heap.size + 2) (by omega) hB.out HZ.out rfl (stable_cells _ _ _ _ GP.out hB.out) (stable_cells _ _ _ _ GM.out hB.out) (fun e => absurd hn1 e) (fun e => absurd hn2 e)
  have kb0 := CB.out.2 0 _ rfl
  have kb1 := CB.out.2 1 _ rfl
  have kb2 := CB.out.2 2 _ rfl
  have kb3 := CB.out.2 3 _ rfl
  have kb4 := CB.out.2 4 _ rfl
  have kb5 := CB.out.2 5 _ rfl
  have kb6 := CB.out.2 6 _ rfl
  have kb7 := CB.out.2 7 _ rfl
  obtain ⟨hc', hp', hm'⟩ := K4.out
  clear K4
  go_wp2_with (have hz0 := K5; refine wpList_storeN 25 rfl (.tmp 4) (.tmp 27) rfl (w.heap.size + 2) [.int .i64 B.kind, .int .i64 B.time, .int .i64 B.node, .bool B.dead, .string ⟨B.text.toArray⟩, up, um, .int .u64 (B.flags.toNat : Int)] size_va rfl rfl HZ.out rfl HF.out K5.out ?_; clear hz0 K5)
  exact bodyPost_ret (resultsN2 rfl _ _ (w.heap.size + 2) _ (.int .i64 0) size_va agg_va rfl rfl hc') rfl ⟨_, rfl, ⟨up, um, rfl, hp', hm'⟩, hBK.out⟩
set_option maxRecDepth 20000 in
set_option maxHeartbeats 2000000 in
theorem rjoin_reg_false (A B : Va) (v u : Value) (w : World) (hv : isVa A v w) (hu : isVa B u w) (hA : Fit A) (hC : Fit B) (h : okV A = true) (h2 : okV B = true) (h3 : A.kind = B.kind) (h4 : A.kind = 1) (h5 : behindB B A = false) (hn1 : A.plus = []) (hn2 : A.minus = []) :
    Calls Try.prog 14 #[v, u] w fun e w' => ∃ v', e = .returned (.tuple #[v', .int .i64 0]) ∧ isVa A v' w' ∧ Below w.heap.size w w' := by
  obtain ⟨vp, vm, rfl, hp, hm⟩ := hv
  obtain ⟨up, um, rfl, gp, gm⟩ := hu
  have hB1 := lit_below w (.cells #[.int .i64 A.kind, .int .i64 A.time, .int .i64 A.node, .bool A.dead, .string ⟨A.text.toArray⟩, vp, vm, .int .u64 (A.flags.toNat : Int)] 25)
  have hB2 := lit_below (w.alloc (.cells #[.int .i64 A.kind, .int .i64 A.time, .int .i64 A.node, .bool A.dead, .string ⟨A.text.toArray⟩, vp, vm, .int .u64 (A.flags.toNat : Int)] 25)) (.cells #[.int .i64 B.kind, .int .i64 B.time, .int .i64 B.node, .bool B.dead, .string ⟨B.text.toArray⟩, up, um, .int .u64 (B.flags.toNat : Int)] 25)
  have hB3 := lit_below ((w.alloc (.cells #[.int .i64 A.kind, .int .i64 A.time, .int .i64 A.node, .bool A.dead, .string ⟨A.text.toArray⟩, vp, vm, .int .u64 (A.flags.toNat : Int)] 25)).alloc (.cells #[.int .i64 B.kind, .int .i64 B.time, .int .i64 B.node, .bool B.dead, .string ⟨B.text.toArray⟩, up, um, .int .u64 (B.flags.toNat : Int)] 25)) (.cells #[.int .i64 0, .int .i64 0, .int .i64 0, .bool false, .string ⟨#[]⟩, .slice none 0 0, .slice none 0 0, .int .u64 0] 25)
  have hB := Kept.mk ((hB1.trans (hB2.mono hB1.size)).trans (hB3.mono (hB1.trans (hB2.mono hB1.size)).size))
  have CA := Kept.mk (((cellsN_at w 25 [.int .i64 A.kind, .int .i64 A.time, .int .i64 A.node, .bool A.dead, .string ⟨A.text.toArray⟩, vp, vm, .int .u64 (A.flags.toNat : Int)] w.heap.size rfl).keep hB2 (by simp)).keep hB3 (by simp <;> omega))
  have CB := Kept.mk ((cellsN_at (w.alloc (.cells #[.int .i64 A.kind, .int .i64 A.time, .int .i64 A.node, .bool A.dead, .string ⟨A.text.toArray⟩, vp, vm, .int .u64 (A.flags.toNat : Int)] 25)) 25 [.int .i64 B.kind, .int .i64 B.time, .int .i64 B.node, .bool B.dead, .string ⟨B.text.toArray⟩, up, um, .int .u64 (B.flags.toNat : Int)] (w.heap.size + 1) (by simp)).keep hB3 (by simp))
  have HZ := Kept.mk (cellsN_at ((w.alloc (.cells #[.int .i64 A.kind, .int .i64 A.time, .int .i64 A.node, .bool A.dead, .string ⟨A.text.toArray⟩, vp, vm, .int .u64 (A.flags.toNat : Int)] 25)).alloc (.cells #[.int .i64 B.kind, .int .i64 B.time, .int .i64 B.node, .bool B.dead, .string ⟨B.text.toArray⟩, up, um, .int .u64 (B.flags.toNat : Int)] 25)) 25 [.int .i64 0, .int .i64 0, .int .i64 0, .bool false, .string ⟨#[]⟩, .slice none 0 0, .slice none 0 0, .int .u64 0] (w.heap.size + 2) (by simp))
  have FA := Kept.mk (((free5_at w #[.int .i64 A.kind, .int .i64 A.time, .int .i64 A.node, .bool A.dead, .string ⟨A.text.toArray⟩, vp, vm, .int .u64 (A.flags.toNat : Int)] 25 w.heap.size rfl).keep hB2 (by simp)).keep hB3 (by simp <;> omega))
  have HF := Kept.mk (free5_at ((w.alloc (.cells #[.int .i64 A.kind, .int .i64 A.time, .int .i64 A.node, .bool A.dead, .string ⟨A.text.toArray⟩, vp, vm, .int .u64 (A.flags.toNat : Int)] 25)).alloc (.cells #[.int .i64 B.kind, .int .i64 B.time, .int .i64 B.node, .bool B.dead, .string ⟨B.text.toArray⟩, up, um, .int .u64 (B.flags.toNat : Int)] 25)) #[.int .i64 0, .int .i64 0, .int .i64 0, .bool false, .string ⟨#[]⟩, .slice none 0 0, .slice none 0 0, .int .u64 0] 25 (w.heap.size + 2) (by simp))
  have hs : Kept ((((w.alloc (.cells #[.int .i64 A.kind, .int .i64 A.time, .int .i64 A.node, .bool A.dead, .string ⟨A.text.toArray⟩, vp, vm, .int .u64 (A.flags.toNat : Int)] 25)).alloc (.cells #[.int .i64 B.kind, .int .i64 B.time, .int .i64 B.node, .bool B.dead, .string ⟨B.text.toArray⟩, up, um, .int .u64 (B.flags.toNat : Int)] 25)).alloc (.cells #[.int .i64 0, .int .i64 0, .int .i64 0, .bool false, .string ⟨#[]⟩, .slice none 0 0, .slice none 0 0, .int .u64 0] 25)).heap.size = w.heap.size + 3) := ⟨by simp⟩
  have HP := Kept.mk hp
  have HM := Kept.mk hm
  have GP := Kept.mk gp
  have GM := Kept.mk gm
  clear hp hm gp gm hB1 hB2 hB3
  have HO := Kept.mk h
  have HO2 := Kept.mk h2
  have HBH := Kept.mk h5
  have d3 : (A.kind == B.kind) = true := by simpa using h3
  have d4 : (A.kind == 1) = true := by simpa using h4
  clear h h2 h3 h4 h5
  go_enter Try.func14, Try.ntmps14
  go_wp2_with fail
  generalize ((w.alloc (.cells #[.int .i64 A.kind, .int .i64 A.time, .int .i64 A.node, .bool A.dead, .string ⟨A.text.toArray⟩, vp, vm, .int .u64 (A.flags.toNat : Int)] 25)).alloc (.cells #[.int .i64 B.kind, .int .i64 B.time, .int .i64 B.node, .bool B.dead, .string ⟨B.text.toArray⟩, up, um, .int .u64 (B.flags.toNat : Int)] 25)).alloc (.cells #[.int .i64 0, .int .i64 0, .int .i64 0, .bool false, .string ⟨#[]⟩, .slice none 0 0, .slice none 0 0, .int .u64 0] 25) = W0 at *
  replace hs := Kept.mk (Nat.le_of_eq hs.out.symm)
  ((with_reducible refine (rcheck_any A _ _ (show isVa A (.agg #[.int .i64 A.kind, .int .i64 A.time, .int .i64 A.node, .bool A.dead, .string ⟨A.text.toArray⟩, vp, vm, .int .u64 (A.flags.toNat : Int)]) W0 from va_mk (cells_up HP.out hB.out) (cells_up HM.out hB.out)) hA).mono ?_); rintro e w1 ⟨rfl, hb1⟩)
  have hgA := CA.out.1
  replace FA := Kept.mk (FA.out.keep hb1 (Nat.lt_of_lt_of_le (by show w.heap.size < _; exact hgA) (Nat.le_refl _)))
  replace HF := Kept.mk (HF.out.keep hb1 HZ.out.1)
  replace CA := Kept.mk (CA.out.keep hb1 CA.out.1)
  replace CB := Kept.mk (CB.out.keep hb1 CB.out.1)
  replace HZ := Kept.mk (HZ.out.keep hb1 HZ.out.1)
  replace hB := Kept.mk (hB.out.trans (hb1.mono hB.out.size))
  replace hs := Kept.mk (Nat.le_trans hs.out hb1.size)
  clear hb1 hgA
  rewrite [HO.out]
  have kb0 := CB.out.2 0 _ rfl
  have kb1 := CB.out.2 1 _ rfl
  have kb2 := CB.out.2 2 _ rfl
  have kb3 := CB.out.2 3 _ rfl
  have kb4 := CB.out.2 4 _ rfl
  have kb5 := CB.out.2 5 _ rfl
  have kb6 := CB.out.2 6 _ rfl
  have kb7 := CB.out.2 7 _ rfl
  go_wp2_with fail
  ((with_reducible refine (rcheck_any B _ _ (show isVa B (.agg #[.int .i64 B.kind, .int .i64 B.time, .int .i64 B.node, .bool B.dead, .string ⟨B.text.toArray⟩, up, um, .int .u64 (B.flags.toNat : Int)]) w1 from va_mk (cells_up GP.out hB.out) (cells_up GM.out hB.out)) hC).mono ?_); rintro e w2 ⟨rfl, hb1⟩)
  clear kb0 kb1 kb2 kb3 kb4 kb5 kb6 kb7
  have hgA := CA.out.1
  replace FA := Kept.mk (FA.out.keep hb1 (Nat.lt_of_lt_of_le (by show w.heap.size < _; exact hgA) (Nat.le_refl _)))
  replace HF := Kept.mk (HF.out.keep hb1 HZ.out.1)
  replace CA := Kept.mk (CA.out.keep hb1 CA.out.1)
  replace CB := Kept.mk (CB.out.keep hb1 CB.out.1)
  replace HZ := Kept.mk (HZ.out.keep hb1 HZ.out.1)
  replace hB := Kept.mk (hB.out.trans (hb1.mono hB.out.size))
  replace hs := Kept.mk (Nat.le_trans hs.out hb1.size)
  clear hb1 hgA
  rewrite [HO2.out]
  have ka0 := CA.out.2 0 _ rfl
  have ka1 := CA.out.2 1 _ rfl
  have ka2 := CA.out.2 2 _ rfl
  have ka3 := CA.out.2 3 _ rfl
  have ka4 := CA.out.2 4 _ rfl
  have ka5 := CA.out.2 5 _ rfl
  have ka6 := CA.out.2 6 _ rfl
  have ka7 := CA.out.2 7 _ rfl
  have kb0 := CB.out.2 0 _ rfl
  have kb1 := CB.out.2 1 _ rfl
  have kb2 := CB.out.2 2 _ rfl
  have kb3 := CB.out.2 3 _ rfl
  have kb4 := CB.out.2 4 _ rfl
  have kb5 := CB.out.2 5 _ rfl
  have kb6 := CB.out.2 6 _ rfl
  have kb7 := CB.out.2 7 _ rfl
  go_wp2_with fail
  ((with_reducible refine (rbehind_any B A _ _ _ (show isVa B (.agg #[.int .i64 B.kind, .int .i64 B.time, .int .i64 B.node, .bool B.dead, .string ⟨B.text.toArray⟩, up, um, .int .u64 (B.flags.toNat : Int)]) w2 from va_mk (cells_up GP.out hB.out) (cells_up GM.out hB.out)) (show isVa A (.agg #[.int .i64 A.kind, .int .i64 A.time, .int .i64 A.node, .bool A.dead, .string ⟨A.text.toArray⟩, vp, vm, .int .u64 (A.flags.toNat : Int)]) w2 from va_mk (cells_up HP.out hB.out) (cells_up HM.out hB.out))).mono ?_); rintro e w3 ⟨rfl, hb1⟩)
  clear ka0 ka1 ka2 ka3 ka4 ka5 ka6 ka7 kb0 kb1 kb2 kb3 kb4 kb5 kb6 kb7
  have hgA := CA.out.1
  replace FA := Kept.mk (FA.out.keep hb1 (Nat.lt_of_lt_of_le (by show w.heap.size < _; exact hgA) (Nat.le_refl _)))
  replace HF := Kept.mk (HF.out.keep hb1 HZ.out.1)
  replace CA := Kept.mk (CA.out.keep hb1 CA.out.1)
  replace CB := Kept.mk (CB.out.keep hb1 CB.out.1)
  replace HZ := Kept.mk (HZ.out.keep hb1 HZ.out.1)
  replace hB := Kept.mk (hB.out.trans (hb1.mono hB.out.size))
  replace hs := Kept.mk (Nat.le_trans hs.out hb1.size)
  clear hb1 hgA
  rewrite [HBH.out]
  obtain ⟨hBK, K4, K5⟩ := vset2 A vp vm (g := w.heap.size + 2) (by omega) hB.out HZ.out rfl (stable_cells _ _ _ _ HP.out hB.out) (stable_cells _ _ _ _ HM.out hB.out) (fun e => absurd hn1 e) (fun e => absurd hn2 e)
  have ka0 := CA.out.2 0 _ rfl
  have ka1 := CA.out.2 1 _ rfl
  have ka2 := CA.out.2 2 _ rfl
  have ka3 := CA.out.2 3 _ rfl
  have ka4 := CA.out.2 4 _ rfl
  have ka5 := CA.out.2 5 _ rfl
  have ka6 := CA.out.2 6 _ rfl
  have ka7 := CA.out.2 7 _ rfl
  obtain ⟨hc', hp', hm'⟩ := K4.out
  clear K4
  go_wp2_with (have hz0 := K5; refine wpList_storeN 25 rfl (.tmp 4) (.tmp 28) rfl (w.heap.size + 2) [.int .i64 A.kind, .int .i64 A.time, .int .i64 A.node, .bool A.dead, .string ⟨A.text.toArray⟩, vp, vm, .int .u64 (A.flags.toNat : Int)] size_va rfl rfl HZ.out rfl HF.out K5.out ?_; clear hz0 K5)
  exact bodyPost_ret (resultsN2 rfl _ _ (w.heap.size + 2) _ (.int .i64 0) size_va agg_va rfl rfl hc') rfl ⟨_, rfl, ⟨vp, vm, rfl, hp', hm'⟩, hBK.out⟩
set_option maxRecDepth 20000 in
set_option maxHeartbeats 2000000 in
theorem rjoin_rest (A B : Va) (v u : Value) (w : World) (hv : isVa A v w) (hu : isVa B u w) (hA : Fit A) (hC : Fit B) (h : okV A = true) (h2 : okV B = true) (h3 : A.kind = B.kind) (h4 : A.kind ≠ 1) (l1 : A.plus.length = B.plus.length) (l2 : A.minus.length = B.minus.length) :
    Calls Try.prog 14 #[v, u] w fun e w' => ∃ v', e = .returned (.tuple #[v', .int .i64 0]) ∧ isVa (mergeV A B) v' w' ∧ Below w.heap.size w w' := by
  obtain ⟨vp, vm, rfl, hp, hm⟩ := hv
  obtain ⟨up, um, rfl, gp, gm⟩ := hu
  have hB1 := lit_below w (.cells #[.int .i64 A.kind, .int .i64 A.time, .int .i64 A.node, .bool A.dead, .string ⟨A.text.toArray⟩, vp, vm, .int .u64 (A.flags.toNat : Int)] 25)
  have hB2 := lit_below (w.alloc (.cells #[.int .i64 A.kind, .int .i64 A.time, .int .i64 A.node, .bool A.dead, .string ⟨A.text.toArray⟩, vp, vm, .int .u64 (A.flags.toNat : Int)] 25)) (.cells #[.int .i64 B.kind, .int .i64 B.time, .int .i64 B.node, .bool B.dead, .string ⟨B.text.toArray⟩, up, um, .int .u64 (B.flags.toNat : Int)] 25)
  have hB3 := lit_below ((w.alloc (.cells #[.int .i64 A.kind, .int .i64 A.time, .int .i64 A.node, .bool A.dead, .string ⟨A.text.toArray⟩, vp, vm, .int .u64 (A.flags.toNat : Int)] 25)).alloc (.cells #[.int .i64 B.kind, .int .i64 B.time, .int .i64 B.node, .bool B.dead, .string ⟨B.text.toArray⟩, up, um, .int .u64 (B.flags.toNat : Int)] 25)) (.cells #[.int .i64 0, .int .i64 0, .int .i64 0, .bool false, .string ⟨#[]⟩, .slice none 0 0, .slice none 0 0, .int .u64 0] 25)
  have hB := Kept.mk ((hB1.trans (hB2.mono hB1.size)).trans (hB3.mono (hB1.trans (hB2.mono hB1.size)).size))
  have CA := Kept.mk (((cellsN_at w 25 [.int .i64 A.kind, .int .i64 A.time, .int .i64 A.node, .bool A.dead, .string ⟨A.text.toArray⟩, vp, vm, .int .u64 (A.flags.toNat : Int)] w.heap.size rfl).keep hB2 (by simp)).keep hB3 (by simp <;> omega))
  have CB := Kept.mk ((cellsN_at (w.alloc (.cells #[.int .i64 A.kind, .int .i64 A.time, .int .i64 A.node, .bool A.dead, .string ⟨A.text.toArray⟩, vp, vm, .int .u64 (A.flags.toNat : Int)] 25)) 25 [.int .i64 B.kind, .int .i64 B.time, .int .i64 B.node, .bool B.dead, .string ⟨B.text.toArray⟩, up, um, .int .u64 (B.flags.toNat : Int)] (w.heap.size + 1) (by simp)).keep hB3 (by simp))
  have HZ := Kept.mk (cellsN_at ((w.alloc (.cells #[.int .i64 A.kind, .int .i64 A.time, .int .i64 A.node, .bool A.dead, .string ⟨A.text.toArray⟩, vp, vm, .int .u64 (A.flags.toNat : Int)] 25)).alloc (.cells #[.int .i64 B.kind, .int .i64 B.time, .int .i64 B.node, .bool B.dead, .string ⟨B.text.toArray⟩, up, um, .int .u64 (B.flags.toNat : Int)] 25)) 25 [.int .i64 0, .int .i64 0, .int .i64 0, .bool false, .string ⟨#[]⟩, .slice none 0 0, .slice none 0 0, .int .u64 0] (w.heap.size + 2) (by simp))
  have FA := Kept.mk (((free5_at w #[.int .i64 A.kind, .int .i64 A.time, .int .i64 A.node, .bool A.dead, .string ⟨A.text.toArray⟩, vp, vm, .int .u64 (A.flags.toNat : Int)] 25 w.heap.size rfl).keep hB2 (by simp)).keep hB3 (by simp <;> omega))
  have HF := Kept.mk (free5_at ((w.alloc (.cells #[.int .i64 A.kind, .int .i64 A.time, .int .i64 A.node, .bool A.dead, .string ⟨A.text.toArray⟩, vp, vm, .int .u64 (A.flags.toNat : Int)] 25)).alloc (.cells #[.int .i64 B.kind, .int .i64 B.time, .int .i64 B.node, .bool B.dead, .string ⟨B.text.toArray⟩, up, um, .int .u64 (B.flags.toNat : Int)] 25)) #[.int .i64 0, .int .i64 0, .int .i64 0, .bool false, .string ⟨#[]⟩, .slice none 0 0, .slice none 0 0, .int .u64 0] 25 (w.heap.size + 2) (by simp))
  have hs : Kept ((((w.alloc (.cells #[.int .i64 A.kind, .int .i64 A.time, .int .i64 A.node, .bool A.dead, .string ⟨A.text.toArray⟩, vp, vm, .int .u64 (A.flags.toNat : Int)] 25)).alloc (.cells #[.int .i64 B.kind, .int .i64 B.time, .int .i64 B.node, .bool B.dead, .string ⟨B.text.toArray⟩, up, um, .int .u64 (B.flags.toNat : Int)] 25)).alloc (.cells #[.int .i64 0, .int .i64 0, .int .i64 0, .bool false, .string ⟨#[]⟩, .slice none 0 0, .slice none 0 0, .int .u64 0] 25)).heap.size = w.heap.size + 3) := ⟨by simp⟩
  have HP := Kept.mk hp
  have HM := Kept.mk hm
  have GP := Kept.mk gp
  have GM := Kept.mk gm
  clear hp hm gp gm hB1 hB2 hB3
  have HO := Kept.mk h
  have HO2 := Kept.mk h2
  have d3 : (A.kind == B.kind) = true := by simpa using h3
  have d4 : (A.kind == 1) = false := by simpa using h4
  clear h h2 h3 h4
  go_enter Try.func14, Try.ntmps14
  go_wp2_with fail
  generalize ((w.alloc (.cells #[.int .i64 A.kind, .int .i64 A.time, .int .i64 A.node, .bool A.dead, .string ⟨A.text.toArray⟩, vp, vm, .int .u64 (A.flags.toNat : Int)] 25)).alloc (.cells #[.int .i64 B.kind, .int .i64 B.time, .int .i64 B.node, .bool B.dead, .string ⟨B.text.toArray⟩, up, um, .int .u64 (B.flags.toNat : Int)] 25)).alloc (.cells #[.int .i64 0, .int .i64 0, .int .i64 0, .bool false, .string ⟨#[]⟩, .slice none 0 0, .slice none 0 0, .int .u64 0] 25) = W0 at *
  replace hs := Kept.mk (Nat.le_of_eq hs.out.symm)
  ((with_reducible refine (rcheck_any A _ _ (show isVa A (.agg #[.int .i64 A.kind, .int .i64 A.time, .int .i64 A.node, .bool A.dead, .string ⟨A.text.toArray⟩, vp, vm, .int .u64 (A.flags.toNat : Int)]) W0 from va_mk (cells_up HP.out hB.out) (cells_up HM.out hB.out)) hA).mono ?_); rintro e w1 ⟨rfl, hb1⟩)
  have hgA := CA.out.1
  replace FA := Kept.mk (FA.out.keep hb1 (Nat.lt_of_lt_of_le (by show w.heap.size < _; exact hgA) (Nat.le_refl _)))
  replace HF := Kept.mk (HF.out.keep hb1 HZ.out.1)
  replace CA := Kept.mk (CA.out.keep hb1 CA.out.1)
  replace CB := Kept.mk (CB.out.keep hb1 CB.out.1)
  replace HZ := Kept.mk (HZ.out.keep hb1 HZ.out.1)
  replace hB := Kept.mk (hB.out.trans (hb1.mono hB.out.size))
  replace hs := Kept.mk (Nat.le_trans hs.out hb1.size)
  clear hb1 hgA
  rewrite [HO.out]
  have kb0 := CB.out.2 0 _ rfl
  have kb1 := CB.out.2 1 _ rfl
  have kb2 := CB.out.2 2 _ rfl
  have kb3 := CB.out.2 3 _ rfl
  have kb4 := CB.out.2 4 _ rfl
  have kb5 := CB.out.2 5 _ rfl
  have kb6 := CB.out.2 6 _ rfl
  have kb7 := CB.out.2 7 _ rfl
  go_wp2_with fail
  ((with_reducible refine (rcheck_any B _ _ (show isVa B (.agg #[.int .i64 B.kind, .int .i64 B.time, .int .i64 B.node, .bool B.dead, .string ⟨B.text.toArray⟩, up, um, .int .u64 (B.flags.toNat : Int)]) w1 from va_mk (cells_up GP.out hB.out) (cells_up GM.out hB.out)) hC).mono ?_); rintro e w2 ⟨rfl, hb1⟩)
  clear kb0 kb1 kb2 kb3 kb4 kb5 kb6 kb7
  have hgA := CA.out.1
  replace FA := Kept.mk (FA.out.keep hb1 (Nat.lt_of_lt_of_le (by show w.heap.size < _; exact hgA) (Nat.le_refl _)))
  replace HF := Kept.mk (HF.out.keep hb1 HZ.out.1)
  replace CA := Kept.mk (CA.out.keep hb1 CA.out.1)
  replace CB := Kept.mk (CB.out.keep hb1 CB.out.1)
  replace HZ := Kept.mk (HZ.out.keep hb1 HZ.out.1)
  replace hB := Kept.mk (hB.out.trans (hb1.mono hB.out.size))
  replace hs := Kept.mk (Nat.le_trans hs.out hb1.size)
  clear hb1 hgA
  rewrite [HO2.out]
  have ka0 := CA.out.2 0 _ rfl
  have ka1 := CA.out.2 1 _ rfl
  have ka2 := CA.out.2 2 _ rfl
  have ka3 := CA.out.2 3 _ rfl
  have ka4 := CA.out.2 4 _ rfl
  have ka5 := CA.out.2 5 _ rfl
  have ka6 := CA.out.2 6 _ rfl
  have ka7 := CA.out.2 7 _ rfl
  have kb0 := CB.out.2 0 _ rfl
  have kb1 := CB.out.2 1 _ rfl
  have kb2 := CB.out.2 2 _ rfl
  have kb3 := CB.out.2 3 _ rfl
  have kb4 := CB.out.2 4 _ rfl
  have kb5 := CB.out.2 5 _ rfl
  have kb6 := CB.out.2 6 _ rfl
  have kb7 := CB.out.2 7 _ rfl
  go_wp2_with fail
  ((with_reducible refine (most_any A.plus B.plus _ _ _ (cells_up HP.out hB.out) (cells_up GP.out hB.out) l1 hA.plus).mono ?_); rintro e w3 ⟨v1, rfl, o1, hb1⟩)
  obtain ⟨-, a1, n1, c1, rfl⟩ := own_slice o1
  clear ka0 ka1 ka2 ka3 ka4 ka5 ka6 ka7 kb0 kb1 kb2 kb3 kb4 kb5 kb6 kb7
  have hs2 := hs.out
  have hs3 := hb1.size
  replace o1 := Kept.mk o1
  have hgA := CA.out.1
  replace FA := Kept.mk (FA.out.keep hb1 (Nat.lt_of_lt_of_le (by show w.heap.size < _; exact hgA) (Nat.le_refl _)))
  replace HF := Kept.mk (HF.out.keep hb1 HZ.out.1)
  replace CA := Kept.mk (CA.out.keep hb1 CA.out.1)
  replace CB := Kept.mk (CB.out.keep hb1 CB.out.1)
  replace HZ := Kept.mk (HZ.out.keep hb1 HZ.out.1)
  replace hB := Kept.mk (hB.out.trans (hb1.mono hB.out.size))
  replace hs := Kept.mk (Nat.le_trans hs.out hb1.size)
  clear hb1 hgA
  have ka0 := CA.out.2 0 _ rfl
  have ka1 := CA.out.2 1 _ rfl
  have ka2 := CA.out.2 2 _ rfl
  have ka3 := CA.out.2 3 _ rfl
  have ka4 := CA.out.2 4 _ rfl
  have ka5 := CA.out.2 5 _ rfl
  have ka6 := CA.out.2 6 _ rfl
  have ka7 := CA.out.2 7 _ rfl
  have kb0 := CB.out.2 0 _ rfl
  have kb1 := CB.out.2 1 _ rfl
  have kb2 := CB.out.2 2 _ rfl
  have kb3 := CB.out.2 3 _ rfl
  have kb4 := CB.out.2 4 _ rfl
  have kb5 := CB.out.2 5 _ rfl
  have kb6 := CB.out.2 6 _ rfl
  have kb7 := CB.out.2 7 _ rfl
  have fz5 := FA.out 5
  have HB4 := Kept.mk (hB.out.setCell (p := ⟨w.heap.size, 5, none⟩) (Nat.le_refl _) (.slice a1 n1 c1))
  have CA4 := Kept.mk (CA.out.setAt 5 (.slice a1 n1 c1) (by simp))
  have CB4 := Kept.mk (CB.out.setOther (b := w.heap.size) (by omega) 5 (.slice a1 n1 c1))
  have HZ4 := Kept.mk (HZ.out.setOther (b := w.heap.size) (by omega) 5 (.slice a1 n1 c1))
  have FA4 := Kept.mk (FA.out.set ⟨w.heap.size, 5, none⟩ (.slice a1 n1 c1))
  have HF4 := Kept.mk (HF.out.set ⟨w.heap.size, 5, none⟩ (.slice a1 n1 c1))
  have o4 := Kept.mk (o1.out.set (p := ⟨w.heap.size, 5, none⟩) (by show w.heap.size < _; omega) (.slice a1 n1 c1))
  go_wp2_with fail
  generalize w3.setCell ⟨w.heap.size, 5, none⟩ (.slice a1 n1 c1) = W4 at *
  clear CA CB HZ FA HF o1 hB fz5
  clear ka0 ka1 ka2 ka3 ka4 ka5 ka6 ka7 kb0 kb1 kb2 kb3 kb4 kb5 kb6 kb7
  have hsz4 : w.heap.size + 3 ≤ W4.heap.size := by have := HB4.out.size; have := HZ4.out.1; omega
  ((with_reducible refine (most_any A.minus B.minus _ _ _ (cells_up HM.out HB4.out) (cells_up GM.out HB4.out) l2 hA.minus).mono ?_); rintro e w5 ⟨v2, rfl, o2, hb1⟩)
  obtain ⟨-, a2, n2, c2, rfl⟩ := own_slice o2
  have hs5 := hb1.size
  have CA := Kept.mk (CA4.out.keep hb1 CA4.out.1)
  have CB := Kept.mk (CB4.out.keep hb1 CB4.out.1)
  have FA := Kept.mk (FA4.out.keep hb1 CA4.out.1)
  have HF := Kept.mk (HF4.out.keep hb1 HZ4.out.1)
  have HZ := Kept.mk (HZ4.out.keep hb1 HZ4.out.1)
  have hB := Kept.mk (HB4.out.trans (hb1.mono HB4.out.size))
  have o1 := Kept.mk (stable_own _ _ _ _ _ _ o4.out hb1)
  have O2 := Kept.mk o2
  clear CA4 CB4 FA4 HF4 HZ4 HB4 o4 o2 hb1
  have ka0 := CA.out.2 0 _ rfl
  have ka1 := CA.out.2 1 _ rfl
  have ka2 := CA.out.2 2 _ rfl
  have ka3 := CA.out.2 3 _ rfl
  have ka4 := CA.out.2 4 _ rfl
  have ka5 := CA.out.2 5 _ rfl
  have ka6 := CA.out.2 6 _ rfl
  have ka7 := CA.out.2 7 _ rfl
  have kb0 := CB.out.2 0 _ rfl
  have kb1 := CB.out.2 1 _ rfl
  have kb2 := CB.out.2 2 _ rfl
  have kb3 := CB.out.2 3 _ rfl
  have kb4 := CB.out.2 4 _ rfl
  have kb5 := CB.out.2 5 _ rfl
  have kb6 := CB.out.2 6 _ rfl
  have kb7 := CB.out.2 7 _ rfl
  have fz6 := FA.out 6
  have fz7 := FA.out 7
  have hor := or_u64 A.flags B.flags
  have HB7 := Kept.mk ((hB.out.setCell (p := ⟨w.heap.size, 6, none⟩) (Nat.le_refl _) (.slice a2 n2 c2)).setCell (p := ⟨w.heap.size, 7, none⟩) (Nat.le_refl _) (.int .u64 ((A.flags ||| B.flags).toNat : Int)))
  have HZ7 := Kept.mk ((HZ.out.setOther (b := w.heap.size) (by omega) 6 (.slice a2 n2 c2)).setOther (b := w.heap.size) (by omega) 7 (.int .u64 ((A.flags ||| B.flags).toNat : Int)))
  have HF7 := Kept.mk ((HF.out.set ⟨w.heap.size, 6, none⟩ (.slice a2 n2 c2)).set ⟨w.heap.size, 7, none⟩ (.int .u64 ((A.flags ||| B.flags).toNat : Int)))
  have o17 := (o1.out.set (p := ⟨w.heap.size, 6, none⟩) (by show w.heap.size < _; omega) (.slice a2 n2 c2)).set (p := ⟨w.heap.size, 7, none⟩) (by show w.heap.size < _; omega) (.int .u64 ((A.flags ||| B.flags).toNat : Int))
  have o27 := (O2.out.set (p := ⟨w.heap.size, 6, none⟩) (by show w.heap.size < _; omega) (.slice a2 n2 c2)).set (p := ⟨w.heap.size, 7, none⟩) (by show w.heap.size < _; omega) (.int .u64 ((A.flags ||| B.flags).toNat : Int))
  obtain ⟨hBK, K4, K5⟩ := vset2 (mergeV A B) (.slice a1 n1 c1) (.slice a2 n2 c2) (g := w.heap.size + 2) (by omega) HB7.out HZ7.out rfl o17.cells o27.cells (fun _ => (own_slice o17).1.ne (by omega)) (fun _ => (own_slice o27).1.ne (by omega))
  clear o17 o27 HB7
  obtain ⟨hc', hp', hm'⟩ := K4.out
  clear K4
  go_wp2_with (have hz0 := K5; refine wpList_storeN 25 rfl (.tmp 4) (.tmp 47) rfl (w.heap.size + 2) [.int .i64 (mergeV A B).kind, .int .i64 (mergeV A B).time, .int .i64 (mergeV A B).node, .bool (mergeV A B).dead, .string ⟨(mergeV A B).text.toArray⟩, .slice a1 n1 c1, .slice a2 n2 c2, .int .u64 ((mergeV A B).flags.toNat : Int)] size_va rfl rfl HZ7.out rfl HF7.out K5.out ?_; clear hz0 K5)
  exact bodyPost_ret (resultsN2 rfl _ _ (w.heap.size + 2) _ (.int .i64 0) size_va agg_va rfl rfl hc') rfl ⟨_, rfl, ⟨(.slice a1 n1 c1), (.slice a2 n2 c2), rfl, hp', hm'⟩, hBK.out⟩
theorem rjoin_any (A B : Va) (v u : Value) (w : World) (hv : isVa A v w) (hu : isVa B u w) (hA : Fit A) (hC : Fit B) :
    Calls Try.prog 14 #[v, u] w fun e w' => ∃ v', e = .returned (.tuple #[v', .int .i64 (joinE A B)]) ∧ isVa (joinF A B) v' w' ∧ Below w.heap.size w w' := by
  cases h1 : okV A with
  | false =>
    have e : joinE A B = 2 := by unfold joinE; rw [h1]; rfl
    rw [show joinF A B = zeroV by unfold joinF; rw [e]; rfl, e]
    exact rjoin_no1 A B v u w hv hu hA hC h1
  | true =>
    cases h2 : okV B with
    | false =>
      have e : joinE A B = 2 := by unfold joinE; rw [h1, h2]; rfl
      rw [show joinF A B = zeroV by unfold joinF; rw [e]; rfl, e]
      exact rjoin_no2 A B v u w hv hu hA hC h1 h2
    | true =>
      by_cases h3 : A.kind = B.kind
      · have e : joinE A B = 0 := joinE_zero.2 ⟨h1, h2, h3⟩
        by_cases h4 : A.kind = 1
        · have rA := (ok_reg h1 h4).2
          have rB := (ok_reg h2 (by omega)).2
          have e2 : joinE B A = 0 := by rw [joinE_comm]; exact e
          have ej : joinF A B = if behindB B A = true then B else A := by
            rw [join_comm e, joinF_ok e2, joinV_reg (by omega)]
            unfold joinReg
            rw [← rA, ← rB]
          rw [e, ej]
          cases h5 : behindB B A with
          | true => rw [if_pos rfl]; exact rjoin_reg_true A B v u w hv hu hA hC h1 h2 h3 h4 h5 (congrArg Va.plus rB) (congrArg Va.minus rB)
          | false => rw [if_neg (by decide)]; exact rjoin_reg_false A B v u w hv hu hA hC h1 h2 h3 h4 h5 (congrArg Va.plus rA) (congrArg Va.minus rA)
        · obtain ⟨m1, m2, m3⟩ := merge_join e h4
          rw [e, m1]
          exact rjoin_rest A B v u w hv hu hA hC h1 h2 h3 h4 m2 m3
      · have e : joinE A B = 3 := by unfold joinE; rw [h1, h2]; simp [h3]
        rw [show joinF A B = zeroV by unfold joinF; rw [e]; rfl, e]
        exact rjoin_no3 A B v u w hv hu hA hC h1 h2 h3
end Go.Proofs.Ytnjlefciekcehaa
