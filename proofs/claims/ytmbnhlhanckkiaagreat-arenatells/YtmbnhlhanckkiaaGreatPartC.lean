/- Joined texts: contracts of the program's functions, and the mathematics that they lean on. -/
import Derived.Test.YtmbnhlhanckkiaaGreatPartB
section
namespace Go.Proofs.YtmbnhlhanckkiaaGreat
open Go.RowKit
set_option linter.unusedVariables false
set_option linter.unusedSimpArgs false

theorem zip_take (l m : List Int) (k : Nat) (h1 : k < l.length) (h2 : k < m.length) : (List.zipWith maxI l m).take (k + 1) = (List.zipWith maxI l m).take k ++ [maxI l[k] m[k]] := by
  rw [List.take_succ_eq_append_getElem (by rw [List.length_zipWith]; omega), List.getElem_zipWith]
set_option maxRecDepth 100000 in
set_option maxHeartbeats 2000000 in
theorem most_any (l m : List Int) (v u : Value) (w : World) (hv : isCells (l.map intC) v w) (hu : isCells (m.map intC) u w) (hlm : l.length = m.length) (hl : l.length ≤ 1000000) :
    Calls Tryz.prog 136 #[v, u] w fun e w' => ∃ v', e = .returned v' ∧ isOwn w.heap.size 3 ((List.zipWith maxI l m).map intC) v' w' ∧ Below w.heap.size w w' := by
  by_cases h0 : l.length = 0
  · obtain rfl : l = [] := List.eq_nil_of_length_eq_zero h0
    obtain ⟨a, cap, rfl⟩ := hv.len
    obtain ⟨b, cap2, rfl⟩ := hu.len
    clear hv hu
    simp only [List.map_nil, List.length_nil]
    go_enter Tryz.func136, Tryz.ntmps136
    go_wp2
    go_loop [5, 6] (fun c i => c = .slice none 0 0 ∧ i = .int .i64 0) (fun _ _ => 0)
    case atStart => exact ⟨rfl, rfl⟩
    case round =>
      obtain ⟨rfl, rfl⟩ := hrel
      go_wp2
      go_ret
      exact ⟨_, rfl, World.ownsRow_nil _ _ _ _, Below.refl _ _⟩
  · obtain ⟨b1, o1, c1, hv', l1, hc1⟩ := hv.some_ (by rw [List.length_map]; omega)
    obtain ⟨b2, o2, c2, hu', l2, hc2⟩ := hu.some_ (by rw [List.length_map]; omega)
    rw [List.length_map] at hv' hu'
    rw [← hlm] at hu'
    subst hv' hu'
    have HZ := Kept.mk (show (List.zipWith maxI l m).length = l.length by rw [List.length_zipWith]; omega)
    have HLM := Kept.mk hlm
    have HC1 := Kept.mk hc1
    have HC2 := Kept.mk hc2
    obtain ⟨n, hn⟩ : ∃ n, n = l.length := ⟨_, rfl⟩
    have HN := Kept.mk hn
    rw [← hn] at hl h0 ⊢
    clear hv hu hlm hc1 hc2 hn
    go_enter Tryz.func136, Tryz.ntmps136
    go_wp2
    go_loopw [5, 6] (fun c i wr => ∃ k : Nat, k ≤ n ∧ i = .int .i64 (k : Int) ∧ Kept (wr.ownsRow w.heap.size 3 1 c ((List.zipWith maxI l m).take k).length (((List.zipWith maxI l m).take k).map intC)) ∧ Kept (Below w.heap.size w wr)) (fun _ i _ => n - (intOf i).toNat)
    case atStart => exact ⟨0, Nat.zero_le _, rfl, ⟨World.ownsRow_nil _ _ _ _⟩, ⟨Below.refl _ _⟩⟩
    case round =>
      obtain ⟨k, hk, rfl, HO, HB⟩ := hrel
      by_cases hlt : k < n
      · have d1 : decide ((k : Int) < (n : Int)) = true := by simpa using hlt
        have hkl : k < l.length := by rw [← HN.out]; exact hlt
        have hkm : k < m.length := by rw [← HLM.out]; exact hkl
        have HT := Kept.mk (zip_take l m k hkl hkm)
        have P1 := Kept.mk ((HB.out.cell (p := ⟨b1, o1 + k, none⟩) l1).trans (HC1.out k _ (get_map intC l k hkl)))
        have P2 := Kept.mk ((HB.out.cell (p := ⟨b2, o2 + k, none⟩) l2).trans (HC2.out k _ (get_map intC m k hkm)))
        have HLT := Kept.mk (show ((List.zipWith maxI l m).take k).length ≤ 1000000 by rw [List.length_take]; omega)
        generalize (List.zipWith maxI l m).take k = xs at *
        go_wp2_with fail
        refine most_region _ _ _ rfl w.heap.size _ xs b1 o1 c1 b2 o2 c2 n k l[k] m[k] rfl rfl rfl rfl hlt P1.out (Nat.lt_of_lt_of_le l1 HB.out.size) P2.out (Nat.lt_of_lt_of_le l2 HB.out.size) HO.out HLT.out HB.out.size ?_
        intro f9 W9 h5 ho hb9
        simp only [List.foldl_cons, List.foldl_nil, h5]
        generalize f9 13 = y13
        generalize f9 14 = y14
        generalize f9 15 = y15
        generalize f9 16 = y16
        generalize f9 17 = y17
        generalize f9 18 = y18
        generalize f9 19 = y19
        generalize f9 20 = y20
        generalize f9 21 = y21
        generalize f9 22 = y22
        generalize f9 23 = y23
        generalize f9 24 = y24 at ho ⊢
        clear h5
        simp only [List.setIfInBounds_toArray, List.set_cons_succ, List.set_cons_zero]
        have HO9 := Kept.mk ho
        rw [← HT.out] at HO9
        have HB9 := Kept.mk (HB.out.trans hb9)
        clear ho hb9 HO HB P1 P2
        go_wp2
        go_roundw
        case rel => exact ⟨k + 1, by omega, by go_num, HO9, HB9⟩
        case measure => simp [intOf]; omega
      · have d1 : decide ((k : Int) < (n : Int)) = false := by simp; omega
        have HE := Kept.mk (show (List.zipWith maxI l m).take k = List.zipWith maxI l m by rw [List.take_of_length_le]; rw [HZ.out, ← HN.out]; omega)
        rw [HE.out] at HO
        go_wp2
        go_ret
        refine ⟨_, rfl, ?_, HB.out⟩
        unfold isOwn
        rw [List.length_map]
        exact HO.out
end Go.Proofs.YtmbnhlhanckkiaaGreat
end
section
namespace Go.Proofs.YtmbnhlhanckkiaaGreat
open Go.RowKit
set_option linter.unusedVariables false
set_option linter.unusedSimpArgs false
attribute [local irreducible] setN

/-- A value whose rows, if it has any, are new. -/
def isVaR (B : Nat) (A : Va) : VP := fun v w => ∃ vp vm, v = .agg #[.int .i64 A.kind, .int .i64 A.time, .int .i64 A.node, .bool A.dead, .string ⟨A.text.toArray⟩, vp, vm, .int .u64 (A.flags.toNat : Int)] ∧ isCells (A.plus.map intC) vp w ∧ isCells (A.minus.map intC) vm w ∧ (A.plus ≠ [] → NewB B vp) ∧ (A.minus ≠ [] → NewB B vm)
theorem va_mk {A : Va} {vp vm : Value} {w : World} (hp : isCells (A.plus.map intC) vp w) (hm : isCells (A.minus.map intC) vm w) : isVa A (.agg #[.int .i64 A.kind, .int .i64 A.time, .int .i64 A.node, .bool A.dead, .string ⟨A.text.toArray⟩, vp, vm, .int .u64 (A.flags.toNat : Int)]) w := ⟨vp, vm, rfl, hp, hm⟩
theorem cells_up {cs : List Value} {v : Value} {w w' : World} (h : isCells cs v w) (hb : Below w.heap.size w w') : isCells cs v w' := stable_cells _ _ _ _ h hb
theorem vset2 {B g : Nat} {w0 w : World} (A : Va) (vp vm : Value) (hB : B ≤ g) (hb : Below B w0 w) {old : List Value} (hc : CellsN w g old) (h8 : old.length = 8) (hp : isCells (A.plus.map intC) vp w) (hm : isCells (A.minus.map intC) vm w) (np : A.plus ≠ [] → blk vp ≠ some g) (nm : A.minus ≠ [] → blk vm ≠ some g) :
    Kept (Below B w0 (setN w g 0 [.int .i64 A.kind, .int .i64 A.time, .int .i64 A.node, .bool A.dead, .string ⟨A.text.toArray⟩, vp, vm, .int .u64 (A.flags.toNat : Int)])) ∧ Kept (VarE (setN w g 0 [.int .i64 A.kind, .int .i64 A.time, .int .i64 A.node, .bool A.dead, .string ⟨A.text.toArray⟩, vp, vm, .int .u64 (A.flags.toNat : Int)]) g A vp vm) ∧ Kept (Ones [.int .i64 A.kind, .int .i64 A.time, .int .i64 A.node, .bool A.dead, .string ⟨A.text.toArray⟩, vp, vm, .int .u64 (A.flags.toNat : Int)]) := by
  have ap : ∀ (v : Value) (l : List Int), (l ≠ [] → blk v ≠ some g) → ∀ b off cap, v = .slice (some ⟨b, off, none⟩) (l.map intC).length cap → l.map intC ≠ [] → b ≠ g := by
    rintro v l h b off cap rfl hne rfl
    exact h (fun e => hne (by rw [e]; rfl)) rfl
  exact ⟨⟨below_setN hB _ 0 _ hb⟩, ⟨⟨hc.setN_ _ h8, cells_apart hp (ap vp _ np) _ _, cells_apart hm (ap vm _ nm) _ _⟩⟩, ⟨⟨rfl, rfl, rfl, rfl, rfl, hp.one, hm.one, rfl, trivial⟩⟩⟩
theorem CellsN.setAt {w : World} {g : Nat} {l : List Value} (h : CellsN w g l) (k : Nat) (v : Value) (hk : k < l.length) : CellsN (w.setCell ⟨g, k, none⟩ v) g (l.set k v) := by
  refine ⟨by rw [World.size_setCell]; exact h.1, fun j x hx => ?_⟩
  by_cases e : k = j
  · subst e
    rw [List.getElem?_set_self hk] at hx
    injection hx with hx
    subst hx
    exact World.cell?_setCell_same w _ _ (h.2 k _ (List.getElem?_eq_getElem hk))
  · rw [List.getElem?_set_ne e] at hx
    rw [World.cell?_setCell_other w _ _ _ (by intro hh; injection hh; omega)]
    exact h.2 j x hx
theorem CellsN.setOther {w : World} {g b : Nat} {l : List Value} (h : CellsN w g l) (hne : g ≠ b) (k : Nat) (v : Value) : CellsN (w.setCell ⟨b, k, none⟩ v) g l :=
  ⟨by rw [World.size_setCell]; exact h.1, fun j x hx => (World.cell?_setCell_other w _ _ _ (by intro e; injection e; omega)).trans (h.2 j x hx)⟩
def mergeV (A B : Va) : Va := ⟨A.kind, A.time, A.node, A.dead, A.text, List.zipWith maxI A.plus B.plus, List.zipWith maxI A.minus B.minus, A.flags ||| B.flags⟩
theorem merge_join {A B : Va} (h : joinE A B = 0) (k : A.kind ≠ 1) : joinF A B = mergeV A B ∧ A.plus.length = B.plus.length ∧ A.minus.length = B.minus.length := by
  obtain ⟨hA, hB, hk⟩ := joinE_zero.1 h
  rw [joinF_ok h]
  rcases ok_kind hA with k1 | k2 | k3
  · exact absurd k1 k
  · obtain ⟨a1, a2⟩ := ok_count hA k2
    obtain ⟨b1, b2⟩ := ok_count hB (by omega)
    unfold inCount at a1 b1
    rw [Bool.and_eq_true] at a1 b1
    rw [joinV_count k2]
    refine ⟨?_, by rw [okRow_len a1.1, okRow_len b1.1], by rw [okRow_len a1.2, okRow_len b1.2]⟩
    have e1 : A.time = 0 := congrArg Va.time a2
    have e2 : A.node = 0 := congrArg Va.node a2
    have e3 : A.flags = 0 := congrArg Va.flags a2
    have e4 : A.dead = false := congrArg Va.dead a2
    have e5 : A.text = [] := congrArg Va.text a2
    have e6 : B.flags = 0 := congrArg Va.flags b2
    unfold joinCount mergeV
    rw [k2, e1, e2, e3, e4, e5, e6]
    rfl
  · have a2 := ok_flags hA k3
    have b2 := ok_flags hB (by omega)
    have e1 : A.time = 0 := congrArg Va.time a2
    have e2 : A.node = 0 := congrArg Va.node a2
    have e4 : A.dead = false := congrArg Va.dead a2
    have e5 : A.text = [] := congrArg Va.text a2
    have e6 : A.plus = [] := congrArg Va.plus a2
    have e7 : A.minus = [] := congrArg Va.minus a2
    have f6 : B.plus = [] := congrArg Va.plus b2
    have f7 : B.minus = [] := congrArg Va.minus b2
    rw [joinV_flags k3]
    refine ⟨?_, by rw [e6, f6], by rw [e7, f7]⟩
    unfold joinFlags mergeV
    rw [k3, e1, e2, e4, e5, e6, e7]
    rfl
set_option maxRecDepth 20000 in
set_option maxHeartbeats 2000000 in
theorem rjoin_no1 (A B : Va) (v u : Value) (w : World) (hv : isVa A v w) (hu : isVa B u w) (hA : Fit A) (hC : Fit B) (h : okV A = false) :
    Calls Tryz.prog 110 #[v, u] w fun e w' => ∃ v', e = .returned (.tuple #[v', .int .i64 2]) ∧ isVaR w.heap.size zeroV v' w' ∧ Below w.heap.size w w' := by
  obtain ⟨vp, vm, rfl, hp, hm⟩ := hv
  obtain ⟨up, um, rfl, gp, gm⟩ := hu
  have hB1 := lit_below w (.cells #[.int .i64 A.kind, .int .i64 A.time, .int .i64 A.node, .bool A.dead, .string ⟨A.text.toArray⟩, vp, vm, .int .u64 (A.flags.toNat : Int)] 40)
  have hB2 := lit_below (w.alloc (.cells #[.int .i64 A.kind, .int .i64 A.time, .int .i64 A.node, .bool A.dead, .string ⟨A.text.toArray⟩, vp, vm, .int .u64 (A.flags.toNat : Int)] 40)) (.cells #[.int .i64 B.kind, .int .i64 B.time, .int .i64 B.node, .bool B.dead, .string ⟨B.text.toArray⟩, up, um, .int .u64 (B.flags.toNat : Int)] 40)
  have hB3 := lit_below ((w.alloc (.cells #[.int .i64 A.kind, .int .i64 A.time, .int .i64 A.node, .bool A.dead, .string ⟨A.text.toArray⟩, vp, vm, .int .u64 (A.flags.toNat : Int)] 40)).alloc (.cells #[.int .i64 B.kind, .int .i64 B.time, .int .i64 B.node, .bool B.dead, .string ⟨B.text.toArray⟩, up, um, .int .u64 (B.flags.toNat : Int)] 40)) (.cells #[.int .i64 0, .int .i64 0, .int .i64 0, .bool false, .string ⟨#[]⟩, .slice none 0 0, .slice none 0 0, .int .u64 0] 40)
  have hB := Kept.mk ((hB1.trans (hB2.mono hB1.size)).trans (hB3.mono (hB1.trans (hB2.mono hB1.size)).size))
  have CA := Kept.mk (((cellsN_at w 40 [.int .i64 A.kind, .int .i64 A.time, .int .i64 A.node, .bool A.dead, .string ⟨A.text.toArray⟩, vp, vm, .int .u64 (A.flags.toNat : Int)] w.heap.size rfl).keep hB2 (by simp)).keep hB3 (by simp <;> omega))
  have CB := Kept.mk ((cellsN_at (w.alloc (.cells #[.int .i64 A.kind, .int .i64 A.time, .int .i64 A.node, .bool A.dead, .string ⟨A.text.toArray⟩, vp, vm, .int .u64 (A.flags.toNat : Int)] 40)) 40 [.int .i64 B.kind, .int .i64 B.time, .int .i64 B.node, .bool B.dead, .string ⟨B.text.toArray⟩, up, um, .int .u64 (B.flags.toNat : Int)] (w.heap.size + 1) (by simp)).keep hB3 (by simp))
  have HZ := Kept.mk (cellsN_at ((w.alloc (.cells #[.int .i64 A.kind, .int .i64 A.time, .int .i64 A.node, .bool A.dead, .string ⟨A.text.toArray⟩, vp, vm, .int .u64 (A.flags.toNat : Int)] 40)).alloc (.cells #[.int .i64 B.kind, .int .i64 B.time, .int .i64 B.node, .bool B.dead, .string ⟨B.text.toArray⟩, up, um, .int .u64 (B.flags.toNat : Int)] 40)) 40 [.int .i64 0, .int .i64 0, .int .i64 0, .bool false, .string ⟨#[]⟩, .slice none 0 0, .slice none 0 0, .int .u64 0] (w.heap.size + 2) (by simp))
  have FA := Kept.mk (((free5_at w #[.int .i64 A.kind, .int .i64 A.time, .int .i64 A.node, .bool A.dead, .string ⟨A.text.toArray⟩, vp, vm, .int .u64 (A.flags.toNat : Int)] 40 w.heap.size rfl).keep hB2 (by simp)).keep hB3 (by simp <;> omega))
  have HF := Kept.mk (free5_at ((w.alloc (.cells #[.int .i64 A.kind, .int .i64 A.time, .int .i64 A.node, .bool A.dead, .string ⟨A.text.toArray⟩, vp, vm, .int .u64 (A.flags.toNat : Int)] 40)).alloc (.cells #[.int .i64 B.kind, .int .i64 B.time, .int .i64 B.node, .bool B.dead, .string ⟨B.text.toArray⟩, up, um, .int .u64 (B.flags.toNat : Int)] 40)) #[.int .i64 0, .int .i64 0, .int .i64 0, .bool false, .string ⟨#[]⟩, .slice none 0 0, .slice none 0 0, .int .u64 0] 40 (w.heap.size + 2) (by simp))
  have hs : Kept ((((w.alloc (.cells #[.int .i64 A.kind, .int .i64 A.time, .int .i64 A.node, .bool A.dead, .string ⟨A.text.toArray⟩, vp, vm, .int .u64 (A.flags.toNat : Int)] 40)).alloc (.cells #[.int .i64 B.kind, .int .i64 B.time, .int .i64 B.node, .bool B.dead, .string ⟨B.text.toArray⟩, up, um, .int .u64 (B.flags.toNat : Int)] 40)).alloc (.cells #[.int .i64 0, .int .i64 0, .int .i64 0, .bool false, .string ⟨#[]⟩, .slice none 0 0, .slice none 0 0, .int .u64 0] 40)).heap.size = w.heap.size + 3) := ⟨by simp⟩
  have HP := Kept.mk hp
  have HM := Kept.mk hm
  have GP := Kept.mk gp
  have GM := Kept.mk gm
  clear hp hm gp gm hB1 hB2 hB3
  have HO := Kept.mk h
  clear h
  go_enter Tryz.func110, Tryz.ntmps110
  go_wp2_with fail
  generalize ((w.alloc (.cells #[.int .i64 A.kind, .int .i64 A.time, .int .i64 A.node, .bool A.dead, .string ⟨A.text.toArray⟩, vp, vm, .int .u64 (A.flags.toNat : Int)] 40)).alloc (.cells #[.int .i64 B.kind, .int .i64 B.time, .int .i64 B.node, .bool B.dead, .string ⟨B.text.toArray⟩, up, um, .int .u64 (B.flags.toNat : Int)] 40)).alloc (.cells #[.int .i64 0, .int .i64 0, .int .i64 0, .bool false, .string ⟨#[]⟩, .slice none 0 0, .slice none 0 0, .int .u64 0] 40) = W0 at *
  replace hs := Kept.mk (Nat.le_of_eq hs.out.symm)
  ((with_reducible refine (rcheck_any A _ _ (show isVa A (.agg #[.int .i64 A.kind, .int .i64 A.time, .int .i64 A.node, .bool A.dead, .string ⟨A.text.toArray⟩, vp, vm, .int .u64 (A.flags.toNat : Int)]) W0 from va_mk (cells_up HP.out hB.out) (cells_up HM.out hB.out)) hA).mono ?_); rintro e w1 ⟨rfl, hb1⟩)
  have hgA := CA.out.1
  replace FA := Kept.mk (FA.out.keep hb1 (Nat.lt_of_lt_of_le (by show w.heap.size < _; exact hgA) (Nat.le_refl _)))
  replace HF := Kept.mk (HF.out.keep hb1 HZ.out.1)
  replace CA := Kept.mk (CA.out.keep hb1 CA.out.1)
  replace CB := Kept.mk (CB.out.keep hb1 CB.out.1)
  replace HZ := Kept.mk (HZ.out.keep hb1 HZ.out.1)
  replace hB := Kept.mk (hB.out.trans (hb1.mono hB.out.size))
  replace hs := Kept.mk (Nat.le_trans hs.out hb1.size)
  clear hb1 hgA
  rewrite [HO.out]
  obtain ⟨hBK, K4, K5⟩ := vset zeroV (.slice none 0 0) (.slice none 0 0) (g := w.heap.size + 2) (by omega) hB.out HZ.out rfl (.inl ⟨rfl, rfl⟩) (.inl ⟨rfl, rfl⟩) (by intro h; cases h) (by intro h; cases h)
  have NP1 : Kept (zeroV.plus ≠ [] → NewB w.heap.size (.slice none 0 0)) := ⟨fun h => absurd rfl h⟩
  have NM1 : Kept (zeroV.minus ≠ [] → NewB w.heap.size (.slice none 0 0)) := ⟨fun h => absurd rfl h⟩
  obtain ⟨hc', hp', hm'⟩ := K4.out
  clear K4
  go_wp2_with (have hz0 := K5; refine wpList_storeN 40 rfl (.tmp 4) (.tmp 14) rfl (w.heap.size + 2) [.int .i64 0, .int .i64 0, .int .i64 0, .bool false, .string ⟨#[]⟩, .slice none 0 0, .slice none 0 0, .int .u64 0] size_va rfl rfl HZ.out rfl HF.out K5.out ?_; clear hz0 K5)
  exact bodyPost_ret (resultsN2 rfl _ _ (w.heap.size + 2) _ (.int .i64 2) size_va agg_va rfl rfl hc') rfl ⟨_, rfl, ⟨(.slice none 0 0), (.slice none 0 0), rfl, hp', hm', NP1.out, NM1.out⟩, hBK.out⟩
set_option maxRecDepth 20000 in
set_option maxHeartbeats 2000000 in
theorem rjoin_no2 (A B : Va) (v u : Value) (w : World) (hv : isVa A v w) (hu : isVa B u w) (hA : Fit A) (hC : Fit B) (h : okV A = true) (h2 : okV B = false) :
    Calls Tryz.prog 110 #[v, u] w fun e w' => ∃ v', e = .returned (.tuple #[v', .int .i64 2]) ∧ isVaR w.heap.size zeroV v' w' ∧ Below w.heap.size w w' := by
  obtain ⟨vp, vm, rfl, hp, hm⟩ := hv
  obtain ⟨up, um, rfl, gp, gm⟩ := hu
  have hB1 := lit_below w (.cells #[.int .i64 A.kind, .int .i64 A.time, .int .i64 A.node, .bool A.dead, .string ⟨A.text.toArray⟩, vp, vm, .int .u64 (A.flags.toNat : Int)] 40)
  have hB2 := lit_below (w.alloc (.cells #[.int .i64 A.kind, .int .i64 A.time, .int .i64 A.node, .bool A.dead, .string ⟨A.text.toArray⟩, vp, vm, .int .u64 (A.flags.toNat : Int)] 40)) (.cells #[.int .i64 B.kind, .int .i64 B.time, .int .i64 B.node, .bool B.dead, .string ⟨B.text.toArray⟩, up, um, .int .u64 (B.flags.toNat : Int)] 40)
  have hB3 := lit_below ((w.alloc (.cells #[.int .i64 A.kind, .int .i64 A.time, .int .i64 A.node, .bool A.dead, .string ⟨A.text.toArray⟩, vp, vm, .int .u64 (A.flags.toNat : Int)] 40)).alloc (.cells #[.int .i64 B.kind, .int .i64 B.time, .int .i64 B.node, .bool B.dead, .string ⟨B.text.toArray⟩, up, um, .int .u64 (B.flags.toNat : Int)] 40)) (.cells #[.int .i64 0, .int .i64 0, .int .i64 0, .bool false, .string ⟨#[]⟩, .slice none 0 0, .slice none 0 0, .int .u64 0] 40)
  have hB := Kept.mk ((hB1.trans (hB2.mono hB1.size)).trans (hB3.mono (hB1.trans (hB2.mono hB1.size)).size))
  have CA := Kept.mk (((cellsN_at w 40 [.int .i64 A.kind, .int .i64 A.time, .int .i64 A.node, .bool A.dead, .string ⟨A.text.toArray⟩, vp, vm, .int .u64 (A.flags.toNat : Int)] w.heap.size rfl).keep hB2 (by simp)).keep hB3 (by simp <;> omega))
  have CB := Kept.mk ((cellsN_at (w.alloc (.cells #[.int .i64 A.kind, .int .i64 A.time, .int .i64 A.node, .bool A.dead, .string ⟨A.text.toArray⟩, vp, vm, .int .u64 (A.flags.toNat : Int)] 40)) 40 [.int .i64 B.kind, .int .i64 B.time, .int .i64 B.node, .bool B.dead, .string ⟨B.text.toArray⟩, up, um, .int .u64 (B.flags.toNat : Int)] (w.heap.size + 1) (by simp)).keep hB3 (by simp))
  have HZ := Kept.mk (cellsN_at ((w.alloc (.cells #[.int .i64 A.kind, .int .i64 A.time, .int .i64 A.node, .bool A.dead, .string ⟨A.text.toArray⟩, vp, vm, .int .u64 (A.flags.toNat : Int)] 40)).alloc (.cells #[.int .i64 B.kind, .int .i64 B.time, .int .i64 B.node, .bool B.dead, .string ⟨B.text.toArray⟩, up, um, .int .u64 (B.flags.toNat : Int)] 40)) 40 [.int .i64 0, .int .i64 0, .int .i64 0, .bool false, .string ⟨#[]⟩, .slice none 0 0, .slice none 0 0, .int .u64 0] (w.heap.size + 2) (by simp))
  have FA := Kept.mk (((free5_at w #[.int .i64 A.kind, .int .i64 A.time, .int .i64 A.node, .bool A.dead, .string ⟨A.text.toArray⟩, vp, vm, .int .u64 (A.flags.toNat : Int)] 40 w.heap.size rfl).keep hB2 (by simp)).keep hB3 (by simp <;> omega))
  have HF := Kept.mk (free5_at ((w.alloc (.cells #[.int .i64 A.kind, .int .i64 A.time, .int .i64 A.node, .bool A.dead, .string ⟨A.text.toArray⟩, vp, vm, .int .u64 (A.flags.toNat : Int)] 40)).alloc (.cells #[.int .i64 B.kind, .int .i64 B.time, .int .i64 B.node, .bool B.dead, .string ⟨B.text.toArray⟩, up, um, .int .u64 (B.flags.toNat : Int)] 40)) #[.int .i64 0, .int .i64 0, .int .i64 0, .bool false, .string ⟨#[]⟩, .slice none 0 0, .slice none 0 0, .int .u64 0] 40 (w.heap.size + 2) (by simp))
  have hs : Kept ((((w.alloc (.cells #[.int .i64 A.kind, .int .i64 A.time, .int .i64 A.node, .bool A.dead, .string ⟨A.text.toArray⟩, vp, vm, .int .u64 (A.flags.toNat : Int)] 40)).alloc (.cells #[.int .i64 B.kind, .int .i64 B.time, .int .i64 B.node, .bool B.dead, .string ⟨B.text.toArray⟩, up, um, .int .u64 (B.flags.toNat : Int)] 40)).alloc (.cells #[.int .i64 0, .int .i64 0, .int .i64 0, .bool false, .string ⟨#[]⟩, .slice none 0 0, .slice none 0 0, .int .u64 0] 40)).heap.size = w.heap.size + 3) := ⟨by simp⟩
  have HP := Kept.mk hp
  have HM := Kept.mk hm
  have GP := Kept.mk gp
  have GM := Kept.mk gm
  clear hp hm gp gm hB1 hB2 hB3
  have HO := Kept.mk h
  have HO2 := Kept.mk h2
  clear h h2
  go_enter Tryz.func110, Tryz.ntmps110
  go_wp2_with fail
  generalize ((w.alloc (.cells #[.int .i64 A.kind, .int .i64 A.time, .int .i64 A.node, .bool A.dead, .string ⟨A.text.toArray⟩, vp, vm, .int .u64 (A.flags.toNat : Int)] 40)).alloc (.cells #[.int .i64 B.kind, .int .i64 B.time, .int .i64 B.node, .bool B.dead, .string ⟨B.text.toArray⟩, up, um, .int .u64 (B.flags.toNat : Int)] 40)).alloc (.cells #[.int .i64 0, .int .i64 0, .int .i64 0, .bool false, .string ⟨#[]⟩, .slice none 0 0, .slice none 0 0, .int .u64 0] 40) = W0 at *
  replace hs := Kept.mk (Nat.le_of_eq hs.out.symm)
  ((with_reducible refine (rcheck_any A _ _ (show isVa A (.agg #[.int .i64 A.kind, .int .i64 A.time, .int .i64 A.node, .bool A.dead, .string ⟨A.text.toArray⟩, vp, vm, .int .u64 (A.flags.toNat : Int)]) W0 from va_mk (cells_up HP.out hB.out) (cells_up HM.out hB.out)) hA).mono ?_); rintro e w1 ⟨rfl, hb1⟩)
  have hgA := CA.out.1
  replace FA := Kept.mk (FA.out.keep hb1 (Nat.lt_of_lt_of_le (by show w.heap.size < _; exact hgA) (Nat.le_refl _)))
  replace HF := Kept.mk (HF.out.keep hb1 HZ.out.1)
  replace CA := Kept.mk (CA.out.keep hb1 CA.out.1)
  replace CB := Kept.mk (CB.out.keep hb1 CB.out.1)
  replace HZ := Kept.mk (HZ.out.keep hb1 HZ.out.1)
  replace hB := Kept.mk (hB.out.trans (hb1.mono hB.out.size))
  replace hs := Kept.mk (Nat.le_trans hs.out hb1.size)
  clear hb1 hgA
  rewrite [HO.out]
  have kb0 := CB.out.2 0 _ rfl
  have kb1 := CB.out.2 1 _ rfl
  have kb2 := CB.out.2 2 _ rfl
  have kb3 := CB.out.2 3 _ rfl
  have kb4 := CB.out.2 4 _ rfl
  have kb5 := CB.out.2 5 _ rfl
  have kb6 := CB.out.2 6 _ rfl
  have kb7 := CB.out.2 7 _ rfl
  go_wp2_with fail
  ((with_reducible refine (rcheck_any B _ _ (show isVa B (.agg #[.int .i64 B.kind, .int .i64 B.time, .int .i64 B.node, .bool B.dead, .string ⟨B.text.toArray⟩, up, um, .int .u64 (B.flags.toNat : Int)]) w1 from va_mk (cells_up GP.out hB.out) (cells_up GM.out hB.out)) hC).mono ?_); rintro e w2 ⟨rfl, hb1⟩)
  clear kb0 kb1 kb2 kb3 kb4 kb5 kb6 kb7
  have hgA := CA.out.1
  replace FA := Kept.mk (FA.out.keep hb1 (Nat.lt_of_lt_of_le (by show w.heap.size < _; exact hgA) (Nat.le_refl _)))
  replace HF := Kept.mk (HF.out.keep hb1 HZ.out.1)
  replace CA := Kept.mk (CA.out.keep hb1 CA.out.1)
  replace CB := Kept.mk (CB.out.keep hb1 CB.out.1)
  replace HZ := Kept.mk (HZ.out.keep hb1 HZ.out.1)
  replace hB := Kept.mk (hB.out.trans (hb1.mono hB.out.size))
  replace hs := Kept.mk (Nat.le_trans hs.out hb1.size)
  clear hb1 hgA
  rewrite [HO2.out]
  obtain ⟨hBK, K4, K5⟩ := vset zeroV (.slice none 0 0) (.slice none 0 0) (g := w.heap.size + 2) (by omega) hB.out HZ.out rfl (.inl ⟨rfl, rfl⟩) (.inl ⟨rfl, rfl⟩) (by intro h; cases h) (by intro h; cases h)
  have NP1 : Kept (zeroV.plus ≠ [] → NewB w.heap.size (.slice none 0 0)) := ⟨fun h => absurd rfl h⟩
  have NM1 : Kept (zeroV.minus ≠ [] → NewB w.heap.size (.slice none 0 0)) := ⟨fun h => absurd rfl h⟩
  obtain ⟨hc', hp', hm'⟩ := K4.out
  clear K4
  go_wp2_with (have hz0 := K5; refine wpList_storeN 40 rfl (.tmp 4) (.tmp 14) rfl (w.heap.size + 2) [.int .i64 0, .int .i64 0, .int .i64 0, .bool false, .string ⟨#[]⟩, .slice none 0 0, .slice none 0 0, .int .u64 0] size_va rfl rfl HZ.out rfl HF.out K5.out ?_; clear hz0 K5)
  exact bodyPost_ret (resultsN2 rfl _ _ (w.heap.size + 2) _ (.int .i64 2) size_va agg_va rfl rfl hc') rfl ⟨_, rfl, ⟨(.slice none 0 0), (.slice none 0 0), rfl, hp', hm', NP1.out, NM1.out⟩, hBK.out⟩
set_option maxRecDepth 20000 in
set_option maxHeartbeats 2000000 in
theorem rjoin_no3 (A B : Va) (v u : Value) (w : World) (hv : isVa A v w) (hu : isVa B u w) (hA : Fit A) (hC : Fit B) (h : okV A = true) (h2 : okV B = true) (h3 : A.kind ≠ B.kind) :
    Calls Tryz.prog 110 #[v, u] w fun e w' => ∃ v', e = .returned (.tuple #[v', .int .i64 3]) ∧ isVaR w.heap.size zeroV v' w' ∧ Below w.heap.size w w' := by
  obtain ⟨vp, vm, rfl, hp, hm⟩ := hv
  obtain ⟨up, um, rfl, gp, gm⟩ := hu
  have hB1 := lit_below w (.cells #[.int .i64 A.kind, .int .i64 A.time, .int .i64 A.node, .bool A.dead, .string ⟨A.text.toArray⟩, vp, vm, .int .u64 (A.flags.toNat : Int)] 40)
  have hB2 := lit_below (w.alloc (.cells #[.int .i64 A.kind, .int .i64 A.time, .int .i64 A.node, .bool A.dead, .string ⟨A.text.toArray⟩, vp, vm, .int .u64 (A.flags.toNat : Int)] 40)) (.cells #[.int .i64 B.kind, .int .i64 B.time, .int .i64 B.node, .bool B.dead, .string ⟨B.text.toArray⟩, up, um, .int .u64 (B.flags.toNat : Int)] 40)
  have hB3 := lit_below ((w.alloc (.cells #[.int .i64 A.kind, .int .i64 A.time, .int .i64 A.node, .bool A.dead, .string ⟨A.text.toArray⟩, vp, vm, .int .u64 (A.flags.toNat : Int)] 40)).alloc (.cells #[.int .i64 B.kind, .int .i64 B.time, .int .i64 B.node, .bool B.dead, .string ⟨B.text.toArray⟩, up, um, .int .u64 (B.flags.toNat : Int)] 40)) (.cells #[.int .i64 0, .int .i64 0, .int .i64 0, .bool false, .string ⟨#[]⟩, .slice none 0 0, .slice none 0 0, .int .u64 0] 40)
  have hB := Kept.mk ((hB1.trans (hB2.mono hB1.size)).trans (hB3.mono (hB1.trans (hB2.mono hB1.size)).size))
  have CA := Kept.mk (((cellsN_at w 40 [.int .i64 A.kind, .int .i64 A.time, .int .i64 A.node, .bool A.dead, .string ⟨A.text.toArray⟩, vp, vm, .int .u64 (A.flags.toNat : Int)] w.heap.size rfl).keep hB2 (by simp)).keep hB3 (by simp <;> omega))
  have CB := Kept.mk ((cellsN_at (w.alloc (.cells #[.int .i64 A.kind, .int .i64 A.time, .int .i64 A.node, .bool A.dead, .string ⟨A.text.toArray⟩, vp, vm, .int .u64 (A.flags.toNat : Int)] 40)) 40 [.int .i64 B.kind, .int .i64 B.time, .int .i64 B.node, .bool B.dead, .string ⟨B.text.toArray⟩, up, um, .int .u64 (B.flags.toNat : Int)] (w.heap.size + 1) (by simp)).keep hB3 (by simp))
  have HZ := Kept.mk (cellsN_at ((w.alloc (.cells #[.int .i64 A.kind, .int .i64 A.time, .int .i64 A.node, .bool A.dead, .string ⟨A.text.toArray⟩, vp, vm, .int .u64 (A.flags.toNat : Int)] 40)).alloc (.cells #[.int .i64 B.kind, .int .i64 B.time, .int .i64 B.node, .bool B.dead, .string ⟨B.text.toArray⟩, up, um, .int .u64 (B.flags.toNat : Int)] 40)) 40 [.int .i64 0, .int .i64 0, .int .i64 0, .bool false, .string ⟨#[]⟩, .slice none 0 0, .slice none 0 0, .int .u64 0] (w.heap.size + 2) (by simp))
  have FA := Kept.mk (((free5_at w #[.int .i64 A.kind, .int .i64 A.time, .int .i64 A.node, .bool A.dead, .string ⟨A.text.toArray⟩, vp, vm, .int .u64 (A.flags.toNat : Int)] 40 w.heap.size rfl).keep hB2 (by simp)).keep hB3 (by simp <;> omega))
  have HF := Kept.mk (free5_at ((w.alloc (.cells #[.int .i64 A.kind, .int .i64 A.time, .int .i64 A.node, .bool A.dead, .string ⟨A.text.toArray⟩, vp, vm, .int .u64 (A.flags.toNat : Int)] 40)).alloc (.cells #[.int .i64 B.kind, .int .i64 B.time, .int .i64 B.node, .bool B.dead, .string ⟨B.text.toArray⟩, up, um, .int .u64 (B.flags.toNat : Int)] 40)) #[.int .i64 0, .int .i64 0, .int .i64 0, .bool false, .string ⟨#[]⟩, .slice none 0 0, .slice none 0 0, .int .u64 0] 40 (w.heap.size + 2) (by simp))
  have hs : Kept ((((w.alloc (.cells #[.int .i64 A.kind, .int .i64 A.time, .int .i64 A.node, .bool A.dead, .string ⟨A.text.toArray⟩, vp, vm, .int .u64 (A.flags.toNat : Int)] 40)).alloc (.cells #[.int .i64 B.kind, .int .i64 B.time, .int .i64 B.node, .bool B.dead, .string ⟨B.text.toArray⟩, up, um, .int .u64 (B.flags.toNat : Int)] 40)).alloc (.cells #[.int .i64 0, .int .i64 0, .int .i64 0, .bool false, .string ⟨#[]⟩, .slice none 0 0, .slice none 0 0, .int .u64 0] 40)).heap.size = w.heap.size + 3) := ⟨by simp⟩
  have HP := Kept.mk hp
  have HM := Kept.mk hm
  have GP := Kept.mk gp
  have GM := Kept.mk gm
  clear hp hm gp gm hB1 hB2 hB3
  have HO := Kept.mk h
  have HO2 := Kept.mk h2
  have d3 : (A.kind == B.kind) = false := by simpa using h3
  clear h h2 h3
  go_enter Tryz.func110, Tryz.ntmps110
  go_wp2_with fail
  generalize ((w.alloc (.cells #[.int .i64 A.kind, .int .i64 A.time, .int .i64 A.node, .bool A.dead, .string ⟨A.text.toArray⟩, vp, vm, .int .u64 (A.flags.toNat : Int)] 40)).alloc (.cells #[.int .i64 B.kind, .int .i64 B.time, .int .i64 B.node, .bool B.dead, .string ⟨B.text.toArray⟩, up, um, .int .u64 (B.flags.toNat : Int)] 40)).alloc (.cells #[.int .i64 0, .int .i64 0, .int .i64 0, .bool false, .string ⟨#[]⟩, .slice none 0 0, .slice none 0 0, .int .u64 0] 40) = W0 at *
  replace hs := Kept.mk (Nat.le_of_eq hs.out.symm)
  ((with_reducible refine (rcheck_any A _ _ (show isVa A (.agg #[.int .i64 A.kind, .int .i64 A.time, .int .i64 A.node, .bool A.dead, .string ⟨A.text.toArray⟩, vp, vm, .int .u64 (A.flags.toNat : Int)]) W0 from va_mk (cells_up HP.out hB.out) (cells_up HM.out hB.out)) hA).mono ?_); rintro e w1 ⟨rfl, hb1⟩)
  have hgA := CA.out.1
  replace FA := Kept.mk (FA.out.keep hb1 (Nat.lt_of_lt_of_le (by show w.heap.size < _; exact hgA) (Nat.le_refl _)))
  replace HF := Kept.mk (HF.out.keep hb1 HZ.out.1)
  replace CA := Kept.mk (CA.out.keep hb1 CA.out.1)
  replace CB := Kept.mk (CB.out.keep hb1 CB.out.1)
  replace HZ := Kept.mk (HZ.out.keep hb1 HZ.out.1)
  replace hB := Kept.mk (hB.out.trans (hb1.mono hB.out.size))
  replace hs := Kept.mk (Nat.le_trans hs.out hb1.size)
  clear hb1 hgA
  rewrite [HO.out]
  have kb0 := CB.out.2 0 _ rfl
  have kb1 := CB.out.2 1 _ rfl
  have kb2 := CB.out.2 2 _ rfl
  have kb3 := CB.out.2 3 _ rfl
  have kb4 := CB.out.2 4 _ rfl
  have kb5 := CB.out.2 5 _ rfl
  have kb6 := CB.out.2 6 _ rfl
  have kb7 := CB.out.2 7 _ rfl
  go_wp2_with fail
  ((with_reducible refine (rcheck_any B _ _ (show isVa B (.agg #[.int .i64 B.kind, .int .i64 B.time, .int .i64 B.node, .bool B.dead, .string ⟨B.text.toArray⟩, up, um, .int .u64 (B.flags.toNat : Int)]) w1 from va_mk (cells_up GP.out hB.out) (cells_up GM.out hB.out)) hC).mono ?_); rintro e w2 ⟨rfl, hb1⟩)
  clear kb0 kb1 kb2 kb3 kb4 kb5 kb6 kb7
  have hgA := CA.out.1
  replace FA := Kept.mk (FA.out.keep hb1 (Nat.lt_of_lt_of_le (by show w.heap.size < _; exact hgA) (Nat.le_refl _)))
  replace HF := Kept.mk (HF.out.keep hb1 HZ.out.1)
  replace CA := Kept.mk (CA.out.keep hb1 CA.out.1)
  replace CB := Kept.mk (CB.out.keep hb1 CB.out.1)
  replace HZ := Kept.mk (HZ.out.keep hb1 HZ.out.1)
  replace hB := Kept.mk (hB.out.trans (hb1.mono hB.out.size))
  replace hs := Kept.mk (Nat.le_trans hs.out hb1.size)
  clear hb1 hgA
  rewrite [HO2.out]
  obtain ⟨hBK, K4, K5⟩ := vset zeroV (.slice none 0 0) (.slice none 0 0) (g := w.heap.size + 2) (by omega) hB.out HZ.out rfl (.inl ⟨rfl, rfl⟩) (.inl ⟨rfl, rfl⟩) (by intro h; cases h) (by intro h; cases h)
  have ka0 := CA.out.2 0 _ rfl
  have kb0 := CB.out.2 0 _ rfl
  have NP1 : Kept (zeroV.plus ≠ [] → NewB w.heap.size (.slice none 0 0)) := ⟨fun h => absurd rfl h⟩
  have NM1 : Kept (zeroV.minus ≠ [] → NewB w.heap.size (.slice none 0 0)) := ⟨fun h => absurd rfl h⟩
  obtain ⟨hc', hp', hm'⟩ := K4.out
  clear K4
  go_wp2_with (have hz0 := K5; refine wpList_storeN 40 rfl (.tmp 4) (.tmp 20) rfl (w.heap.size + 2) [.int .i64 0, .int .i64 0, .int .i64 0, .bool false, .string ⟨#[]⟩, .slice none 0 0, .slice none 0 0, .int .u64 0] size_va rfl rfl HZ.out rfl HF.out K5.out ?_; clear hz0 K5)
  exact bodyPost_ret (resultsN2 rfl _ _ (w.heap.size + 2) _ (.int .i64 3) size_va agg_va rfl rfl hc') rfl ⟨_, rfl, ⟨(.slice none 0 0), (.slice none 0 0), rfl, hp', hm', NP1.out, NM1.out⟩, hBK.out⟩
set_option maxRecDepth 20000 in
set_option maxHeartbeats 2000000 in
theorem rjoin_reg_true (A B : Va) (v u : Value) (w : World) (hv : isVa A v w) (hu : isVa B u w) (hA : Fit A) (hC : Fit B) (h : okV A = true) (h2 : okV B = true) (h3 : A.kind = B.kind) (h4 : A.kind = 1) (h5 : behindB B A = true) (hn1 : B.plus = []) (hn2 : B.minus = []) :
    Calls Tryz.prog 110 #[v, u] w fun e w' => ∃ v', e = .returned (.tuple #[v', .int .i64 0]) ∧ isVaR w.heap.size B v' w' ∧ Below w.heap.size w w' := by
  obtain ⟨vp, vm, rfl, hp, hm⟩ := hv
  obtain ⟨up, um, rfl, gp, gm⟩ := hu
  have hB1 := lit_below w (.cells #[.int .i64 A.kind, .int .i64 A.time, .int .i64 A.node, .bool A.dead, .string ⟨A.text.toArray⟩, vp, vm, .int .u64 (A.flags.toNat : Int)] 40)
  have hB2 := lit_below (w.alloc (.cells #[.int .i64 A.kind, .int .i64 A.time, .int .i64 A.node, .bool A.dead, .string ⟨A.text.toArray⟩, vp, vm, .int .u64 (A.flags.toNat : Int)] 40)) (.cells #[.int .i64 B.kind, .int .i64 B.time, .int .i64 B.node, .bool B.dead, .string ⟨B.text.toArray⟩, up, um, .int .u64 (B.flags.toNat : Int)] 40)
  have hB3 := lit_below ((w.alloc (.cells #[.int .i64 A.kind, .int .i64 A.time, .int .i64 A.node, .bool A.dead, .string ⟨A.text.toArray⟩, vp, vm, .int .u64 (A.flags.toNat : Int)] 40)).alloc (.cells #[.int .i64 B.kind, .int .i64 B.time, .int .i64 B.node, .bool B.dead, .string ⟨B.text.toArray⟩, up, um, .int .u64 (B.flags.toNat : Int)] 40)) (.cells #[.int .i64 0, .int .i64 0, .int .i64 0, .bool false, .string ⟨#[]⟩, .slice none 0 0, .slice none 0 0, .int .u64 0] 40)
  have hB := Kept.mk ((hB1.trans (hB2.mono hB1.size)).trans (hB3.mono (hB1.trans (hB2.mono hB1.size)).size))
  have CA := Kept.mk (((cellsN_at w 40 [.int .i64 A.kind, .int .i64 A.time, .int .i64 A.node, .bool A.dead, .string ⟨A.text.toArray⟩, vp, vm, .int .u64 (A.flags.toNat : Int)] w.heap.size rfl).keep hB2 (by simp)).keep hB3 (by simp <;> omega))
  have CB := Kept.mk ((cellsN_at (w.alloc (.cells #[.int .i64 A.kind, .int .i64 A.time, .int .i64 A.node, .bool A.dead, .string ⟨A.text.toArray⟩, vp, vm, .int .u64 (A.flags.toNat : Int)] 40)) 40 [.int .i64 B.kind, .int .i64 B.time, .int .i64 B.node, .bool B.dead, .string ⟨B.text.toArray⟩, up, um, .int .u64 (B.flags.toNat : Int)] (w.heap.size + 1) (by simp)).keep hB3 (by simp))
  have HZ := Kept.mk (cellsN_at ((w.alloc (.cells #[.int .i64 A.kind, .int .i64 A.time, .int .i64 A.node, .bool A.dead, .string ⟨A.text.toArray⟩, vp, vm, .int .u64 (A.flags.toNat : Int)] 40)).alloc (.cells #[.int .i64 B.kind, .int .i64 B.time, .int .i64 B.node, .bool B.dead, .string ⟨B.text.toArray⟩, up, um, .int .u64 (B.flags.toNat : Int)] 40)) 40 [.int .i64 0, .int .i64 0, .int .i64 0, .bool false, .string ⟨#[]⟩, .slice none 0 0, .slice none 0 0, .int .u64 0] (w.heap.size + 2) (by simp))
  have FA := Kept.mk (((free5_at w #[.int .i64 A.kind, .int .i64 A.time, .int .i64 A.node, .bool A.dead, .string ⟨A.text.toArray⟩, vp, vm, .int .u64 (A.flags.toNat : Int)] 40 w.heap.size rfl).keep hB2 (by simp)).keep hB3 (by simp <;> omega))
  have HF := Kept.mk (free5_at ((w.alloc (.cells #[.int .i64 A.kind, .int .i64 A.time, .int .i64 A.node, .bool A.dead, .string ⟨A.text.toArray⟩, vp, vm, .int .u64 (A.flags.toNat : Int)] 40)).alloc (.cells #[.int .i64 B.kind, .int .i64 B.time, .int .i64 B.node, .bool B.dead, .string ⟨B.text.toArray⟩, up, um, .int .u64 (B.flags.toNat : Int)] 40)) #[.int .i64 0, .int .i64 0, .int .i64 0, .bool false, .string ⟨#[]⟩, .slice none 0 0, .slice none 0 0, .int .u64 0] 40 (w.heap.size + 2) (by simp))
  have hs : Kept ((((w.alloc (.cells #[.int .i64 A.kind, .int .i64 A.time, .int .i64 A.node, .bool A.dead, .string ⟨A.text.toArray⟩, vp, vm, .int .u64 (A.flags.toNat : Int)] 40)).alloc (.cells #[.int .i64 B.kind, .int .i64 B.time, .int .i64 B.node, .bool B.dead, .string ⟨B.text.toArray⟩, up, um, .int .u64 (B.flags.toNat : Int)] 40)).alloc (.cells #[.int .i64 0, .int .i64 0, .int .i64 0, .bool false, .string ⟨#[]⟩, .slice none 0 0, .slice none 0 0, .int .u64 0] 40)).heap.size = w.heap.size + 3) := ⟨by simp⟩
  have HP := Kept.mk hp
  have HM := Kept.mk hm
  have GP := Kept.mk gp
  have GM := Kept.mk gm
  clear hp hm gp gm hB1 hB2 hB3
  have HO := Kept.mk h
  have HO2 := Kept.mk h2
  have HBH := Kept.mk h5
  have d3 : (A.kind == B.kind) = true := by simpa using h3
  have d4 : (A.kind == 1) = true := by simpa using h4
  clear h h2 h3 h4 h5
  go_enter Tryz.func110, Tryz.ntmps110
  go_wp2_with fail
  generalize ((w.alloc (.cells #[.int .i64 A.kind, .int .i64 A.time, .int .i64 A.node, .bool A.dead, .string ⟨A.text.toArray⟩, vp, vm, .int .u64 (A.flags.toNat : Int)] 40)).alloc (.cells #[.int .i64 B.kind, .int .i64 B.time, .int .i64 B.node, .bool B.dead, .string ⟨B.text.toArray⟩, up, um, .int .u64 (B.flags.toNat : Int)] 40)).alloc (.cells #[.int .i64 0, .int .i64 0, .int .i64 0, .bool false, .string ⟨#[]⟩, .slice none 0 0, .slice none 0 0, .int .u64 0] 40) = W0 at *
  replace hs := Kept.mk (Nat.le_of_eq hs.out.symm)
  ((with_reducible refine (rcheck_any A _ _ (show isVa A (.agg #[.int .i64 A.kind, .int .i64 A.time, .int .i64 A.node, .bool A.dead, .string ⟨A.text.toArray⟩, vp, vm, .int .u64 (A.flags.toNat : Int)]) W0 from va_mk (cells_up HP.out hB.out) (cells_up HM.out hB.out)) hA).mono ?_); rintro e w1 ⟨rfl, hb1⟩)
  have hgA := CA.out.1
  replace FA := Kept.mk (FA.out.keep hb1 (Nat.lt_of_lt_of_le (by show w.heap.size < _; exact hgA) (Nat.le_refl _)))
  replace HF := Kept.mk (HF.out.keep hb1 HZ.out.1)
  replace CA := Kept.mk (CA.out.keep hb1 CA.out.1)
  replace CB := Kept.mk (CB.out.keep hb1 CB.out.1)
  replace HZ := Kept.mk (HZ.out.keep hb1 HZ.out.1)
  replace hB := Kept.mk (hB.out.trans (hb1.mono hB.out.size))
  replace hs := Kept.mk (Nat.le_trans hs.out hb1.size)
  clear hb1 hgA
  rewrite [HO.out]
  have kb0 := CB.out.2 0 _ rfl
  have kb1 := CB.out.2 1 _ rfl
  have kb2 := CB.out.2 2 _ rfl
  have kb3 := CB.out.2 3 _ rfl
  have kb4 := CB.out.2 4 _ rfl
  have kb5 := CB.out.2 5 _ rfl
  have kb6 := CB.out.2 6 _ rfl
  have kb7 := CB.out.2 7 _ rfl
  go_wp2_with fail
  ((with_reducible refine (rcheck_any B _ _ (show isVa B (.agg #[.int .i64 B.kind, .int .i64 B.time, .int .i64 B.node, .bool B.dead, .string ⟨B.text.toArray⟩, up, um, .int .u64 (B.flags.toNat : Int)]) w1 from va_mk (cells_up GP.out hB.out) (cells_up GM.out hB.out)) hC).mono ?_); rintro e w2 ⟨rfl, hb1⟩)
  clear kb0 kb1 kb2 kb3 kb4 kb5 kb6 kb7
  have hgA := CA.out.1
  replace FA := Kept.mk (FA.out.keep hb1 (Nat.lt_of_lt_of_le (by show w.heap.size < _; exact hgA) (Nat.le_refl _)))
  replace HF := Kept.mk (HF.out.keep hb1 HZ.out.1)
  replace CA := Kept.mk (CA.out.keep hb1 CA.out.1)
  replace CB := Kept.mk (CB.out.keep hb1 CB.out.1)
  replace HZ := Kept.mk (HZ.out.keep hb1 HZ.out.1)
  replace hB := Kept.mk (hB.out.trans (hb1.mono hB.out.size))
  replace hs := Kept.mk (Nat.le_trans hs.out hb1.size)
  clear hb1 hgA
  rewrite [HO2.out]
  have ka0 := CA.out.2 0 _ rfl
  have ka1 := CA.out.2 1 _ rfl
  have ka2 := CA.out.2 2 _ rfl
  have ka3 := CA.out.2 3 _ rfl
  have ka4 := CA.out.2 4 _ rfl
  have ka5 := CA.out.2 5 _ rfl
  have ka6 := CA.out.2 6 _ rfl
  have ka7 := CA.out.2 7 _ rfl
  have kb0 := CB.out.2 0 _ rfl
  have kb1 := CB.out.2 1 _ rfl
  have kb2 := CB.out.2 2 _ rfl
  have kb3 := CB.out.2 3 _ rfl
  have kb4 := CB.out.2 4 _ rfl
  have kb5 := CB.out.2 5 _ rfl
  have kb6 := CB.out.2 6 _ rfl
  have kb7 := CB.out.2 7 _ rfl
  go_wp2_with fail
  ((with_reducible refine (rbehind_any B A _ _ _ (show isVa B (.agg #[.int .i64 B.kind, .int .i64 B.time, .int .i64 B.node, .bool B.dead, .string ⟨B.text.toArray⟩, up, um, .int .u64 (B.flags.toNat : Int)]) w2 from va_mk (cells_up GP.out hB.out) (cells_up GM.out hB.out)) (show isVa A (.agg #[.int .i64 A.kind, .int .i64 A.time, .int .i64 A.node, .bool A.dead, .string ⟨A.text.toArray⟩, vp, vm, .int .u64 (A.flags.toNat : Int)]) w2 from va_mk (cells_up HP.out hB.out) (cells_up HM.out hB.out))).mono ?_); rintro e w3 ⟨rfl, hb1⟩)
  clear ka0 ka1 ka2 ka3 ka4 ka5 ka6 ka7 kb0 kb1 kb2 kb3 kb4 kb5 kb6 kb7
  have hgA := CA.out.1
  replace FA := Kept.mk (FA.out.keep hb1 (Nat.lt_of_lt_of_le (by show w.heap.size < _; exact hgA) (Nat.le_refl _)))
  replace HF := Kept.mk (HF.out.keep hb1 HZ.out.1)
  replace CA := Kept.mk (CA.out.keep hb1 CA.out.1)
  replace CB := Kept.mk (CB.out.keep hb1 CB.out.1)
  replace HZ := Kept.mk (HZ.out.keep hb1 HZ.out.1)
  replace hB := Kept.mk (hB.out.trans (hb1.mono hB.out.size))
  replace hs := Kept.mk (Nat.le_trans hs.out hb1.size)
  clear hb1 hgA
  rewrite [HBH.out]
  obtain ⟨hBK, K4, K5⟩ := vset2 B up um (g := w.heap.size + 2) (by omega) hB.out HZ.out rfl (stable_cells _ _ _ _ GP.out hB.out) (stable_cells _ _ _ _ GM.out hB.out) (fun e => absurd hn1 e) (fun e => absurd hn2 e)
  have kb0 := CB.out.2 0 _ rfl
  have kb1 := CB.out.2 1 _ rfl
  have kb2 := CB.out.2 2 _ rfl
  have kb3 := CB.out.2 3 _ rfl
  have kb4 := CB.out.2 4 _ rfl
  have kb5 := CB.out.2 5 _ rfl
  have kb6 := CB.out.2 6 _ rfl
  have kb7 := CB.out.2 7 _ rfl
  have NP1 : Kept (B.plus ≠ [] → NewB w.heap.size up) := ⟨fun h => absurd hn1 h⟩
  have NM1 : Kept (B.minus ≠ [] → NewB w.heap.size um) := ⟨fun h => absurd hn2 h⟩
  obtain ⟨hc', hp', hm'⟩ := K4.out
  clear K4
  go_wp2_with (have hz0 := K5; refine wpList_storeN 40 rfl (.tmp 4) (.tmp 27) rfl (w.heap.size + 2) [.int .i64 B.kind, .int .i64 B.time, .int .i64 B.node, .bool B.dead, .string ⟨B.text.toArray⟩, up, um, .int .u64 (B.flags.toNat : Int)] size_va rfl rfl HZ.out rfl HF.out K5.out ?_; clear hz0 K5)
  exact bodyPost_ret (resultsN2 rfl _ _ (w.heap.size + 2) _ (.int .i64 0) size_va agg_va rfl rfl hc') rfl ⟨_, rfl, ⟨up, um, rfl, hp', hm', NP1.out, NM1.out⟩, hBK.out⟩
set_option maxRecDepth 20000 in
set_option maxHeartbeats 2000000 in
theorem rjoin_reg_false (A B : Va) (v u : Value) (w : World) (hv : isVa A v w) (hu : isVa B u w) (hA : Fit A) (hC : Fit B) (h : okV A = true) (h2 : okV B = true) (h3 : A.kind = B.kind) (h4 : A.kind = 1) (h5 : behindB B A = false) (hn1 : A.plus = []) (hn2 : A.minus = []) :
    Calls Tryz.prog 110 #[v, u] w fun e w' => ∃ v', e = .returned (.tuple #[v', .int .i64 0]) ∧ isVaR w.heap.size A v' w' ∧ Below w.heap.size w w' := by
  obtain ⟨vp, vm, rfl, hp, hm⟩ := hv
  obtain ⟨up, um, rfl, gp, gm⟩ := hu
  have hB1 := lit_below w (.cells #[.int .i64 A.kind, .int .i64 A.time, .int .i64 A.node, .bool A.dead, .string ⟨A.text.toArray⟩, vp, vm, .int .u64 (A.flags.toNat : Int)] 40)
  have hB2 := lit_below (w.alloc (.cells #[.int .i64 A.kind, .int .i64 A.time, .int .i64 A.node, .bool A.dead, .string ⟨A.text.toArray⟩, vp, vm, .int .u64 (A.flags.toNat : Int)] 40)) (.cells #[.int .i64 B.kind, .int .i64 B.time, .int .i64 B.node, .bool B.dead, .string ⟨B.text.toArray⟩, up, um, .int .u64 (B.flags.toNat : Int)] 40)
  have hB3 := lit_below ((w.alloc (.cells #[.int .i64 A.kind, .int .i64 A.time, .int .i64 A.node, .bool A.dead, .string ⟨A.text.toArray⟩, vp, vm, .int .u64 (A.flags.toNat : Int)] 40)).alloc (.cells #[.int .i64 B.kind, .int .i64 B.time, .int .i64 B.node, .bool B.dead, .string ⟨B.text.toArray⟩, up, um, .int .u64 (B.flags.toNat : Int)] 40)) (.cells #[.int .i64 0, .int .i64 0, .int .i64 0, .bool false, .string ⟨#[]⟩, .slice none 0 0, .slice none 0 0, .int .u64 0] 40)
  have hB := Kept.mk ((hB1.trans (hB2.mono hB1.size)).trans (hB3.mono (hB1.trans (hB2.mono hB1.size)).size))
  have CA := Kept.mk (((cellsN_at w 40 [.int .i64 A.kind, .int .i64 A.time, .int .i64 A.node, .bool A.dead, .string ⟨A.text.toArray⟩, vp, vm, .int .u64 (A.flags.toNat : Int)] w.heap.size rfl).keep hB2 (by simp)).keep hB3 (by simp <;> omega))
  have CB := Kept.mk ((cellsN_at (w.alloc (.cells #[.int .i64 A.kind, .int .i64 A.time, .int .i64 A.node, .bool A.dead, .string ⟨A.text.toArray⟩, vp, vm, .int .u64 (A.flags.toNat : Int)] 40)) 40 [.int .i64 B.kind, .int .i64 B.time, .int .i64 B.node, .bool B.dead, .string ⟨B.text.toArray⟩, up, um, .int .u64 (B.flags.toNat : Int)] (w.heap.size + 1) (by simp)).keep hB3 (by simp))
  have HZ := Kept.mk (cellsN_at ((w.alloc (.cells #[.int .i64 A.kind, .int .i64 A.time, .int .i64 A.node, .bool A.dead, .string ⟨A.text.toArray⟩, vp, vm, .int .u64 (A.flags.toNat : Int)] 40)).alloc (.cells #[.int .i64 B.kind, .int .i64 B.time, .int .i64 B.node, .bool B.dead, .string ⟨B.text.toArray⟩, up, um, .int .u64 (B.flags.toNat : Int)] 40)) 40 [.int .i64 0, .int .i64 0, .int .i64 0, .bool false, .string ⟨#[]⟩, .slice none 0 0, .slice none 0 0, .int .u64 0] (w.heap.size + 2) (by simp))
  have FA := Kept.mk (((free5_at w #[.int .i64 A.kind, .int .i64 A.time, .int .i64 A.node, .bool A.dead, .string ⟨A.text.toArray⟩, vp, vm, .int .u64 (A.flags.toNat : Int)] 40 w.heap.size rfl).keep hB2 (by simp)).keep hB3 (by simp <;> omega))
  have HF := Kept.mk (free5_at ((w.alloc (.cells #[.int .i64 A.kind, .int .i64 A.time, .int .i64 A.node, .bool A.dead, .string ⟨A.text.toArray⟩, vp, vm, .int .u64 (A.flags.toNat : Int)] 40)).alloc (.cells #[.int .i64 B.kind, .int .i64 B.time, .int .i64 B.node, .bool B.dead, .string ⟨B.text.toArray⟩, up, um, .int .u64 (B.flags.toNat : Int)] 40)) #[.int .i64 0, .int .i64 0, .int .i64 0, .bool false, .string ⟨#[]⟩, .slice none 0 0, .slice none 0 0, .int .u64 0] 40 (w.heap.size + 2) (by simp))
  have hs : Kept ((((w.alloc (.cells #[.int .i64 A.kind, .int .i64 A.time, .int .i64 A.node, .bool A.dead, .string ⟨A.text.toArray⟩, vp, vm, .int .u64 (A.flags.toNat : Int)] 40)).alloc (.cells #[.int .i64 B.kind, .int .i64 B.time, .int .i64 B.node, .bool B.dead, .string ⟨B.text.toArray⟩, up, um, .int .u64 (B.flags.toNat : Int)] 40)).alloc (.cells #[.int .i64 0, .int .i64 0, .int .i64 0, .bool false, .string ⟨#[]⟩, .slice none 0 0, .slice none 0 0, .int .u64 0] 40)).heap.size = w.heap.size + 3) := ⟨by simp⟩
  have HP := Kept.mk hp
  have HM := Kept.mk hm
  have GP := Kept.mk gp
  have GM := Kept.mk gm
  clear hp hm gp gm hB1 hB2 hB3
  have HO := Kept.mk h
  have HO2 := Kept.mk h2
  have HBH := Kept.mk h5
  have d3 : (A.kind == B.kind) = true := by simpa using h3
  have d4 : (A.kind == 1) = true := by simpa using h4
  clear h h2 h3 h4 h5
  go_enter Tryz.func110, Tryz.ntmps110
  go_wp2_with fail
  generalize ((w.alloc (.cells #[.int .i64 A.kind, .int .i64 A.time, .int .i64 A.node, .bool A.dead, .string ⟨A.text.toArray⟩, vp, vm, .int .u64 (A.flags.toNat : Int)] 40)).alloc (.cells #[.int .i64 B.kind, .int .i64 B.time, .int .i64 B.node, .bool B.dead, .string ⟨B.text.toArray⟩, up, um, .int .u64 (B.flags.toNat : Int)] 40)).alloc (.cells #[.int .i64 0, .int .i64 0, .int .i64 0, .bool false, .string ⟨#[]⟩, .slice none 0 0, .slice none 0 0, .int .u64 0] 40) = W0 at *
  replace hs := Kept.mk (Nat.le_of_eq hs.out.symm)
  ((with_reducible refine (rcheck_any A _ _ (show isVa A (.agg #[.int .i64 A.kind, .int .i64 A.time, .int .i64 A.node, .bool A.dead, .string ⟨A.text.toArray⟩, vp, vm, .int .u64 (A.flags.toNat : Int)]) W0 from va_mk (cells_up HP.out hB.out) (cells_up HM.out hB.out)) hA).mono ?_); rintro e w1 ⟨rfl, hb1⟩)
  have hgA := CA.out.1
  replace FA := Kept.mk (FA.out.keep hb1 (Nat.lt_of_lt_of_le (by show w.heap.size < _; exact hgA) (Nat.le_refl _)))
  replace HF := Kept.mk (HF.out.keep hb1 HZ.out.1)
  replace CA := Kept.mk (CA.out.keep hb1 CA.out.1)
  replace CB := Kept.mk (CB.out.keep hb1 CB.out.1)
  replace HZ := Kept.mk (HZ.out.keep hb1 HZ.out.1)
  replace hB := Kept.mk (hB.out.trans (hb1.mono hB.out.size))
  replace hs := Kept.mk (Nat.le_trans hs.out hb1.size)
  clear hb1 hgA
  rewrite [HO.out]
  have kb0 := CB.out.2 0 _ rfl
  have kb1 := CB.out.2 1 _ rfl
  have kb2 := CB.out.2 2 _ rfl
  have kb3 := CB.out.2 3 _ rfl
  have kb4 := CB.out.2 4 _ rfl
  have kb5 := CB.out.2 5 _ rfl
  have kb6 := CB.out.2 6 _ rfl
  have kb7 := CB.out.2 7 _ rfl
  go_wp2_with fail
  ((with_reducible refine (rcheck_any B _ _ (show isVa B (.agg #[.int .i64 B.kind, .int .i64 B.time, .int .i64 B.node, .bool B.dead, .string ⟨B.text.toArray⟩, up, um, .int .u64 (B.flags.toNat : Int)]) w1 from va_mk (cells_up GP.out hB.out) (cells_up GM.out hB.out)) hC).mono ?_); rintro e w2 ⟨rfl, hb1⟩)
  clear kb0 kb1 kb2 kb3 kb4 kb5 kb6 kb7
  have hgA := CA.out.1
  replace FA := Kept.mk (FA.out.keep hb1 (Nat.lt_of_lt_of_le (by show w.heap.size < _; exact hgA) (Nat.le_refl _)))
  replace HF := Kept.mk (HF.out.keep hb1 HZ.out.1)
  replace CA := Kept.mk (CA.out.keep hb1 CA.out.1)
  replace CB := Kept.mk (CB.out.keep hb1 CB.out.1)
  replace HZ := Kept.mk (HZ.out.keep hb1 HZ.out.1)
  replace hB := Kept.mk (hB.out.trans (hb1.mono hB.out.size))
  replace hs := Kept.mk (Nat.le_trans hs.out hb1.size)
  clear hb1 hgA
  rewrite [HO2.out]
  have ka0 := CA.out.2 0 _ rfl
  have ka1 := CA.out.2 1 _ rfl
  have ka2 := CA.out.2 2 _ rfl
  have ka3 := CA.out.2 3 _ rfl
  have ka4 := CA.out.2 4 _ rfl
  have ka5 := CA.out.2 5 _ rfl
  have ka6 := CA.out.2 6 _ rfl
  have ka7 := CA.out.2 7 _ rfl
  have kb0 := CB.out.2 0 _ rfl
  have kb1 := CB.out.2 1 _ rfl
  have kb2 := CB.out.2 2 _ rfl
  have kb3 := CB.out.2 3 _ rfl
  have kb4 := CB.out.2 4 _ rfl
  have kb5 := CB.out.2 5 _ rfl
  have kb6 := CB.out.2 6 _ rfl
  have kb7 := CB.out.2 7 _ rfl
  go_wp2_with fail
  ((with_reducible refine (rbehind_any B A _ _ _ (show isVa B (.agg #[.int .i64 B.kind, .int .i64 B.time, .int .i64 B.node, .bool B.dead, .string ⟨B.text.toArray⟩, up, um, .int .u64 (B.flags.toNat : Int)]) w2 from va_mk (cells_up GP.out hB.out) (cells_up GM.out hB.out)) (show isVa A (.agg #[.int .i64 A.kind, .int .i64 A.time, .int .i64 A.node, .bool A.dead, .string ⟨A.text.toArray⟩, vp, vm, .int .u64 (A.flags.toNat : Int)]) w2 from va_mk (cells_up HP.out hB.out) (cells_up HM.out hB.out))).mono ?_); rintro e w3 ⟨rfl, hb1⟩)
  clear ka0 ka1 ka2 ka3 ka4 ka5 ka6 ka7 kb0 kb1 kb2 kb3 kb4 kb5 kb6 kb7
  have hgA := CA.out.1
  replace FA := Kept.mk (FA.out.keep hb1 (Nat.lt_of_lt_of_le (by show w.heap.size < _; exact hgA) (Nat.le_refl _)))
  replace HF := Kept.mk (HF.out.keep hb1 HZ.out.1)
  replace CA := Kept.mk (CA.out.keep hb1 CA.out.1)
  replace CB := Kept.mk (CB.out.keep hb1 CB.out.1)
  replace HZ := Kept.mk (HZ.out.keep hb1 HZ.out.1)
  replace hB := Kept.mk (hB.out.trans (hb1.mono hB.out.size))
  replace hs := Kept.mk (Nat.le_trans hs.out hb1.size)
  clear hb1 hgA
  rewrite [HBH.out]
  obtain ⟨hBK, K4, K5⟩ := vset2 A vp vm (g := w.heap.size + 2) (by omega) hB.out HZ.out rfl (stable_cells _ _ _ _ HP.out hB.out) (stable_cells _ _ _ _ HM.out hB.out) (fun e => absurd hn1 e) (fun e => absurd hn2 e)
  have ka0 := CA.out.2 0 _ rfl
  have ka1 := CA.out.2 1 _ rfl
  have ka2 := CA.out.2 2 _ rfl
  have ka3 := CA.out.2 3 _ rfl
  have ka4 := CA.out.2 4 _ rfl
  have ka5 := CA.out.2 5 _ rfl
  have ka6 := CA.out.2 6 _ rfl
  have ka7 := CA.out.2 7 _ rfl
  have NP1 : Kept (A.plus ≠ [] → NewB w.heap.size vp) := ⟨fun h => absurd hn1 h⟩
  have NM1 : Kept (A.minus ≠ [] → NewB w.heap.size vm) := ⟨fun h => absurd hn2 h⟩
  obtain ⟨hc', hp', hm'⟩ := K4.out
  clear K4
  go_wp2_with (have hz0 := K5; refine wpList_storeN 40 rfl (.tmp 4) (.tmp 28) rfl (w.heap.size + 2) [.int .i64 A.kind, .int .i64 A.time, .int .i64 A.node, .bool A.dead, .string ⟨A.text.toArray⟩, vp, vm, .int .u64 (A.flags.toNat : Int)] size_va rfl rfl HZ.out rfl HF.out K5.out ?_; clear hz0 K5)
  exact bodyPost_ret (resultsN2 rfl _ _ (w.heap.size + 2) _ (.int .i64 0) size_va agg_va rfl rfl hc') rfl ⟨_, rfl, ⟨vp, vm, rfl, hp', hm', NP1.out, NM1.out⟩, hBK.out⟩
set_option maxRecDepth 20000 in
set_option maxHeartbeats 2000000 in
theorem rjoin_rest (A B : Va) (v u : Value) (w : World) (hv : isVa A v w) (hu : isVa B u w) (hA : Fit A) (hC : Fit B) (h : okV A = true) (h2 : okV B = true) (h3 : A.kind = B.kind) (h4 : A.kind ≠ 1) (l1 : A.plus.length = B.plus.length) (l2 : A.minus.length = B.minus.length) :
    Calls Tryz.prog 110 #[v, u] w fun e w' => ∃ v', e = .returned (.tuple #[v', .int .i64 0]) ∧ isVaR w.heap.size (mergeV A B) v' w' ∧ Below w.heap.size w w' := by
  obtain ⟨vp, vm, rfl, hp, hm⟩ := hv
  obtain ⟨up, um, rfl, gp, gm⟩ := hu
  have hB1 := lit_below w (.cells #[.int .i64 A.kind, .int .i64 A.time, .int .i64 A.node, .bool A.dead, .string ⟨A.text.toArray⟩, vp, vm, .int .u64 (A.flags.toNat : Int)] 40)
  have hB2 := lit_below (w.alloc (.cells #[.int .i64 A.kind, .int .i64 A.time, .int .i64 A.node, .bool A.dead, .string ⟨A.text.toArray⟩, vp, vm, .int .u64 (A.flags.toNat : Int)] 40)) (.cells #[.int .i64 B.kind, .int .i64 B.time, .int .i64 B.node, .bool B.dead, .string ⟨B.text.toArray⟩, up, um, .int .u64 (B.flags.toNat : Int)] 40)
  have hB3 := lit_below ((w.alloc (.cells #[.int .i64 A.kind, .int .i64 A.time, .int .i64 A.node, .bool A.dead, .string ⟨A.text.toArray⟩, vp, vm, .int .u64 (A.flags.toNat : Int)] 40)).alloc (.cells #[.int .i64 B.kind, .int .i64 B.time, .int .i64 B.node, .bool B.dead, .string ⟨B.text.toArray⟩, up, um, .int .u64 (B.flags.toNat : Int)] 40)) (.cells #[.int .i64 0, .int .i64 0, .int .i64 0, .bool false, .string ⟨#[]⟩, .slice none 0 0, .slice none 0 0, .int .u64 0] 40)
  have hB := Kept.mk ((hB1.trans (hB2.mono hB1.size)).trans (hB3.mono (hB1.trans (hB2.mono hB1.size)).size))
  have CA := Kept.mk (((cellsN_at w 40 [.int .i64 A.kind, .int .i64 A.time, .int .i64 A.node, .bool A.dead, .string ⟨A.text.toArray⟩, vp, vm, .int .u64 (A.flags.toNat : Int)] w.heap.size rfl).keep hB2 (by simp)).keep hB3 (by simp <;> omega))
  have CB := Kept.mk ((cellsN_at (w.alloc (.cells #[.int .i64 A.kind, .int .i64 A.time, .int .i64 A.node, .bool A.dead, .string ⟨A.text.toArray⟩, vp, vm, .int .u64 (A.flags.toNat : Int)] 40)) 40 [.int .i64 B.kind, .int .i64 B.time, .int .i64 B.node, .bool B.dead, .string ⟨B.text.toArray⟩, up, um, .int .u64 (B.flags.toNat : Int)] (w.heap.size + 1) (by simp)).keep hB3 (by simp))
  have HZ := Kept.mk (cellsN_at ((w.alloc (.cells #[.int .i64 A.kind, .int .i64 A.time, .int .i64 A.node, .bool A.dead, .string ⟨A.text.toArray⟩, vp, vm, .int .u64 (A.flags.toNat : Int)] 40)).alloc (.cells #[.int .i64 B.kind, .int .i64 B.time, .int .i64 B.node, .bool B.dead, .string ⟨B.text.toArray⟩, up, um, .int .u64 (B.flags.toNat : Int)] 40)) 40 [.int .i64 0, .int .i64 0, .int .i64 0, .bool false, .string ⟨#[]⟩, .slice none 0 0, .slice none 0 0, .int .u64 0] (w.heap.size + 2) (by simp))
  have FA := Kept.mk (((free5_at w #[.int .i64 A.kind, .int .i64 A.time, .int .i64 A.node, .bool A.dead, .string ⟨A.text.toArray⟩, vp, vm, .int .u64 (A.flags.toNat : Int)] 40 w.heap.size rfl).keep hB2 (by simp)).keep hB3 (by simp <;> omega))
  have HF := Kept.mk (free5_at ((w.alloc (.cells #[.int .i64 A.kind, .int .i64 A.time, .int .i64 A.node, .bool A.dead, .string ⟨A.text.toArray⟩, vp, vm, .int .u64 (A.flags.toNat : Int)] 40)).alloc (.cells #[.int .i64 B.kind, .int .i64 B.time, .int .i64 B.node, .bool B.dead, .string ⟨B.text.toArray⟩, up, um, .int .u64 (B.flags.toNat : Int)] 40)) #[.int .i64 0, .int .i64 0, .int .i64 0, .bool false, .string ⟨#[]⟩, .slice none 0 0, .slice none 0 0, .int .u64 0] 40 (w.heap.size + 2) (by simp))
  have hs : Kept ((((w.alloc (.cells #[.int .i64 A.kind, .int .i64 A.time, .int .i64 A.node, .bool A.dead, .string ⟨A.text.toArray⟩, vp, vm, .int .u64 (A.flags.toNat : Int)] 40)).alloc (.cells #[.int .i64 B.kind, .int .i64 B.time, .int .i64 B.node, .bool B.dead, .string ⟨B.text.toArray⟩, up, um, .int .u64 (B.flags.toNat : Int)] 40)).alloc (.cells #[.int .i64 0, .int .i64 0, .int .i64 0, .bool false, .string ⟨#[]⟩, .slice none 0 0, .slice none 0 0, .int .u64 0] 40)).heap.size = w.heap.size + 3) := ⟨by simp⟩
  have HP := Kept.mk hp
  have HM := Kept.mk hm
  have GP := Kept.mk gp
  have GM := Kept.mk gm
  clear hp hm gp gm hB1 hB2 hB3
  have HO := Kept.mk h
  have HO2 := Kept.mk h2
  have d3 : (A.kind == B.kind) = true := by simpa using h3
  have d4 : (A.kind == 1) = false := by simpa using h4
  clear h h2 h3 h4
  go_enter Tryz.func110, Tryz.ntmps110
  go_wp2_with fail
  generalize ((w.alloc (.cells #[.int .i64 A.kind, .int .i64 A.time, .int .i64 A.node, .bool A.dead, .string ⟨A.text.toArray⟩, vp, vm, .int .u64 (A.flags.toNat : Int)] 40)).alloc (.cells #[.int .i64 B.kind, .int .i64 B.time, .int .i64 B.node, .bool B.dead, .string ⟨B.text.toArray⟩, up, um, .int .u64 (B.flags.toNat : Int)] 40)).alloc (.cells #[.int .i64 0, .int .i64 0, .int .i64 0, .bool false, .string ⟨#[]⟩, .slice none 0 0, .slice none 0 0, .int .u64 0] 40) = W0 at *
  replace hs := Kept.mk (Nat.le_of_eq hs.out.symm)
  ((with_reducible refine (rcheck_any A _ _ (show isVa A (.agg #[.int .i64 A.kind, .int .i64 A.time, .int .i64 A.node, .bool A.dead, .string ⟨A.text.toArray⟩, vp, vm, .int .u64 (A.flags.toNat : Int)]) W0 from va_mk (cells_up HP.out hB.out) (cells_up HM.out hB.out)) hA).mono ?_); rintro e w1 ⟨rfl, hb1⟩)
  have hgA := CA.out.1
  replace FA := Kept.mk (FA.out.keep hb1 (Nat.lt_of_lt_of_le (by show w.heap.size < _; exact hgA) (Nat.le_refl _)))
  replace HF := Kept.mk (HF.out.keep hb1 HZ.out.1)
  replace CA := Kept.mk (CA.out.keep hb1 CA.out.1)
  replace CB := Kept.mk (CB.out.keep hb1 CB.out.1)
  replace HZ := Kept.mk (HZ.out.keep hb1 HZ.out.1)
  replace hB := Kept.mk (hB.out.trans (hb1.mono hB.out.size))
  replace hs := Kept.mk (Nat.le_trans hs.out hb1.size)
  clear hb1 hgA
  rewrite [HO.out]
  have kb0 := CB.out.2 0 _ rfl
  have kb1 := CB.out.2 1 _ rfl
  have kb2 := CB.out.2 2 _ rfl
  have kb3 := CB.out.2 3 _ rfl
  have kb4 := CB.out.2 4 _ rfl
  have kb5 := CB.out.2 5 _ rfl
  have kb6 := CB.out.2 6 _ rfl
  have kb7 := CB.out.2 7 _ rfl
  go_wp2_with fail
  ((with_reducible refine (rcheck_any B _ _ (show isVa B (.agg #[.int .i64 B.kind, .int .i64 B.time, .int .i64 B.node, .bool B.dead, .string ⟨B.text.toArray⟩, up, um, .int .u64 (B.flags.toNat : Int)]) w1 from va_mk (cells_up GP.out hB.out) (cells_up GM.out hB.out)) hC).mono ?_); rintro e w2 ⟨rfl, hb1⟩)
  clear kb0 kb1 kb2 kb3 kb4 kb5 kb6 kb7
  have hgA := CA.out.1
  replace FA := Kept.mk (FA.out.keep hb1 (Nat.lt_of_lt_of_le (by show w.heap.size < _; exact hgA) (Nat.le_refl _)))
  replace HF := Kept.mk (HF.out.keep hb1 HZ.out.1)
  replace CA := Kept.mk (CA.out.keep hb1 CA.out.1)
  replace CB := Kept.mk (CB.out.keep hb1 CB.out.1)
  replace HZ := Kept.mk (HZ.out.keep hb1 HZ.out.1)
  replace hB := Kept.mk (hB.out.trans (hb1.mono hB.out.size))
  replace hs := Kept.mk (Nat.le_trans hs.out hb1.size)
  clear hb1 hgA
  rewrite [HO2.out]
  have ka0 := CA.out.2 0 _ rfl
  have ka1 := CA.out.2 1 _ rfl
  have ka2 := CA.out.2 2 _ rfl
  have ka3 := CA.out.2 3 _ rfl
  have ka4 := CA.out.2 4 _ rfl
  have ka5 := CA.out.2 5 _ rfl
  have ka6 := CA.out.2 6 _ rfl
  have ka7 := CA.out.2 7 _ rfl
  have kb0 := CB.out.2 0 _ rfl
  have kb1 := CB.out.2 1 _ rfl
  have kb2 := CB.out.2 2 _ rfl
  have kb3 := CB.out.2 3 _ rfl
  have kb4 := CB.out.2 4 _ rfl
  have kb5 := CB.out.2 5 _ rfl
  have kb6 := CB.out.2 6 _ rfl
  have kb7 := CB.out.2 7 _ rfl
  go_wp2_with fail
  ((with_reducible refine (most_any A.plus B.plus _ _ _ (cells_up HP.out hB.out) (cells_up GP.out hB.out) l1 hA.plus).mono ?_); rintro e w3 ⟨v1, rfl, o1, hb1⟩)
  obtain ⟨-, a1, n1, c1, rfl⟩ := own_slice o1
  clear ka0 ka1 ka2 ka3 ka4 ka5 ka6 ka7 kb0 kb1 kb2 kb3 kb4 kb5 kb6 kb7
  have hs2 := hs.out
  have hs3 := hb1.size
  replace o1 := Kept.mk o1
  have hgA := CA.out.1
  replace FA := Kept.mk (FA.out.keep hb1 (Nat.lt_of_lt_of_le (by show w.heap.size < _; exact hgA) (Nat.le_refl _)))
  replace HF := Kept.mk (HF.out.keep hb1 HZ.out.1)
  replace CA := Kept.mk (CA.out.keep hb1 CA.out.1)
  replace CB := Kept.mk (CB.out.keep hb1 CB.out.1)
  replace HZ := Kept.mk (HZ.out.keep hb1 HZ.out.1)
  replace hB := Kept.mk (hB.out.trans (hb1.mono hB.out.size))
  replace hs := Kept.mk (Nat.le_trans hs.out hb1.size)
  clear hb1 hgA
  have ka0 := CA.out.2 0 _ rfl
  have ka1 := CA.out.2 1 _ rfl
  have ka2 := CA.out.2 2 _ rfl
  have ka3 := CA.out.2 3 _ rfl
  have ka4 := CA.out.2 4 _ rfl
  have ka5 := CA.out.2 5 _ rfl
  have ka6 := CA.out.2 6 _ rfl
  have ka7 := CA.out.2 7 _ rfl
  have kb0 := CB.out.2 0 _ rfl
  have kb1 := CB.out.2 1 _ rfl
  have kb2 := CB.out.2 2 _ rfl
  have kb3 := CB.out.2 3 _ rfl
  have kb4 := CB.out.2 4 _ rfl
  have kb5 := CB.out.2 5 _ rfl
  have kb6 := CB.out.2 6 _ rfl
  have kb7 := CB.out.2 7 _ rfl
  have fz5 := FA.out 5
  have HB4 := Kept.mk (hB.out.setCell (p := ⟨w.heap.size, 5, none⟩) (Nat.le_refl _) (.slice a1 n1 c1))
  have CA4 := Kept.mk (CA.out.setAt 5 (.slice a1 n1 c1) (by simp))
  have CB4 := Kept.mk (CB.out.setOther (b := w.heap.size) (by omega) 5 (.slice a1 n1 c1))
  have HZ4 := Kept.mk (HZ.out.setOther (b := w.heap.size) (by omega) 5 (.slice a1 n1 c1))
  have FA4 := Kept.mk (FA.out.set ⟨w.heap.size, 5, none⟩ (.slice a1 n1 c1))
  have HF4 := Kept.mk (HF.out.set ⟨w.heap.size, 5, none⟩ (.slice a1 n1 c1))
  have o4 := Kept.mk (o1.out.set (p := ⟨w.heap.size, 5, none⟩) (by show w.heap.size < _; omega) (.slice a1 n1 c1))
  go_wp2_with fail
  generalize w3.setCell ⟨w.heap.size, 5, none⟩ (.slice a1 n1 c1) = W4 at *
  clear CA CB HZ FA HF o1 hB fz5
  clear ka0 ka1 ka2 ka3 ka4 ka5 ka6 ka7 kb0 kb1 kb2 kb3 kb4 kb5 kb6 kb7
  have hsz4 : w.heap.size + 3 ≤ W4.heap.size := by have := HB4.out.size; have := HZ4.out.1; omega
  ((with_reducible refine (most_any A.minus B.minus _ _ _ (cells_up HM.out HB4.out) (cells_up GM.out HB4.out) l2 hA.minus).mono ?_); rintro e w5 ⟨v2, rfl, o2, hb1⟩)
  obtain ⟨-, a2, n2, c2, rfl⟩ := own_slice o2
  have hs5 := hb1.size
  have CA := Kept.mk (CA4.out.keep hb1 CA4.out.1)
  have CB := Kept.mk (CB4.out.keep hb1 CB4.out.1)
  have FA := Kept.mk (FA4.out.keep hb1 CA4.out.1)
  have HF := Kept.mk (HF4.out.keep hb1 HZ4.out.1)
  have HZ := Kept.mk (HZ4.out.keep hb1 HZ4.out.1)
  have hB := Kept.mk (HB4.out.trans (hb1.mono HB4.out.size))
  have o1 := Kept.mk (stable_own _ _ _ _ _ _ o4.out hb1)
  have O2 := Kept.mk o2
  clear CA4 CB4 FA4 HF4 HZ4 HB4 o4 o2 hb1
  have ka0 := CA.out.2 0 _ rfl
  have ka1 := CA.out.2 1 _ rfl
  have ka2 := CA.out.2 2 _ rfl
  have ka3 := CA.out.2 3 _ rfl
  have ka4 := CA.out.2 4 _ rfl
  have ka5 := CA.out.2 5 _ rfl
  have ka6 := CA.out.2 6 _ rfl
  have ka7 := CA.out.2 7 _ rfl
  have kb0 := CB.out.2 0 _ rfl
  have kb1 := CB.out.2 1 _ rfl
  have kb2 := CB.out.2 2 _ rfl
  have kb3 := CB.out.2 3 _ rfl
  have kb4 := CB.out.2 4 _ rfl
  have kb5 := CB.out.2 5 _ rfl
  have kb6 := CB.out.2 6 _ rfl
  have kb7 := CB.out.2 7 _ rfl
  have fz6 := FA.out 6
  have fz7 := FA.out 7
  have hor := or_u64 A.flags B.flags
  have HB7 := Kept.mk ((hB.out.setCell (p := ⟨w.heap.size, 6, none⟩) (Nat.le_refl _) (.slice a2 n2 c2)).setCell (p := ⟨w.heap.size, 7, none⟩) (Nat.le_refl _) (.int .u64 ((A.flags ||| B.flags).toNat : Int)))
  have HZ7 := Kept.mk ((HZ.out.setOther (b := w.heap.size) (by omega) 6 (.slice a2 n2 c2)).setOther (b := w.heap.size) (by omega) 7 (.int .u64 ((A.flags ||| B.flags).toNat : Int)))
  have HF7 := Kept.mk ((HF.out.set ⟨w.heap.size, 6, none⟩ (.slice a2 n2 c2)).set ⟨w.heap.size, 7, none⟩ (.int .u64 ((A.flags ||| B.flags).toNat : Int)))
  have o17 := (o1.out.set (p := ⟨w.heap.size, 6, none⟩) (by show w.heap.size < _; omega) (.slice a2 n2 c2)).set (p := ⟨w.heap.size, 7, none⟩) (by show w.heap.size < _; omega) (.int .u64 ((A.flags ||| B.flags).toNat : Int))
  have o27 := (O2.out.set (p := ⟨w.heap.size, 6, none⟩) (by show w.heap.size < _; omega) (.slice a2 n2 c2)).set (p := ⟨w.heap.size, 7, none⟩) (by show w.heap.size < _; omega) (.int .u64 ((A.flags ||| B.flags).toNat : Int))
  obtain ⟨hBK, K4, K5⟩ := vset2 (mergeV A B) (.slice a1 n1 c1) (.slice a2 n2 c2) (g := w.heap.size + 2) (by omega) HB7.out HZ7.out rfl o17.cells o27.cells (fun _ => (own_slice o17).1.ne (by omega)) (fun _ => (own_slice o27).1.ne (by omega))
  have NP1 : Kept ((mergeV A B).plus ≠ [] → NewB w.heap.size (.slice a1 n1 c1)) := ⟨fun _ => (own_slice o17).1.low (by omega)⟩
  have NM1 : Kept ((mergeV A B).minus ≠ [] → NewB w.heap.size (.slice a2 n2 c2)) := ⟨fun _ => (own_slice o27).1.low (by omega)⟩
  clear o17 o27 HB7
  obtain ⟨hc', hp', hm'⟩ := K4.out
  clear K4
  go_wp2_with (have hz0 := K5; refine wpList_storeN 40 rfl (.tmp 4) (.tmp 47) rfl (w.heap.size + 2) [.int .i64 (mergeV A B).kind, .int .i64 (mergeV A B).time, .int .i64 (mergeV A B).node, .bool (mergeV A B).dead, .string ⟨(mergeV A B).text.toArray⟩, .slice a1 n1 c1, .slice a2 n2 c2, .int .u64 ((mergeV A B).flags.toNat : Int)] size_va rfl rfl HZ7.out rfl HF7.out K5.out ?_; clear hz0 K5)
  exact bodyPost_ret (resultsN2 rfl _ _ (w.heap.size + 2) _ (.int .i64 0) size_va agg_va rfl rfl hc') rfl ⟨_, rfl, ⟨(.slice a1 n1 c1), (.slice a2 n2 c2), rfl, hp', hm', NP1.out, NM1.out⟩, hBK.out⟩
theorem rjoinR_any (A B : Va) (v u : Value) (w : World) (hv : isVa A v w) (hu : isVa B u w) (hA : Fit A) (hC : Fit B) :
    Calls Tryz.prog 110 #[v, u] w fun e w' => ∃ v', e = .returned (.tuple #[v', .int .i64 (joinE A B)]) ∧ isVaR w.heap.size (joinF A B) v' w' ∧ Below w.heap.size w w' := by
  cases h1 : okV A with
  | false =>
    have e : joinE A B = 2 := by unfold joinE; rw [h1]; rfl
    rw [show joinF A B = zeroV by unfold joinF; rw [e]; rfl, e]
    exact rjoin_no1 A B v u w hv hu hA hC h1
  | true =>
    cases h2 : okV B with
    | false =>
      have e : joinE A B = 2 := by unfold joinE; rw [h1, h2]; rfl
      rw [show joinF A B = zeroV by unfold joinF; rw [e]; rfl, e]
      exact rjoin_no2 A B v u w hv hu hA hC h1 h2
    | true =>
      by_cases h3 : A.kind = B.kind
      · have e : joinE A B = 0 := joinE_zero.2 ⟨h1, h2, h3⟩
        by_cases h4 : A.kind = 1
        · have rA := (ok_reg h1 h4).2
          have rB := (ok_reg h2 (by omega)).2
          have e2 : joinE B A = 0 := by rw [joinE_comm]; exact e
          have ej : joinF A B = if behindB B A = true then B else A := by
            rw [join_comm e, joinF_ok e2, joinV_reg (by omega)]
            unfold joinReg
            rw [← rA, ← rB]
          rw [e, ej]
          cases h5 : behindB B A with
          | true => rw [if_pos rfl]; exact rjoin_reg_true A B v u w hv hu hA hC h1 h2 h3 h4 h5 (congrArg Va.plus rB) (congrArg Va.minus rB)
          | false => rw [if_neg (by decide)]; exact rjoin_reg_false A B v u w hv hu hA hC h1 h2 h3 h4 h5 (congrArg Va.plus rA) (congrArg Va.minus rA)
        · obtain ⟨m1, m2, m3⟩ := merge_join e h4
          rw [e, m1]
          exact rjoin_rest A B v u w hv hu hA hC h1 h2 h3 h4 m2 m3
      · have e : joinE A B = 3 := by unfold joinE; rw [h1, h2]; simp [h3]
        rw [show joinF A B = zeroV by unfold joinF; rw [e]; rfl, e]
        exact rjoin_no3 A B v u w hv hu hA hC h1 h2 h3
theorem rjoin_any (A B : Va) (v u : Value) (w : World) (hv : isVa A v w) (hu : isVa B u w) (hA : Fit A) (hC : Fit B) :
    Calls Tryz.prog 110 #[v, u] w fun e w' => ∃ v', e = .returned (.tuple #[v', .int .i64 (joinE A B)]) ∧ isVa (joinF A B) v' w' ∧ Below w.heap.size w w' :=
  (rjoinR_any A B v u w hv hu hA hC).mono (by rintro e w' ⟨v', rfl, ⟨p, m, e, hp, hm, _, _⟩, hb⟩; exact ⟨v', rfl, ⟨p, m, e, hp, hm⟩, hb⟩)
end Go.Proofs.YtmbnhlhanckkiaaGreat
end
section
namespace Go.Proofs.YtmbnhlhanckkiaaGreat
open Go.RowKit
set_option linter.unusedVariables false
set_option linter.unusedSimpArgs false

/-- Block g's first cell holds x, and may be written. -/
structure At (w : World) (g : Nat) (x : Value) : Prop where
  cell : w.cell? ⟨g, 0, none⟩ = some x
  free : w.frozen? ⟨g, 0, none⟩ = false
  lt : g < w.heap.size
/-- Block g's first cell has come to be x; no other block that was there has turned. -/
structure Wr (g : Nat) (x : Value) (w w' : World) : Prop where
  os : w'.os = w.os
  tape : w'.tape = w.tape
  output : w'.output = w.output
  size : w.heap.size ≤ w'.heap.size
  block : ∀ k, k < w.heap.size → k ≠ g → w'.heap[k]? = w.heap[k]?
  at_ : At w' g x
theorem At.keep {w w' : World} {g : Nat} {x : Value} (h : At w g x) (hb : Below w.heap.size w w') : At w' g x :=
  ⟨(hb.cell (p := ⟨g, 0, none⟩) h.lt).trans h.cell, (hb.frozen (p := ⟨g, 0, none⟩) h.lt).trans h.free, Nat.lt_of_lt_of_le h.lt hb.size⟩
theorem Wr.trans {g : Nat} {x y : Value} {a b c : World} (h : Wr g x a b) (k : Wr g y b c) : Wr g y a c :=
  ⟨k.os.trans h.os, k.tape.trans h.tape, k.output.trans h.output, Nat.le_trans h.size k.size, fun i hi hne => (k.block i (Nat.lt_of_lt_of_le hi h.size) hne).trans (h.block i hi hne), k.at_⟩
theorem Wr.then_ {g : Nat} {x : Value} {a b c : World} (h : Wr g x a b) (k : Below b.heap.size b c) : Wr g x a c :=
  ⟨k.os.trans h.os, k.tape.trans h.tape, k.output.trans h.output, Nat.le_trans h.size k.size, fun i hi hne => (k.block i (Nat.lt_of_lt_of_le hi h.size)).trans (h.block i hi hne), h.at_.keep k⟩
theorem Wr.behind {g : Nat} {x : Value} {a b c : World} (h : Below a.heap.size a b) (k : Wr g x b c) : Wr g x a c :=
  ⟨k.os.trans h.os, k.tape.trans h.tape, k.output.trans h.output, Nat.le_trans h.size k.size, fun i hi hne => (k.block i (Nat.lt_of_lt_of_le hi h.size) hne).trans (h.block i hi), k.at_⟩
theorem Wr.refl {g : Nat} {x : Value} {w : World} (h : At w g x) : Wr g x w w := ⟨rfl, rfl, rfl, Nat.le_refl _, fun _ _ _ => rfl, h⟩
theorem Wr.set {g : Nat} {x : Value} {w : World} (h : At w g x) (y : Value) : Wr g y w (w.setCell ⟨g, 0, none⟩ y) where
  os := rfl
  tape := rfl
  output := rfl
  size := by simp
  block k hk hne := Below.heap_setCell w _ y k hne
  at_ := ⟨World.cell?_setCell_same w _ _ h.cell, by rw [World.frozen?_setCell]; exact h.free, by simpa using h.lt⟩
/-- Seen from below g nothing has turned. -/
theorem Wr.below {g B : Nat} {x : Value} {w w' : World} (h : Wr g x w w') (hB : B ≤ g) (hs : B ≤ w.heap.size) : Below B w w' :=
  ⟨h.os, h.tape, h.output, h.size, fun k hk => h.block k (by omega) (by omega)⟩
theorem Wr.cell {g : Nat} {x : Value} {w w' : World} (h : Wr g x w w') {p : Addr} (hp : p.block < w.heap.size) (hne : p.block ≠ g) : w'.cell? p = w.cell? p := World.cell?_of_block (w := w) (h.block p.block hp hne)
theorem Wr.frozen {g : Nat} {x : Value} {w w' : World} (h : Wr g x w w') {p : Addr} (hp : p.block < w.heap.size) (hne : p.block ≠ g) : w'.frozen? p = w.frozen? p := World.frozen?_of_block (w := w) (h.block p.block hp hne)

theorem kept_ex {ops : Array Oper} {a0 a : Act} (h : FKept ops a0 a) (D : List (Option Nat)) (L : List Nat) (hD : ops.toList.map (·.dst) = D) (hL : D.filterMap id = L) : ∃ y : Nat → Value, a = { tmps := L.foldl (fun t s => t.setIfInBounds s (y s)) a0.tmps, defers := a0.defers } := ⟨fun s => a.tmps.getD s undef, kept_of h D L hD hL⟩
section
variable {P : Program} {ops : Array Oper} {Q : Exit → Act → World → Prop} {i : Nat} {a : Act} {w : World} {c : Nat}
/-- A call among the last operations; its own world may turn as it likes. -/
theorem tail_call (f : FuncId) (xs : Array Operand) (ts : Array TypeId) (vs : Array Value) (d : Tmp) (hop : (ops[i]?).map (fun o => (o.op, o.guard)) = some (.call { callee := .value (.func f), args := xs, argTypes := ts }, none)) (hd : (ops[i]?).bind (·.dst) = some d)
    (hx : xs.map a.eval = vs) (hent : Enters P f) (h : Calls P f vs w fun e w' => ∃ v, e = .returned v ∧ Tail P ops Q c (i + 1) (a.put (some d) v) w') : Tail P ops Q (c + 1) i a w := by
  show wpOp P ops Q i (fun a' w' => Tail P ops Q c (i + 1) a' w') a w
  unfold wpOp
  cases ho : ops[i]? with
  | none => rw [ho] at hop; simp at hop
  | some o =>
    rw [ho] at hop hd
    simp only [Option.map_some, Option.some.injEq, Prod.mk.injEq] at hop
    simp only [Option.bind_some] at hd
    simp only []
    rw [show Region.wanted o (yielded ops a.tmps) = true by simp [Region.wanted, hop.2]]
    refine .inl ?_
    unfold Oper.wp execOp
    rw [hop.1]
    have e2 : a.eval (.func f) = .func (.func f) #[] #[] := rfl
    simp only [resolve, hx, e2, Deferred.ofValue, Sem.run_bind, Sem.run_pure, Result.andThen_ok, invoke, Array.append_empty, Array.empty_append]
    rw [hent]
    simp only [Oper.upon]
    refine h.mono ?_
    rintro e w' ⟨v, rfl, hv⟩
    rw [← hd] at hv
    exact hv
end
end Go.Proofs.YtmbnhlhanckkiaaGreat
end
section
namespace Go.Proofs.YtmbnhlhanckkiaaGreat
open Go.RowKit
set_option linter.unusedVariables false
set_option linter.unusedSimpArgs false

abbrev ptr (g : Nat) : Value := .pointer (some ⟨g, 0, none⟩)
abbrev txt (l : List UInt8) : Value := .string ⟨l.toArray⟩
abbrev unitV : Value := .tuple #[]

abbrev Gave : Ending := .panicked [{ v := .iface 28 (.int .i64 2), recovered := false }]
end Go.Proofs.YtmbnhlhanckkiaaGreat
end
section
namespace Go.Proofs.YtmbnhlhanckkiaaGreat
open Go.RowKit
set_option linter.unusedVariables false

/-- Whether Get answers. -/
def fitsGet (l : List UInt8) (at_ wd : Int) : Bool := decide (1 ≤ wd) && decide (wd ≤ 7) && decide (0 ≤ at_) && decide (at_ + wd ≤ l.length)
end Go.Proofs.YtmbnhlhanckkiaaGreat
end
section
namespace Go.Proofs.YtmbnhlhanckkiaaGreat
set_option linter.unusedVariables false
set_option linter.unusedSimpArgs false

structure En where
  key : List UInt8
  val : Va
  deriving DecidableEq

def zeroE : En := ⟨[], zeroV⟩
def zerosL (n : Nat) : List UInt8 := List.replicate n 0
def bitN (b : Bool) : Nat := if b = true then 1 else 0
def numsL : List Int → List UInt8
  | [] => []
  | n :: r => putL n.toNat 2 ++ numsL r
def dataL (v : Va) : List UInt8 :=
  if v.kind = 1 then putL v.time.toNat 4 ++ (putL v.node.toNat 1 ++ (putL (bitN v.dead) 1 ++ (putL v.text.length 1 ++ v.text)))
  else if v.kind = 2 then numsL v.plus ++ numsL v.minus
  else putL (v.flags.toNat % 4294967296) 4 ++ putL (v.flags.toNat / 4294967296) 4
def okE (E : En) : Bool := decide (1 ≤ E.key.length) && decide (E.key.length ≤ 8) && okV E.val
def headL (E : En) : List UInt8 := putL E.val.kind.toNat 1 ++ (putL E.key.length 1 ++ (E.key ++ zerosL (8 - E.key.length)))
def putEn (E : En) : List UInt8 := headL E ++ (dataL E.val ++ zerosL (32 - (dataL E.val).length))
def putF (E : En) : List UInt8 := if okE E = true then putEn E else []
def chkE (E : En) : Int := if okE E = true then 0 else 2
def lessE (a b : En) : Bool := if a.val.kind = b.val.kind then Op.bytesLess a.key b.key else decide (a.val.kind < b.val.kind)
def nameB (a b : En) : Bool := decide (a.val.kind = b.val.kind) && decide (a.key = b.key)
def joinEE (a b : En) : Int := if (okE a && okE b) = true then (if nameB a b = true then 0 else 3) else 2
def joinEF (a b : En) : En := if joinEE a b = 0 then ⟨a.key, joinV a.val b.val⟩ else zeroE

def numsOf : Nat → List UInt8 → List Int
  | 0, _ => []
  | n + 1, s => (getN (s.take 2) : Int) :: numsOf n (s.drop 2)
def restOf : Nat → List UInt8 → List UInt8
  | 0, s => s
  | n + 1, s => restOf n (s.drop 2)
def regV (s : List UInt8) : Va := ⟨1, (getN (s.take 4) : Int), (getN ((s.drop 4).take 1) : Int), decide (getN (((s.drop 4).drop 1).take 1) = 1),
  ((((s.drop 4).drop 1).drop 1).drop 1).take (getN ((((s.drop 4).drop 1).drop 1).take 1)), [], [], 0⟩
def padOk (z room : Nat) (s : List UInt8) : Prop := z ≤ room ∧ (s.drop z).take (room - z) = zerosL (room - z)
instance (z room : Nat) (s : List UInt8) : Decidable (padOk z room s) := by unfold padOk; infer_instance
def regZ (s : List UInt8) : Nat := getN ((((s.drop 4).drop 1).drop 1).take 1)
def regS (s : List UInt8) : List UInt8 := (((s.drop 4).drop 1).drop 1).drop 1
def regOk (s : List UInt8) : Prop := getN (((s.drop 4).drop 1).take 1) ≤ 1 ∧ padOk (regZ s) 8 (regS s)
instance (s : List UInt8) : Decidable (regOk s) := by unfold regOk; infer_instance
def regR (s : List UInt8) : List UInt8 := ((regS s).drop (regZ s)).drop (8 - regZ s)
def countV (s : List UInt8) : Va := ⟨2, 0, 0, false, [], numsOf 8 s, numsOf 8 (restOf 8 s), 0⟩
def flagsV (s : List UInt8) : Va := ⟨3, 0, 0, false, [], [], [], UInt64.ofNat (getN (s.take 4) + 4294967296 * getN ((s.drop 4).take 4))⟩
def rdVal (kind : Nat) (s : List UInt8) : Option (Va × List UInt8) :=
  if kind = 1 then (if regOk s then some (regV s, regR s) else none)
  else if kind = 2 then some (countV s, restOf 8 (restOf 8 s))
  else if kind = 3 then some (flagsV s, (s.drop 4).drop 4)
  else none
def keyZ (s : List UInt8) : Nat := getN ((s.drop 1).take 1)
def keyS (s : List UInt8) : List UInt8 := (s.drop 1).drop 1
def keyOf (s : List UInt8) : List UInt8 := (keyS s).take (keyZ s)
def valS (s : List UInt8) : List UInt8 := ((keyS s).drop (keyZ s)).drop (8 - keyZ s)
def rdEn (s : List UInt8) : Option En :=
  if s.length = 42 ∧ padOk (keyZ s) 8 (keyS s) then
    match rdVal (getN (s.take 1)) (valS s) with
    | none => none
    | some (v, r) => if r = zerosL r.length ∧ okE ⟨keyOf s, v⟩ = true then some ⟨keyOf s, v⟩ else none
  else none

def atN (s : List UInt8) (at_ w : Nat) : Nat := getN ((s.drop at_).take w)
def getsL (s : List UInt8) (at_ : Nat) : Nat → List Int
  | 0 => []
  | n + 1 => getsL s at_ n ++ [(atN s (at_ + 2 * n) 2 : Int)]
def readV (s : List UInt8) : Va :=
  if atN s 0 1 = 1 then ⟨1, atN s 10 4, atN s 14 1, decide (atN s 15 1 = 1), (s.drop 17).take (min (atN s 16 1) 8), [], [], 0⟩
  else if atN s 0 1 = 2 then ⟨2, 0, 0, false, [], getsL s 10 8, getsL s 26 8, 0⟩
  else if atN s 0 1 = 3 then ⟨3, 0, 0, false, [], [], [], UInt64.ofNat (atN s 10 4 + 4294967296 * atN s 14 4)⟩
  else ⟨atN s 0 1, 0, 0, false, [], [], [], 0⟩
def readE (s : List UInt8) : En := ⟨(s.drop 2).take (min (atN s 1 1) 8), readV s⟩
def getOk (s : List UInt8) : Bool := (rdEn s).isSome
def getEF (s : List UInt8) : En := (rdEn s).getD zeroE
def getEE (s : List UInt8) : Int := if getOk s = true then 0 else 2
end Go.Proofs.YtmbnhlhanckkiaaGreat
end
section
namespace Go.Proofs.YtmbnhlhanckkiaaGreat
open Go.RowKit
set_option linter.unusedVariables false
set_option linter.unusedSimpArgs false

end Go.Proofs.YtmbnhlhanckkiaaGreat
end
section
namespace Go.Proofs.YtmbnhlhanckkiaaGreat
open Go.RowKit
set_option linter.unusedVariables false
set_option linter.unusedSimpArgs false

/-- Block b holds just these cells, and may be written. -/
structure Blk (W : World) (b : Nat) (cs : List Value) : Prop where
  cells : CellsN W b cs
  free : Free5 W b
theorem Blk.lt {W : World} {b : Nat} {cs : List Value} (h : Blk W b cs) : b < W.heap.size := h.cells.1
theorem Blk.wr {W W' : World} {b g : Nat} {cs : List Value} {x : Value} (h : Blk W b cs) (k : Wr g x W W') (hne : b ≠ g) : Blk W' b cs :=
  ⟨⟨Nat.lt_of_lt_of_le h.lt k.size, fun j x hx => (k.cell (p := ⟨b, j, none⟩) h.lt hne).trans (h.cells.2 j x hx)⟩, fun j => (k.frozen (p := ⟨b, j, none⟩) h.lt hne).trans (h.free j)⟩
theorem Blk.keep {W W' : World} {b : Nat} {cs : List Value} (h : Blk W b cs) (k : Below W.heap.size W W') : Blk W' b cs := ⟨h.cells.keep k h.lt, h.free.keep k h.lt⟩
theorem Blk.set {W : World} {b : Nat} {cs : List Value} (h : Blk W b cs) (k : Nat) (x : Value) (hk : k < cs.length) : Blk (W.setCell ⟨b, k, none⟩ x) b (cs.set k x) := by
  refine ⟨⟨by simpa using h.lt, fun j y hy => ?_⟩, fun j => by rw [World.frozen?_setCell]; exact h.free j⟩
  by_cases e : k = j
  · subst e
    rw [World.cell?_setCell_same W _ _ (h.cells.2 k _ (List.getElem?_eq_getElem hk))]
    rw [List.getElem?_set_self hk] at hy
    exact hy
  · rw [World.cell?_setCell_other W _ _ _ (by intro h; injection h; contradiction)]
    rw [List.getElem?_set_ne e] at hy
    exact h.cells.2 j y hy
theorem Blk.apart {W : World} {b b' : Nat} {cs : List Value} (h : Blk W b cs) (hne : b ≠ b') (k : Nat) (x : Value) : Blk (W.setCell ⟨b', k, none⟩ x) b cs :=
  ⟨⟨by simpa using h.lt, fun j y hy => by rw [World.cell?_setCell_other W _ _ _ (by intro h; injection h with h1; exact hne h1.symm)]; exact h.cells.2 j y hy⟩, fun j => by rw [World.frozen?_setCell]; exact h.free j⟩
theorem Blk.all_ {W : World} {b : Nat} {cs l : List Value} (h : Blk W b cs) (hl : cs.length = l.length) : Blk (setN W b 0 l) b l := ⟨h.cells.setN_ l hl, h.free.setN_ b 0 l⟩
theorem Blk.apartN {W : World} {b b' : Nat} {cs : List Value} (h : Blk W b cs) (hne : b ≠ b') (k : Nat) (l : List Value) : Blk (setN W b' k l) b cs := ⟨h.cells.apartN k l (fun e => hne e.symm), h.free.setN_ b' k l⟩
theorem Blk.new (W : World) (t : TypeId) (l : List Value) (n : Nat) (hn : n = W.heap.size) : Blk (W.alloc (.cells l.toArray t)) n l := ⟨cellsN_at W t l n hn, free5_at W l.toArray t n hn⟩
theorem Blk.alloc {W : World} {b : Nat} {cs : List Value} (h : Blk W b cs) (o : Obj) : Blk (W.alloc o) b cs := h.keep ((Below.refl _ _).alloc (Nat.le_refl _) _)

theorem Wr.setCell_new {g b : Nat} {x : Value} {w W : World} (h : Wr g x w W) (hb : w.heap.size ≤ b) (hne : b ≠ g) (k : Nat) (y : Value) : Wr g x w (W.setCell ⟨b, k, none⟩ y) where
  os := h.os
  tape := h.tape
  output := h.output
  size := by simpa using h.size
  block i hi hig := (Below.heap_setCell W _ y i (by show i ≠ b; omega)).trans (h.block i hi hig)
  at_ := ⟨by rw [World.cell?_setCell_other W _ _ _ (by intro e; injection e with e1; exact hne e1)]; exact h.at_.cell, by rw [World.frozen?_setCell]; exact h.at_.free, by simpa using h.at_.lt⟩
theorem Wr.alloc {g : Nat} {x : Value} {w W : World} (h : Wr g x w W) (o : Obj) : Wr g x w (W.alloc o) := h.then_ ((Below.refl _ _).alloc (Nat.le_refl _) _)
/-- A row that stands elsewhere. -/
theorem isCells.wr {cs : List Value} {v : Value} {g : Nat} {x : Value} {w w' : World} (h : isCells cs v w) (k : Wr g x w w') (hg : blk v ≠ some g) : isCells cs v w' := by
  rcases h with h | h | ⟨b, off, cap, e, hlt, hc⟩
  · exact .inl h
  · exact .inr (.inl h)
  · have hne : b ≠ g := by rintro rfl; exact hg (by rw [e]; rfl)
    exact .inr (.inr ⟨b, off, cap, e, Nat.lt_of_lt_of_le hlt k.size, fun j x hx => (k.cell (p := ⟨b, off + j, none⟩) hlt hne).trans (hc j x hx)⟩)
end Go.Proofs.YtmbnhlhanckkiaaGreat
end
section
namespace Go.Proofs.YtmbnhlhanckkiaaGreat
open Go.RowKit
set_option linter.unusedVariables false
set_option linter.unusedSimpArgs false
attribute [local irreducible] setN

/-- Behind a store into the variable. -/
theorem set3 {w W : World} {g r v : Nat} {x : Value} {cr cv : List Value} (HW : Kept (Wr g x w W)) (HR : Kept (Blk W r cr)) (HV : Kept (Blk W v cv)) (k : Nat) (y : Value) (hk : k < cv.length) (hw : w.heap.size ≤ v) (hr : r ≠ v) (hv : v ≠ g) : Kept (Wr g x w (W.setCell ⟨v, k, none⟩ y)) ∧ Kept (Blk (W.setCell ⟨v, k, none⟩ y) r cr) ∧ Kept (Blk (W.setCell ⟨v, k, none⟩ y) v (cv.set k y)) :=
  ⟨⟨HW.out.setCell_new hw hv k y⟩, ⟨HR.out.apart hr k y⟩, ⟨HV.out.set k y hk⟩⟩
end Go.Proofs.YtmbnhlhanckkiaaGreat
end
section
namespace Go.Proofs.YtmbnhlhanckkiaaGreat
open Go.RowKit
set_option linter.unusedVariables false
set_option linter.unusedSimpArgs false
attribute [local irreducible] setN

def rowL (k : Nat) (l : List UInt8) : List Value := (numsOf k l).map intC ++ List.replicate (8 - k) (intC 0)
end Go.Proofs.YtmbnhlhanckkiaaGreat
end
section
namespace Go.Proofs.YtmbnhlhanckkiaaGreat
open Go.RowKit
set_option linter.unusedVariables false
set_option linter.unusedSimpArgs false

def isEn (E : En) : VP := fun v w => ∃ vp vm, v = .agg #[.string ⟨E.key.toArray⟩, .int .i64 E.val.kind, .int .i64 E.val.time, .int .i64 E.val.node, .bool E.val.dead, .string ⟨E.val.text.toArray⟩, vp, vm, .int .u64 (E.val.flags.toNat : Int)] ∧ isCells (E.val.plus.map intC) vp w ∧ isCells (E.val.minus.map intC) vm w
def isEnN (B : Nat) (E : En) : VP := fun v w => ∃ vp vm, v = .agg #[.string ⟨E.key.toArray⟩, .int .i64 E.val.kind, .int .i64 E.val.time, .int .i64 E.val.node, .bool E.val.dead, .string ⟨E.val.text.toArray⟩, vp, vm, .int .u64 (E.val.flags.toNat : Int)] ∧ isCells (E.val.plus.map intC) vp w ∧ isCells (E.val.minus.map intC) vm w ∧ NewB B vp ∧ NewB B vm
/-- Block g holds the entry E. -/
def VarN (w : World) (g : Nat) (E : En) : Prop := ∃ vp vm, CellsN w g [.string ⟨E.key.toArray⟩, .int .i64 E.val.kind, .int .i64 E.val.time, .int .i64 E.val.node, .bool E.val.dead, .string ⟨E.val.text.toArray⟩, vp, vm, .int .u64 (E.val.flags.toNat : Int)] ∧ isCells (E.val.plus.map intC) vp w ∧ isCells (E.val.minus.map intC) vm w
theorem VarN.keep {w w' : World} {g : Nat} {E : En} (h : VarN w g E) (hb : Below w.heap.size w w') : VarN w' g E := by
  obtain ⟨vp, vm, hc, hp, hm⟩ := h
  exact ⟨vp, vm, hc.keep hb hc.1, stable_cells _ _ _ _ hp hb, stable_cells _ _ _ _ hm hb⟩
theorem VarN.lt {w : World} {g : Nat} {E : En} (h : VarN w g E) : g < w.heap.size := by obtain ⟨_, _, hc, _⟩ := h; exact hc.1
theorem VarN.open_ {w : World} {g : Nat} {E : En} (h : VarN w g E) : ∃ vp vm, isEn E (.agg #[.string ⟨E.key.toArray⟩, .int .i64 E.val.kind, .int .i64 E.val.time, .int .i64 E.val.node, .bool E.val.dead, .string ⟨E.val.text.toArray⟩, vp, vm, .int .u64 (E.val.flags.toNat : Int)]) w ∧ isVa E.val (.agg #[.int .i64 E.val.kind, .int .i64 E.val.time, .int .i64 E.val.node, .bool E.val.dead, .string ⟨E.val.text.toArray⟩, vp, vm, .int .u64 (E.val.flags.toNat : Int)]) w ∧ w.cell? ⟨g, 0, none⟩ = some (.string ⟨E.key.toArray⟩) ∧ w.cell? ⟨g, 1, none⟩ = some (.int .i64 E.val.kind) ∧ w.cell? ⟨g, 2, none⟩ = some (.int .i64 E.val.time) ∧ w.cell? ⟨g, 3, none⟩ = some (.int .i64 E.val.node) ∧ w.cell? ⟨g, 4, none⟩ = some (.bool E.val.dead) ∧ w.cell? ⟨g, 5, none⟩ = some (.string ⟨E.val.text.toArray⟩) ∧ w.cell? ⟨g, 6, none⟩ = some (vp) ∧ w.cell? ⟨g, 7, none⟩ = some (vm) ∧ w.cell? ⟨g, 8, none⟩ = some (.int .u64 (E.val.flags.toNat : Int)) := by
  obtain ⟨vp, vm, hc, hp, hm⟩ := h
  exact ⟨vp, vm, ⟨vp, vm, rfl, hp, hm⟩, ⟨vp, vm, rfl, hp, hm⟩, hc.2 0 _ rfl, hc.2 1 _ rfl, hc.2 2 _ rfl, hc.2 3 _ rfl, hc.2 4 _ rfl, hc.2 5 _ rfl, hc.2 6 _ rfl, hc.2 7 _ rfl, hc.2 8 _ rfl⟩
theorem size_en : (Tryz.prog.info? 42).map (·.size) = some 9 := by kernel_rfl
theorem agg_en (w : World) : (isAgg 42).run Tryz.prog w = .ok true w := by simp [isAgg, run_underlying Tryz.underlying42]
theorem ebox (w : World) (E : En) (vp vm : Value) (hp : isCells (E.val.plus.map intC) vp w) (hm : isCells (E.val.minus.map intC) vm w) (n : Nat) (hn : n = w.heap.size) :
    Kept (Below w.heap.size w (w.alloc (.cells #[.string ⟨E.key.toArray⟩, .int .i64 E.val.kind, .int .i64 E.val.time, .int .i64 E.val.node, .bool E.val.dead, .string ⟨E.val.text.toArray⟩, vp, vm, .int .u64 (E.val.flags.toNat : Int)] 42))) ∧ Kept (VarN (w.alloc (.cells #[.string ⟨E.key.toArray⟩, .int .i64 E.val.kind, .int .i64 E.val.time, .int .i64 E.val.node, .bool E.val.dead, .string ⟨E.val.text.toArray⟩, vp, vm, .int .u64 (E.val.flags.toNat : Int)] 42)) n E) := by
  subst hn
  have hb : Below w.heap.size w (w.alloc (.cells #[.string ⟨E.key.toArray⟩, .int .i64 E.val.kind, .int .i64 E.val.time, .int .i64 E.val.node, .bool E.val.dead, .string ⟨E.val.text.toArray⟩, vp, vm, .int .u64 (E.val.flags.toNat : Int)] 42)) := (Below.refl _ _).alloc (Nat.le_refl _) _
  exact ⟨⟨hb⟩, ⟨⟨vp, vm, cellsN_new w 42 _, stable_cells _ _ _ _ hp hb, stable_cells _ _ _ _ hm hb⟩⟩⟩
theorem enew (w : World) (E : En) (vp vm : Value) (hp : isCells (E.val.plus.map intC) vp w) (hm : isCells (E.val.minus.map intC) vm w) (n : Nat) (hn : n = w.heap.size) :
    Kept (CellsN (w.alloc (.cells #[.string ⟨#[]⟩, .int .i64 0, .int .i64 0, .int .i64 0, .bool false, .string ⟨#[]⟩, .slice none 0 0, .slice none 0 0, .int .u64 0] 42)) n [.string ⟨#[]⟩, .int .i64 0, .int .i64 0, .int .i64 0, .bool false, .string ⟨#[]⟩, .slice none 0 0, .slice none 0 0, .int .u64 0]) ∧ Kept (Free5 (w.alloc (.cells #[.string ⟨#[]⟩, .int .i64 0, .int .i64 0, .int .i64 0, .bool false, .string ⟨#[]⟩, .slice none 0 0, .slice none 0 0, .int .u64 0] 42)) n) ∧ Kept (Below w.heap.size w (setN (w.alloc (.cells #[.string ⟨#[]⟩, .int .i64 0, .int .i64 0, .int .i64 0, .bool false, .string ⟨#[]⟩, .slice none 0 0, .slice none 0 0, .int .u64 0] 42)) n 0 [.string ⟨E.key.toArray⟩, .int .i64 E.val.kind, .int .i64 E.val.time, .int .i64 E.val.node, .bool E.val.dead, .string ⟨E.val.text.toArray⟩, vp, vm, .int .u64 (E.val.flags.toNat : Int)])) ∧
    Kept (CellsN (setN (w.alloc (.cells #[.string ⟨#[]⟩, .int .i64 0, .int .i64 0, .int .i64 0, .bool false, .string ⟨#[]⟩, .slice none 0 0, .slice none 0 0, .int .u64 0] 42)) n 0 [.string ⟨E.key.toArray⟩, .int .i64 E.val.kind, .int .i64 E.val.time, .int .i64 E.val.node, .bool E.val.dead, .string ⟨E.val.text.toArray⟩, vp, vm, .int .u64 (E.val.flags.toNat : Int)]) n [.string ⟨E.key.toArray⟩, .int .i64 E.val.kind, .int .i64 E.val.time, .int .i64 E.val.node, .bool E.val.dead, .string ⟨E.val.text.toArray⟩, vp, vm, .int .u64 (E.val.flags.toNat : Int)] ∧ isCells (E.val.plus.map intC) vp (setN (w.alloc (.cells #[.string ⟨#[]⟩, .int .i64 0, .int .i64 0, .int .i64 0, .bool false, .string ⟨#[]⟩, .slice none 0 0, .slice none 0 0, .int .u64 0] 42)) n 0 [.string ⟨E.key.toArray⟩, .int .i64 E.val.kind, .int .i64 E.val.time, .int .i64 E.val.node, .bool E.val.dead, .string ⟨E.val.text.toArray⟩, vp, vm, .int .u64 (E.val.flags.toNat : Int)]) ∧ isCells (E.val.minus.map intC) vm (setN (w.alloc (.cells #[.string ⟨#[]⟩, .int .i64 0, .int .i64 0, .int .i64 0, .bool false, .string ⟨#[]⟩, .slice none 0 0, .slice none 0 0, .int .u64 0] 42)) n 0 [.string ⟨E.key.toArray⟩, .int .i64 E.val.kind, .int .i64 E.val.time, .int .i64 E.val.node, .bool E.val.dead, .string ⟨E.val.text.toArray⟩, vp, vm, .int .u64 (E.val.flags.toNat : Int)])) ∧ Kept (Ones [.string ⟨E.key.toArray⟩, .int .i64 E.val.kind, .int .i64 E.val.time, .int .i64 E.val.node, .bool E.val.dead, .string ⟨E.val.text.toArray⟩, vp, vm, .int .u64 (E.val.flags.toNat : Int)]) := by
  subst hn
  have hb := lit_below w (.cells #[.string ⟨#[]⟩, .int .i64 0, .int .i64 0, .int .i64 0, .bool false, .string ⟨#[]⟩, .slice none 0 0, .slice none 0 0, .int .u64 0] 42)
  have hc := cellsN_new w 42 [.string ⟨#[]⟩, .int .i64 0, .int .i64 0, .int .i64 0, .bool false, .string ⟨#[]⟩, .slice none 0 0, .slice none 0 0, .int .u64 0]
  have hb5 := below_setN (Nat.le_refl _) [.string ⟨E.key.toArray⟩, .int .i64 E.val.kind, .int .i64 E.val.time, .int .i64 E.val.node, .bool E.val.dead, .string ⟨E.val.text.toArray⟩, vp, vm, .int .u64 (E.val.flags.toNat : Int)] 0 _ hb
  exact ⟨⟨hc⟩, ⟨free5_new w _ _⟩, ⟨hb5⟩, ⟨⟨hc.setN_ _ rfl, stable_cells _ _ _ _ hp hb5, stable_cells _ _ _ _ hm hb5⟩⟩, ⟨⟨rfl, rfl, rfl, rfl, rfl, rfl, hp.one, hm.one, rfl, trivial⟩⟩⟩
/-- An entry laid down in a block that is there already. -/
theorem eset {B g : Nat} {w0 w : World} (E : En) (vp vm : Value) (hB : B ≤ g) (hb : Below B w0 w) {old : List Value} (hc : CellsN w g old) (h9 : old.length = 9) (hp : isCells (E.val.plus.map intC) vp w) (hm : isCells (E.val.minus.map intC) vm w) (np : blk vp ≠ some g) (nm : blk vm ≠ some g) :
    Kept (Below B w0 (setN w g 0 [.string ⟨E.key.toArray⟩, .int .i64 E.val.kind, .int .i64 E.val.time, .int .i64 E.val.node, .bool E.val.dead, .string ⟨E.val.text.toArray⟩, vp, vm, .int .u64 (E.val.flags.toNat : Int)])) ∧ Kept (CellsN (setN w g 0 [.string ⟨E.key.toArray⟩, .int .i64 E.val.kind, .int .i64 E.val.time, .int .i64 E.val.node, .bool E.val.dead, .string ⟨E.val.text.toArray⟩, vp, vm, .int .u64 (E.val.flags.toNat : Int)]) g [.string ⟨E.key.toArray⟩, .int .i64 E.val.kind, .int .i64 E.val.time, .int .i64 E.val.node, .bool E.val.dead, .string ⟨E.val.text.toArray⟩, vp, vm, .int .u64 (E.val.flags.toNat : Int)]) ∧ Kept (isCells (E.val.plus.map intC) vp (setN w g 0 [.string ⟨E.key.toArray⟩, .int .i64 E.val.kind, .int .i64 E.val.time, .int .i64 E.val.node, .bool E.val.dead, .string ⟨E.val.text.toArray⟩, vp, vm, .int .u64 (E.val.flags.toNat : Int)])) ∧ Kept (isCells (E.val.minus.map intC) vm (setN w g 0 [.string ⟨E.key.toArray⟩, .int .i64 E.val.kind, .int .i64 E.val.time, .int .i64 E.val.node, .bool E.val.dead, .string ⟨E.val.text.toArray⟩, vp, vm, .int .u64 (E.val.flags.toNat : Int)])) ∧ Kept (Ones [.string ⟨E.key.toArray⟩, .int .i64 E.val.kind, .int .i64 E.val.time, .int .i64 E.val.node, .bool E.val.dead, .string ⟨E.val.text.toArray⟩, vp, vm, .int .u64 (E.val.flags.toNat : Int)]) := by
  have ap : ∀ (v : Value) (cs : List Value), blk v ≠ some g → ∀ b off cap, v = .slice (some ⟨b, off, none⟩) cs.length cap → cs ≠ [] → b ≠ g := by
    rintro v cs h b off cap rfl _ rfl
    exact h rfl
  exact ⟨⟨below_setN hB _ 0 _ hb⟩, ⟨hc.setN_ _ h9⟩, ⟨cells_apart hp (ap vp _ np) _ _⟩, ⟨cells_apart hm (ap vm _ nm) _ _⟩, ⟨⟨rfl, rfl, rfl, rfl, rfl, rfl, hp.one, hm.one, rfl, trivial⟩⟩⟩
structure FitE (E : En) : Prop where
  key : E.key.length ≤ 1000000000
  val : Fit E.val
end Go.Proofs.YtmbnhlhanckkiaaGreat
end
section
namespace Go.Proofs.YtmbnhlhanckkiaaGreat
open Go.RowKit
set_option linter.unusedVariables false
set_option linter.unusedSimpArgs false
attribute [local irreducible] setN

theorem checkV_chk (E : En) (h1 : 1 ≤ E.key.length) (h8 : E.key.length ≤ 8) : chkE E = checkV E.val := by
  unfold chkE checkV okE
  simp only [h1, h8, decide_true, Bool.true_and]
theorem chk_bad (E : En) (h : ¬ (1 ≤ E.key.length ∧ E.key.length ≤ 8)) : chkE E = 2 := by
  unfold chkE
  rw [if_neg]
  simp only [okE, Bool.and_eq_true, decide_eq_true_eq]
  rintro ⟨⟨h1, h2⟩, _⟩
  exact h ⟨h1, h2⟩
set_option maxRecDepth 100000 in
set_option maxHeartbeats 2000000 in
theorem echeck_any (E : En) (v : Value) (w : World) (hv : isEn E v w) (hF : FitE E) : Calls Tryz.prog 113 #[v] w fun e w' => e = .returned (.int .i64 (chkE E)) ∧ Below w.heap.size w w' := by
  have hk := hF.key
  have hs : (⟨E.key.toArray⟩ : ByteArray).size = E.key.length := by simp [ByteArray.size]
  obtain ⟨pe, me, rfl, hpe, hme⟩ := hv
  obtain ⟨hB, Ve⟩ := ebox w E pe me hpe hme (w.heap.size) (by simp)
  clear hpe hme
  obtain ⟨qe, re, xe, ye, ke0, ke1, ke2, ke3, ke4, ke5, ke6, ke7, ke8⟩ := Ve.out.open_
  have Xe := Kept.mk xe
  have Ye := Kept.mk ye
  clear xe ye
  by_cases h1 : (E.key.length : Int) < 1
  · have HC := Kept.mk (chk_bad E (by omega))
    go_enter Tryz.func113, Tryz.ntmps113
    go_wp2
    go_ret
    exact ⟨by rw [HC.out]; rfl, hB.out⟩
  · have d1 : decide ((E.key.length : Int) < 1) = false := by simpa using h1
    by_cases h8 : (8 : Int) < E.key.length
    · have HC := Kept.mk (chk_bad E (by omega))
      have d8 : decide ((8 : Int) < E.key.length) = true := by simpa using h8
      go_enter Tryz.func113, Tryz.ntmps113
      go_wp2
      go_ret
      exact ⟨by rw [HC.out]; rfl, hB.out⟩
    · have HC := Kept.mk (checkV_chk E (by omega) (by omega))
      have d8 : decide ((8 : Int) < E.key.length) = false := by simpa using h8
      go_enter Tryz.func113, Tryz.ntmps113
      go_wp2_with fail
      refine (vcheck_any E.val _ _ Ye.out hF.val).mono ?_
      rintro e W1 ⟨rfl, hb1⟩
      replace hB := Kept.mk (hB.out.trans (hb1.mono hB.out.size))
      clear hb1 Xe Ye ke0 ke1 ke2 ke3 ke4 ke5 ke6 ke7 ke8 Ve
      generalize hcv : checkV E.val = cv
      have HV := Kept.mk hcv
      clear hcv
      go_wp2
      go_ret
      exact ⟨by rw [HC.out, HV.out]; rfl, hB.out⟩
set_option maxRecDepth 100000 in
set_option maxHeartbeats 2000000 in
theorem eless_any (A B : En) (v u : Value) (w : World) (hv : isEn A v w) (hu : isEn B u w) : Calls Tryz.prog 114 #[v, u] w fun e w' => e = .returned (.bool (lessE A B)) ∧ Below w.heap.size w w' := by
  obtain ⟨pa, ma, rfl, hpa, hma⟩ := hv
  obtain ⟨pb, mb, rfl, hpb, hmb⟩ := hu
  obtain ⟨hB, Va⟩ := ebox w A pa ma hpa hma (w.heap.size) (by simp)
  obtain ⟨hBn, Vb⟩ := ebox (w.alloc (.cells #[.string ⟨A.key.toArray⟩, .int .i64 A.val.kind, .int .i64 A.val.time, .int .i64 A.val.node, .bool A.val.dead, .string ⟨A.val.text.toArray⟩, pa, ma, .int .u64 (A.val.flags.toNat : Int)] 42)) B pb mb (stable_cells _ _ _ _ hpb hB.out) (stable_cells _ _ _ _ hmb hB.out) (w.heap.size + 1) (by simp)
  replace Va := Kept.mk (Va.out.keep hBn.out)
  replace hB := Kept.mk (hB.out.trans (hBn.out.mono hB.out.size))
  clear hBn
  clear hpa hma hpb hmb
  obtain ⟨qa, ra, xa, ya, ka0, ka1, ka2, ka3, ka4, ka5, ka6, ka7, ka8⟩ := Va.out.open_
  have Xa := Kept.mk xa
  have Ya := Kept.mk ya
  clear xa ya
  obtain ⟨qb, rb, xb, yb, kb0, kb1, kb2, kb3, kb4, kb5, kb6, kb7, kb8⟩ := Vb.out.open_
  have Xb := Kept.mk xb
  have Yb := Kept.mk yb
  clear xb yb
  cases hk : (A.val.kind == B.val.kind) with
  | true =>
    have HC := Kept.mk (show lessE A B = Op.bytesLess A.key B.key by unfold lessE; rw [if_pos (by simpa using hk)])
    go_enter Tryz.func114, Tryz.ntmps114
    go_wp2
    go_ret
    exact ⟨by rw [HC.out]; rfl, hB.out⟩
  | false =>
    have HC := Kept.mk (show lessE A B = decide (A.val.kind < B.val.kind) by unfold lessE; rw [if_neg (by simpa using hk)])
    go_enter Tryz.func114, Tryz.ntmps114
    go_wp2
    go_ret
    exact ⟨by rw [HC.out]; rfl, hB.out⟩
theorem same_en (A B : En) : decide (A = B) = ((A.key == B.key) && decide (A.val = B.val)) := by
  obtain ⟨a, x⟩ := A
  obtain ⟨b, y⟩ := B
  rw [Bool.eq_iff_iff]
  simp only [decide_eq_true_eq, Bool.and_eq_true, beq_iff_eq, En.mk.injEq]
set_option maxRecDepth 100000 in
set_option maxHeartbeats 2000000 in
theorem esame_any (A B : En) (v u : Value) (w : World) (hv : isEn A v w) (hu : isEn B u w) (hA : Fit A.val) (hF : Fit B.val) : Calls Tryz.prog 67 #[v, u] w fun e w' => e = .returned (.bool (decide (A = B))) ∧ Below w.heap.size w w' := by
  have HS := Kept.mk (same_en A B)
  obtain ⟨pa, ma, rfl, hpa, hma⟩ := hv
  obtain ⟨pb, mb, rfl, hpb, hmb⟩ := hu
  obtain ⟨hB, Va⟩ := ebox w A pa ma hpa hma (w.heap.size) (by simp)
  obtain ⟨hBn, Vb⟩ := ebox (w.alloc (.cells #[.string ⟨A.key.toArray⟩, .int .i64 A.val.kind, .int .i64 A.val.time, .int .i64 A.val.node, .bool A.val.dead, .string ⟨A.val.text.toArray⟩, pa, ma, .int .u64 (A.val.flags.toNat : Int)] 42)) B pb mb (stable_cells _ _ _ _ hpb hB.out) (stable_cells _ _ _ _ hmb hB.out) (w.heap.size + 1) (by simp)
  replace Va := Kept.mk (Va.out.keep hBn.out)
  replace hB := Kept.mk (hB.out.trans (hBn.out.mono hB.out.size))
  clear hBn
  clear hpa hma hpb hmb
  obtain ⟨qa, ra, xa, ya, ka0, ka1, ka2, ka3, ka4, ka5, ka6, ka7, ka8⟩ := Va.out.open_
  have Xa := Kept.mk xa
  have Ya := Kept.mk ya
  clear xa ya
  obtain ⟨qb, rb, xb, yb, kb0, kb1, kb2, kb3, kb4, kb5, kb6, kb7, kb8⟩ := Vb.out.open_
  have Xb := Kept.mk xb
  have Yb := Kept.mk yb
  clear xb yb
  cases hk : (A.key == B.key) with
  | false =>
    go_enter Tryz.func67, Tryz.ntmps67
    go_wp2
    go_ret
    exact ⟨by rw [HS.out, hk]; rfl, hB.out⟩
  | true =>
    have HK := Kept.mk hk
    go_enter Tryz.func67, Tryz.ntmps67
    go_wp2_with fail
    refine (vsame_fit A.val B.val _ _ _ Ya.out Yb.out hA hF).mono ?_
    rintro e W1 ⟨rfl, hb1⟩
    replace hB := Kept.mk (hB.out.trans (hb1.mono hB.out.size))
    clear hb1 Xa Xb Ya Yb Va Vb ka0 ka1 ka2 ka3 ka4 ka5 ka6 ka7 ka8 kb0 kb1 kb2 kb3 kb4 kb5 kb6 kb7 kb8
    generalize hz : decide (A.val = B.val) = z
    have HV := Kept.mk hz
    clear hz
    go_wp2
    go_ret
    exact ⟨by rw [HS.out, HK.out, HV.out]; rfl, hB.out⟩
end Go.Proofs.YtmbnhlhanckkiaaGreat
end
section
namespace Go.Proofs.YtmbnhlhanckkiaaGreat
open Go.RowKit
set_option linter.unusedVariables false
set_option linter.unusedSimpArgs false
attribute [local irreducible] setN

structure JSt (w W : World) (A B : En) (pa ma pb mb : Value) : Prop where
  hb : Below w.heap.size w W
  a : Blk W w.heap.size [.string ⟨A.key.toArray⟩, .int .i64 A.val.kind, .int .i64 A.val.time, .int .i64 A.val.node, .bool A.val.dead, .string ⟨A.val.text.toArray⟩, pa, ma, .int .u64 (A.val.flags.toNat : Int)]
  b : Blk W (w.heap.size + 1) [.string ⟨B.key.toArray⟩, .int .i64 B.val.kind, .int .i64 B.val.time, .int .i64 B.val.node, .bool B.val.dead, .string ⟨B.val.text.toArray⟩, pb, mb, .int .u64 (B.val.flags.toNat : Int)]
  r : Blk W (w.heap.size + 1 + 1) [.string ⟨#[]⟩, .int .i64 0, .int .i64 0, .int .i64 0, .bool false, .string ⟨#[]⟩, .slice none 0 0, .slice none 0 0, .int .u64 0]
  s : Blk W (w.heap.size + 1 + 1 + 1) [.string ⟨A.key.toArray⟩, .int .i64 A.val.kind, .int .i64 A.val.time, .int .i64 A.val.node, .bool A.val.dead, .string ⟨A.val.text.toArray⟩, pa, ma, .int .u64 (A.val.flags.toNat : Int), .string ⟨B.key.toArray⟩, .int .i64 B.val.kind, .int .i64 B.val.time, .int .i64 B.val.node, .bool B.val.dead, .string ⟨B.val.text.toArray⟩, pb, mb, .int .u64 (B.val.flags.toNat : Int)]
theorem JSt.keep {w W W' : World} {A B : En} {pa ma pb mb : Value} (h : JSt w W A B pa ma pb mb) (k : Below W.heap.size W W') : JSt w W' A B pa ma pb mb :=
  ⟨h.hb.trans (k.mono h.hb.size), h.a.keep k, h.b.keep k, h.r.keep k, h.s.keep k⟩
theorem jst_new (w : World) (A B : En) (pa ma pb mb : Value) : JSt w ((((w.alloc (.cells #[.string ⟨A.key.toArray⟩, .int .i64 A.val.kind, .int .i64 A.val.time, .int .i64 A.val.node, .bool A.val.dead, .string ⟨A.val.text.toArray⟩, pa, ma, .int .u64 (A.val.flags.toNat : Int)] 42)).alloc (.cells #[.string ⟨B.key.toArray⟩, .int .i64 B.val.kind, .int .i64 B.val.time, .int .i64 B.val.node, .bool B.val.dead, .string ⟨B.val.text.toArray⟩, pb, mb, .int .u64 (B.val.flags.toNat : Int)] 42)).alloc (.cells #[.string ⟨#[]⟩, .int .i64 0, .int .i64 0, .int .i64 0, .bool false, .string ⟨#[]⟩, .slice none 0 0, .slice none 0 0, .int .u64 0] 42)).alloc (.cells #[.string ⟨A.key.toArray⟩, .int .i64 A.val.kind, .int .i64 A.val.time, .int .i64 A.val.node, .bool A.val.dead, .string ⟨A.val.text.toArray⟩, pa, ma, .int .u64 (A.val.flags.toNat : Int), .string ⟨B.key.toArray⟩, .int .i64 B.val.kind, .int .i64 B.val.time, .int .i64 B.val.node, .bool B.val.dead, .string ⟨B.val.text.toArray⟩, pb, mb, .int .u64 (B.val.flags.toNat : Int)] 42)) A B pa ma pb mb where
  hb := ((((Below.refl _ w).alloc (Nat.le_refl _) _).alloc (by simp) _).alloc (by simp; omega) _).alloc (by simp; omega) _
  a := (((Blk.new w 42 _ _ rfl).alloc _).alloc _).alloc _
  b := ((Blk.new (w.alloc (.cells #[.string ⟨A.key.toArray⟩, .int .i64 A.val.kind, .int .i64 A.val.time, .int .i64 A.val.node, .bool A.val.dead, .string ⟨A.val.text.toArray⟩, pa, ma, .int .u64 (A.val.flags.toNat : Int)] 42)) 42 _ _ (by simp)).alloc _).alloc _
  r := (Blk.new ((w.alloc (.cells #[.string ⟨A.key.toArray⟩, .int .i64 A.val.kind, .int .i64 A.val.time, .int .i64 A.val.node, .bool A.val.dead, .string ⟨A.val.text.toArray⟩, pa, ma, .int .u64 (A.val.flags.toNat : Int)] 42)).alloc (.cells #[.string ⟨B.key.toArray⟩, .int .i64 B.val.kind, .int .i64 B.val.time, .int .i64 B.val.node, .bool B.val.dead, .string ⟨B.val.text.toArray⟩, pb, mb, .int .u64 (B.val.flags.toNat : Int)] 42)) 42 _ _ (by simp)).alloc _
  s := Blk.new (((w.alloc (.cells #[.string ⟨A.key.toArray⟩, .int .i64 A.val.kind, .int .i64 A.val.time, .int .i64 A.val.node, .bool A.val.dead, .string ⟨A.val.text.toArray⟩, pa, ma, .int .u64 (A.val.flags.toNat : Int)] 42)).alloc (.cells #[.string ⟨B.key.toArray⟩, .int .i64 B.val.kind, .int .i64 B.val.time, .int .i64 B.val.node, .bool B.val.dead, .string ⟨B.val.text.toArray⟩, pb, mb, .int .u64 (B.val.flags.toNat : Int)] 42)).alloc (.cells #[.string ⟨#[]⟩, .int .i64 0, .int .i64 0, .int .i64 0, .bool false, .string ⟨#[]⟩, .slice none 0 0, .slice none 0 0, .int .u64 0] 42)) 42 _ _ (by simp)
theorem chk_ok {E : En} (h : okE E = true) : chkE E = 0 := by unfold chkE; rw [if_pos h]
theorem chk_no {E : En} (h : okE E = false) : chkE E = 2 := by unfold chkE; rw [h]; rfl
set_option maxRecDepth 100000 in
set_option maxHeartbeats 4000000 in
theorem ejoin_any (A B : En) (v u : Value) (w : World) (hv : isEn A v w) (hu : isEn B u w) (hA : FitE A) (hF : FitE B) : Calls Tryz.prog 118 #[v, u] w fun e w' => ∃ v', e = .returned (.tuple #[v', .int .i64 (joinEE A B)]) ∧ isEnN w.heap.size (joinEF A B) v' w' ∧ Below w.heap.size w w' := by
  obtain ⟨pa, ma, rfl, hpa, hma⟩ := hv
  obtain ⟨pb, mb, rfl, hpb, hmb⟩ := hu
  have HPA := Kept.mk hpa
  have HMA := Kept.mk hma
  have HPB := Kept.mk hpb
  have HMB := Kept.mk hmb
  clear hpa hma hpb hmb
  have J := Kept.mk (jst_new w A B pa ma pb mb)
  go_enter Tryz.func118, Tryz.ntmps118
  go_wp2
  generalize ((((w.alloc (.cells #[.string ⟨A.key.toArray⟩, .int .i64 A.val.kind, .int .i64 A.val.time, .int .i64 A.val.node, .bool A.val.dead, .string ⟨A.val.text.toArray⟩, pa, ma, .int .u64 (A.val.flags.toNat : Int)] 42)).alloc (.cells #[.string ⟨B.key.toArray⟩, .int .i64 B.val.kind, .int .i64 B.val.time, .int .i64 B.val.node, .bool B.val.dead, .string ⟨B.val.text.toArray⟩, pb, mb, .int .u64 (B.val.flags.toNat : Int)] 42)).alloc (.cells #[.string ⟨#[]⟩, .int .i64 0, .int .i64 0, .int .i64 0, .bool false, .string ⟨#[]⟩, .slice none 0 0, .slice none 0 0, .int .u64 0] 42)).alloc (.cells #[.string ⟨A.key.toArray⟩, .int .i64 A.val.kind, .int .i64 A.val.time, .int .i64 A.val.node, .bool A.val.dead, .string ⟨A.val.text.toArray⟩, pa, ma, .int .u64 (A.val.flags.toNat : Int), .string ⟨B.key.toArray⟩, .int .i64 B.val.kind, .int .i64 B.val.time, .int .i64 B.val.node, .bool B.val.dead, .string ⟨B.val.text.toArray⟩, pb, mb, .int .u64 (B.val.flags.toNat : Int)] 42)) = W0 at *
  go_loopw [15] (fun i wr => ∃ k : Nat, k ≤ 2 ∧ i = .int .i64 (k : Int) ∧ Kept (JSt w wr A B pa ma pb mb) ∧ Kept (1 ≤ k → okE A = true) ∧ Kept (k = 2 → okE B = true)) (fun i _ => 2 - (intOf i).toNat)
  case atStart => exact ⟨0, by omega, rfl, J, ⟨by omega⟩, ⟨by omega⟩⟩
  case round =>
    clear J
    obtain ⟨k, hk, rfl, J, O1, O2⟩ := hrel
    have hsz := J.out.r.lt
    rcases (show k = 0 ∨ k = 1 ∨ k = 2 by omega) with rfl | rfl | rfl
    · have ks0 := J.out.s.cells.2 0 _ rfl
      have ks1 := J.out.s.cells.2 1 _ rfl
      have ks2 := J.out.s.cells.2 2 _ rfl
      have ks3 := J.out.s.cells.2 3 _ rfl
      have ks4 := J.out.s.cells.2 4 _ rfl
      have ks5 := J.out.s.cells.2 5 _ rfl
      have ks6 := J.out.s.cells.2 6 _ rfl
      have ks7 := J.out.s.cells.2 7 _ rfl
      have ks8 := J.out.s.cells.2 8 _ rfl
      obtain ⟨K1, K2, K3, K4, K5⟩ := enew wr A pa ma (stable_cells _ _ _ _ HPA.out J.out.hb) (stable_cells _ _ _ _ HMA.out J.out.hb) wr.heap.size rfl
      go_wp2_with (have hz0 := K1; refine wpList_storeN 42 rfl (.tmp 7) (.tmp 18) rfl wr.heap.size [.string ⟨A.key.toArray⟩, .int .i64 A.val.kind, .int .i64 A.val.time, .int .i64 A.val.node, .bool A.val.dead, .string ⟨A.val.text.toArray⟩, pa, ma, .int .u64 (A.val.flags.toNat : Int)] size_en rfl rfl K1.out rfl K2.out K5.out ?_; replace J := Kept.mk (J.out.keep K3.out); clear hz0 K1 K2 K3 K5 ks0 ks1 ks2 ks3 ks4 ks5 ks6 ks7 ks8; generalize setN (wr.alloc (.cells #[.string ⟨#[]⟩, .int .i64 0, .int .i64 0, .int .i64 0, .bool false, .string ⟨#[]⟩, .slice none 0 0, .slice none 0 0, .int .u64 0] 42)) wr.heap.size 0 [.string ⟨A.key.toArray⟩, .int .i64 A.val.kind, .int .i64 A.val.time, .int .i64 A.val.node, .bool A.val.dead, .string ⟨A.val.text.toArray⟩, pa, ma, .int .u64 (A.val.flags.toNat : Int)] = W1 at *; have kx0 := K4.out.1.2 0 _ rfl; have kx1 := K4.out.1.2 1 _ rfl; have kx2 := K4.out.1.2 2 _ rfl; have kx3 := K4.out.1.2 3 _ rfl; have kx4 := K4.out.1.2 4 _ rfl; have kx5 := K4.out.1.2 5 _ rfl; have kx6 := K4.out.1.2 6 _ rfl; have kx7 := K4.out.1.2 7 _ rfl; have kx8 := K4.out.1.2 8 _ rfl)
      refine (echeck_any A _ W1 ⟨_, _, rfl, K4.out.2.1, K4.out.2.2⟩ hA).mono ?_
      rintro e W2 ⟨rfl, hb⟩
      replace J := Kept.mk (J.out.keep hb)
      clear hb K4 kx0 kx1 kx2 kx3 kx4 kx5 kx6 kx7 kx8
      cases hok : okE A with
      | true =>
        rw [chk_ok hok]
        have HO := Kept.mk hok
        clear hok
        go_wp2
        go_roundw
        case rel => exact ⟨1, by omega, by go_num, J, ⟨fun _ => HO.out⟩, ⟨fun h => by omega⟩⟩
        case measure => simp [intOf]
      | false =>
        rw [chk_no hok]
        have HO := Kept.mk hok
        clear hok
        have KZ : Kept (Ones [.string ⟨#[]⟩, .int .i64 0, .int .i64 0, .int .i64 0, .bool false, .string ⟨#[]⟩, .slice none 0 0, .slice none 0 0, .int .u64 0]) := ⟨⟨rfl, rfl, rfl, rfl, rfl, rfl, rfl, rfl, rfl, trivial⟩⟩
        go_wp2_with (refine wpList_storeN 42 rfl (.tmp 4) (.tmp 23) rfl (w.heap.size + 1 + 1) [.string ⟨#[]⟩, .int .i64 0, .int .i64 0, .int .i64 0, .bool false, .string ⟨#[]⟩, .slice none 0 0, .slice none 0 0, .int .u64 0] size_en rfl rfl J.out.r.cells rfl J.out.r.free KZ.out ?_)
        have e1 : joinEE A B = 2 := by unfold joinEE; rw [HO.out]; rfl
        have e2 : joinEF A B = zeroE := by unfold joinEF; rw [e1]; rfl
        rw [e1, e2]
        exact bodyPost_ret (resultsN2 rfl _ _ (w.heap.size + 1 + 1) _ (.int .i64 2) size_en agg_en rfl rfl (J.out.r.all_ rfl).cells) rfl ⟨_, rfl, ⟨.slice none 0 0, .slice none 0 0, rfl, .inl ⟨rfl, rfl⟩, .inl ⟨rfl, rfl⟩, newB_nil _, newB_nil _⟩, below_setN (by omega) _ 0 _ J.out.hb⟩
    · have ks0 := J.out.s.cells.2 9 _ rfl
      have ks1 := J.out.s.cells.2 10 _ rfl
      have ks2 := J.out.s.cells.2 11 _ rfl
      have ks3 := J.out.s.cells.2 12 _ rfl
      have ks4 := J.out.s.cells.2 13 _ rfl
      have ks5 := J.out.s.cells.2 14 _ rfl
      have ks6 := J.out.s.cells.2 15 _ rfl
      have ks7 := J.out.s.cells.2 16 _ rfl
      have ks8 := J.out.s.cells.2 17 _ rfl
      obtain ⟨K1, K2, K3, K4, K5⟩ := enew wr B pb mb (stable_cells _ _ _ _ HPB.out J.out.hb) (stable_cells _ _ _ _ HMB.out J.out.hb) wr.heap.size rfl
      go_wp2_with (have hz0 := K1; refine wpList_storeN 42 rfl (.tmp 7) (.tmp 18) rfl wr.heap.size [.string ⟨B.key.toArray⟩, .int .i64 B.val.kind, .int .i64 B.val.time, .int .i64 B.val.node, .bool B.val.dead, .string ⟨B.val.text.toArray⟩, pb, mb, .int .u64 (B.val.flags.toNat : Int)] size_en rfl rfl K1.out rfl K2.out K5.out ?_; replace J := Kept.mk (J.out.keep K3.out); clear hz0 K1 K2 K3 K5 ks0 ks1 ks2 ks3 ks4 ks5 ks6 ks7 ks8; generalize setN (wr.alloc (.cells #[.string ⟨#[]⟩, .int .i64 0, .int .i64 0, .int .i64 0, .bool false, .string ⟨#[]⟩, .slice none 0 0, .slice none 0 0, .int .u64 0] 42)) wr.heap.size 0 [.string ⟨B.key.toArray⟩, .int .i64 B.val.kind, .int .i64 B.val.time, .int .i64 B.val.node, .bool B.val.dead, .string ⟨B.val.text.toArray⟩, pb, mb, .int .u64 (B.val.flags.toNat : Int)] = W1 at *; have kx0 := K4.out.1.2 0 _ rfl; have kx1 := K4.out.1.2 1 _ rfl; have kx2 := K4.out.1.2 2 _ rfl; have kx3 := K4.out.1.2 3 _ rfl; have kx4 := K4.out.1.2 4 _ rfl; have kx5 := K4.out.1.2 5 _ rfl; have kx6 := K4.out.1.2 6 _ rfl; have kx7 := K4.out.1.2 7 _ rfl; have kx8 := K4.out.1.2 8 _ rfl)
      refine (echeck_any B _ W1 ⟨_, _, rfl, K4.out.2.1, K4.out.2.2⟩ hF).mono ?_
      rintro e W2 ⟨rfl, hb⟩
      replace J := Kept.mk (J.out.keep hb)
      clear hb K4 kx0 kx1 kx2 kx3 kx4 kx5 kx6 kx7 kx8
      cases hok : okE B with
      | true =>
        rw [chk_ok hok]
        have HO := Kept.mk hok
        clear hok
        go_wp2
        go_roundw
        case rel => exact ⟨2, by omega, by go_num, J, ⟨fun _ => O1.out (by omega)⟩, ⟨fun _ => HO.out⟩⟩
        case measure => simp [intOf]
      | false =>
        rw [chk_no hok]
        have HO := Kept.mk hok
        clear hok
        have KZ : Kept (Ones [.string ⟨#[]⟩, .int .i64 0, .int .i64 0, .int .i64 0, .bool false, .string ⟨#[]⟩, .slice none 0 0, .slice none 0 0, .int .u64 0]) := ⟨⟨rfl, rfl, rfl, rfl, rfl, rfl, rfl, rfl, rfl, trivial⟩⟩
        go_wp2_with (refine wpList_storeN 42 rfl (.tmp 4) (.tmp 23) rfl (w.heap.size + 1 + 1) [.string ⟨#[]⟩, .int .i64 0, .int .i64 0, .int .i64 0, .bool false, .string ⟨#[]⟩, .slice none 0 0, .slice none 0 0, .int .u64 0] size_en rfl rfl J.out.r.cells rfl J.out.r.free KZ.out ?_)
        have e1 : joinEE A B = 2 := by unfold joinEE; rw [HO.out]; rw [Bool.and_false]; rfl
        have e2 : joinEF A B = zeroE := by unfold joinEF; rw [e1]; rfl
        rw [e1, e2]
        exact bodyPost_ret (resultsN2 rfl _ _ (w.heap.size + 1 + 1) _ (.int .i64 2) size_en agg_en rfl rfl (J.out.r.all_ rfl).cells) rfl ⟨_, rfl, ⟨.slice none 0 0, .slice none 0 0, rfl, .inl ⟨rfl, rfl⟩, .inl ⟨rfl, rfl⟩, newB_nil _, newB_nil _⟩, below_setN (by omega) _ 0 _ J.out.hb⟩
    · have P1 := Kept.mk (O1.out (by omega))
      have P2 := Kept.mk (O2.out rfl)
      clear O1 O2
      have ka0 := J.out.a.cells.2 0 _ rfl
      have ka1 := J.out.a.cells.2 1 _ rfl
      have ka2 := J.out.a.cells.2 2 _ rfl
      have ka3 := J.out.a.cells.2 3 _ rfl
      have ka4 := J.out.a.cells.2 4 _ rfl
      have ka5 := J.out.a.cells.2 5 _ rfl
      have ka6 := J.out.a.cells.2 6 _ rfl
      have ka7 := J.out.a.cells.2 7 _ rfl
      have ka8 := J.out.a.cells.2 8 _ rfl
      have kb0 := J.out.b.cells.2 0 _ rfl
      have kb1 := J.out.b.cells.2 1 _ rfl
      have kb2 := J.out.b.cells.2 2 _ rfl
      have kb3 := J.out.b.cells.2 3 _ rfl
      have kb4 := J.out.b.cells.2 4 _ rfl
      have kb5 := J.out.b.cells.2 5 _ rfl
      have kb6 := J.out.b.cells.2 6 _ rfl
      have kb7 := J.out.b.cells.2 7 _ rfl
      have kb8 := J.out.b.cells.2 8 _ rfl
      cases hk : (A.val.kind == B.val.kind) with
      | false =>
        have hk2 : (A.val.kind != B.val.kind) = true := by simp [bne, hk]
        have KZ : Kept (Ones [.string ⟨#[]⟩, .int .i64 0, .int .i64 0, .int .i64 0, .bool false, .string ⟨#[]⟩, .slice none 0 0, .slice none 0 0, .int .u64 0]) := ⟨⟨rfl, rfl, rfl, rfl, rfl, rfl, rfl, rfl, rfl, trivial⟩⟩
        go_wp2_with (refine wpList_storeN 42 rfl (.tmp 4) (.tmp 40) rfl (w.heap.size + 1 + 1) [.string ⟨#[]⟩, .int .i64 0, .int .i64 0, .int .i64 0, .bool false, .string ⟨#[]⟩, .slice none 0 0, .slice none 0 0, .int .u64 0] size_en rfl rfl J.out.r.cells rfl J.out.r.free KZ.out ?_)
        have e1 : joinEE A B = 3 := by unfold joinEE; rw [P1.out, P2.out]; unfold nameB; rw [show decide (A.val.kind = B.val.kind) = false by simpa using hk]; rfl
        have e2 : joinEF A B = zeroE := by unfold joinEF; rw [e1]; rfl
        rw [e1, e2]
        exact bodyPost_ret (resultsN2 rfl _ _ (w.heap.size + 1 + 1) _ (.int .i64 3) size_en agg_en rfl rfl (J.out.r.all_ rfl).cells) rfl ⟨_, rfl, ⟨.slice none 0 0, .slice none 0 0, rfl, .inl ⟨rfl, rfl⟩, .inl ⟨rfl, rfl⟩, newB_nil _, newB_nil _⟩, below_setN (by omega) _ 0 _ J.out.hb⟩
      | true =>
        have hk2 : (A.val.kind != B.val.kind) = false := by simp [bne, hk]
        cases hy : (A.key == B.key) with
        | false =>
          have hy2 : (A.key != B.key) = true := by simp [bne, hy]
          have KZ : Kept (Ones [.string ⟨#[]⟩, .int .i64 0, .int .i64 0, .int .i64 0, .bool false, .string ⟨#[]⟩, .slice none 0 0, .slice none 0 0, .int .u64 0]) := ⟨⟨rfl, rfl, rfl, rfl, rfl, rfl, rfl, rfl, rfl, trivial⟩⟩
          go_wp2_with (refine wpList_storeN 42 rfl (.tmp 4) (.tmp 40) rfl (w.heap.size + 1 + 1) [.string ⟨#[]⟩, .int .i64 0, .int .i64 0, .int .i64 0, .bool false, .string ⟨#[]⟩, .slice none 0 0, .slice none 0 0, .int .u64 0] size_en rfl rfl J.out.r.cells rfl J.out.r.free KZ.out ?_)
          have e1 : joinEE A B = 3 := by unfold joinEE; rw [P1.out, P2.out]; unfold nameB; rw [show decide (A.key = B.key) = false by simpa using hy, Bool.and_false]; rfl
          have e2 : joinEF A B = zeroE := by unfold joinEF; rw [e1]; rfl
          rw [e1, e2]
          exact bodyPost_ret (resultsN2 rfl _ _ (w.heap.size + 1 + 1) _ (.int .i64 3) size_en agg_en rfl rfl (J.out.r.all_ rfl).cells) rfl ⟨_, rfl, ⟨.slice none 0 0, .slice none 0 0, rfl, .inl ⟨rfl, rfl⟩, .inl ⟨rfl, rfl⟩, newB_nil _, newB_nil _⟩, below_setN (by omega) _ 0 _ J.out.hb⟩
        | true =>
          have hy2 : (A.key != B.key) = false := by simp [bne, hy]
          have HK := Kept.mk (show A.val.kind = B.val.kind by simpa using hk)
          have HY := Kept.mk (show A.key = B.key by simpa using hy)
          go_wp2_with fail
          clear hk hy hk2 hy2 ka0 kb0 ka1 kb1 ka2 kb2 ka3 kb3 ka4 kb4 ka5 kb5 ka6 kb6 ka7 kb7 ka8 kb8
          refine (vjoin_any A.val B.val _ _ wr ⟨pa, ma, rfl, stable_cells _ _ _ _ HPA.out J.out.hb, stable_cells _ _ _ _ HMA.out J.out.hb⟩ ⟨pb, mb, rfl, stable_cells _ _ _ _ HPB.out J.out.hb, stable_cells _ _ _ _ HMB.out J.out.hb⟩ hA.val hF.val).mono ?_
          rintro e U ⟨v', rfl, ⟨p', m', rfl, hp', hm', np, nm⟩, hb⟩
          replace J := Kept.mk (J.out.keep hb)
          clear hb
          obtain ⟨K1, K2, K3, K4, K5⟩ := vnew U (joinF A.val B.val) p' m' hp' hm' U.heap.size rfl
          have NP := Kept.mk np
          have NM := Kept.mk nm
          clear hp' hm' np nm
          generalize joinE A.val B.val = je
          go_wp2_with (first | (have hz0 := K1; refine wpList_storeN 40 rfl (.tmp 9) (.tmp 47) rfl U.heap.size [.int .i64 (joinF A.val B.val).kind, .int .i64 (joinF A.val B.val).time, .int .i64 (joinF A.val B.val).node, .bool (joinF A.val B.val).dead, .string ⟨(joinF A.val B.val).text.toArray⟩, p', m', .int .u64 ((joinF A.val B.val).flags.toNat : Int)] size_va rfl rfl K1.out rfl K2.out K5.out ?_; replace J := Kept.mk (J.out.keep K3.out); clear hz0 K1 K2 K3 K5; generalize setN (U.alloc (.cells #[.int .i64 0, .int .i64 0, .int .i64 0, .bool false, .string ⟨#[]⟩, .slice none 0 0, .slice none 0 0, .int .u64 0] 40)) U.heap.size 0 [.int .i64 (joinF A.val B.val).kind, .int .i64 (joinF A.val B.val).time, .int .i64 (joinF A.val B.val).node, .bool (joinF A.val B.val).dead, .string ⟨(joinF A.val B.val).text.toArray⟩, p', m', .int .u64 ((joinF A.val B.val).flags.toNat : Int)] = W1 at *; obtain ⟨Q1, Q2, Q3, Q4, Q5⟩ := eset (⟨A.key, joinF A.val B.val⟩ : En) p' m' (g := w.heap.size + 1 + 1) (B := w.heap.size) (by omega) J.out.hb J.out.r.cells rfl K4.out.2.1 K4.out.2.2 (NP.out.ne (by omega)) (NM.out.ne (by omega)); have ka0 := J.out.a.cells.2 0 _ rfl; have kg0 := K4.out.1.2 0 _ rfl; have kg1 := K4.out.1.2 1 _ rfl; have kg2 := K4.out.1.2 2 _ rfl; have kg3 := K4.out.1.2 3 _ rfl; have kg4 := K4.out.1.2 4 _ rfl; have kg5 := K4.out.1.2 5 _ rfl; have kg6 := K4.out.1.2 6 _ rfl; have kg7 := K4.out.1.2 7 _ rfl) | (have hz1 := Q5; refine wpList_storeN 42 rfl (.tmp 4) (.tmp 52) rfl (w.heap.size + 1 + 1) [.string ⟨A.key.toArray⟩, .int .i64 (joinF A.val B.val).kind, .int .i64 (joinF A.val B.val).time, .int .i64 (joinF A.val B.val).node, .bool (joinF A.val B.val).dead, .string ⟨(joinF A.val B.val).text.toArray⟩, p', m', .int .u64 ((joinF A.val B.val).flags.toNat : Int)] size_en rfl rfl J.out.r.cells rfl J.out.r.free Q5.out ?_; clear hz1 Q5))
          have e0 : nameB A B = true := by unfold nameB; simp [HK.out, HY.out]
          have e1 : joinEE A B = 0 := by unfold joinEE; rw [P1.out, P2.out, e0]; rfl
          have e3 : joinE A.val B.val = 0 := by
            have h1 := P1.out; have h2 := P2.out; unfold okE at h1 h2; rw [Bool.and_eq_true] at h1 h2; unfold joinE; rw [h1.2, h2.2, Bool.and_self, if_pos rfl, if_pos HK.out]
          have e2 : joinEF A B = ⟨A.key, joinF A.val B.val⟩ := by unfold joinEF joinF; rw [if_pos e1, if_pos e3]
          rw [e1, e2]
          exact bodyPost_ret (resultsN2 rfl _ _ (w.heap.size + 1 + 1) _ (.int .i64 0) size_en agg_en rfl rfl Q2.out) rfl ⟨_, rfl, ⟨p', m', rfl, Q3.out, Q4.out, NP.out.low (by omega), NM.out.low (by omega)⟩, Q1.out⟩
end Go.Proofs.YtmbnhlhanckkiaaGreat
end
section
namespace Go.Proofs.YtmbnhlhanckkiaaGreat
open Go.RowKit
set_option linter.unusedVariables false
set_option linter.unusedSimpArgs false
attribute [local irreducible] setN

set_option maxRecDepth 100000 in
set_option maxHeartbeats 2000000 in
theorem rless_any (A B : En) (v u : Value) (w : World) (hv : isEn A v w) (hu : isEn B u w) : Calls Tryz.prog 106 #[v, u] w fun e w' => e = .returned (.bool (lessE A B)) ∧ Below w.heap.size w w' := by
  obtain ⟨pa, ma, rfl, hpa, hma⟩ := hv
  obtain ⟨pb, mb, rfl, hpb, hmb⟩ := hu
  obtain ⟨hB, Va⟩ := ebox w A pa ma hpa hma (w.heap.size) (by simp)
  obtain ⟨hBn, Vb⟩ := ebox (w.alloc (.cells #[.string ⟨A.key.toArray⟩, .int .i64 A.val.kind, .int .i64 A.val.time, .int .i64 A.val.node, .bool A.val.dead, .string ⟨A.val.text.toArray⟩, pa, ma, .int .u64 (A.val.flags.toNat : Int)] 42)) B pb mb (stable_cells _ _ _ _ hpb hB.out) (stable_cells _ _ _ _ hmb hB.out) (w.heap.size + 1) (by simp)
  replace Va := Kept.mk (Va.out.keep hBn.out)
  replace hB := Kept.mk (hB.out.trans (hBn.out.mono hB.out.size))
  clear hBn
  clear hpa hma hpb hmb
  obtain ⟨qa, ra, xa, ya, ka0, ka1, ka2, ka3, ka4, ka5, ka6, ka7, ka8⟩ := Va.out.open_
  have Xa := Kept.mk xa
  have Ya := Kept.mk ya
  clear xa ya
  obtain ⟨qb, rb, xb, yb, kb0, kb1, kb2, kb3, kb4, kb5, kb6, kb7, kb8⟩ := Vb.out.open_
  have Xb := Kept.mk xb
  have Yb := Kept.mk yb
  clear xb yb
  cases hk : (A.val.kind == B.val.kind) with
  | true =>
    have HC := Kept.mk (show lessE A B = Op.bytesLess A.key B.key by unfold lessE; rw [if_pos (by simpa using hk)])
    go_enter Tryz.func106, Tryz.ntmps106
    go_wp2
    go_ret
    exact ⟨by rw [HC.out]; rfl, hB.out⟩
  | false =>
    have HC := Kept.mk (show lessE A B = decide (A.val.kind < B.val.kind) by unfold lessE; rw [if_neg (by simpa using hk)])
    go_enter Tryz.func106, Tryz.ntmps106
    go_wp2
    go_ret
    exact ⟨by rw [HC.out]; rfl, hB.out⟩
set_option maxRecDepth 100000 in
set_option maxHeartbeats 2000000 in
theorem resame_any (A B : En) (v u : Value) (w : World) (hv : isEn A v w) (hu : isEn B u w) (hA : Fit A.val) (hF : Fit B.val) : Calls Tryz.prog 44 #[v, u] w fun e w' => e = .returned (.bool (decide (A = B))) ∧ Below w.heap.size w w' := by
  have HS := Kept.mk (same_en A B)
  obtain ⟨pa, ma, rfl, hpa, hma⟩ := hv
  obtain ⟨pb, mb, rfl, hpb, hmb⟩ := hu
  obtain ⟨hB, Va⟩ := ebox w A pa ma hpa hma (w.heap.size) (by simp)
  obtain ⟨hBn, Vb⟩ := ebox (w.alloc (.cells #[.string ⟨A.key.toArray⟩, .int .i64 A.val.kind, .int .i64 A.val.time, .int .i64 A.val.node, .bool A.val.dead, .string ⟨A.val.text.toArray⟩, pa, ma, .int .u64 (A.val.flags.toNat : Int)] 42)) B pb mb (stable_cells _ _ _ _ hpb hB.out) (stable_cells _ _ _ _ hmb hB.out) (w.heap.size + 1) (by simp)
  replace Va := Kept.mk (Va.out.keep hBn.out)
  replace hB := Kept.mk (hB.out.trans (hBn.out.mono hB.out.size))
  clear hBn
  clear hpa hma hpb hmb
  obtain ⟨qa, ra, xa, ya, ka0, ka1, ka2, ka3, ka4, ka5, ka6, ka7, ka8⟩ := Va.out.open_
  have Xa := Kept.mk xa
  have Ya := Kept.mk ya
  clear xa ya
  obtain ⟨qb, rb, xb, yb, kb0, kb1, kb2, kb3, kb4, kb5, kb6, kb7, kb8⟩ := Vb.out.open_
  have Xb := Kept.mk xb
  have Yb := Kept.mk yb
  clear xb yb
  cases hk : (A.key == B.key) with
  | false =>
    go_enter Tryz.func44, Tryz.ntmps44
    go_wp2
    go_ret
    exact ⟨by rw [HS.out, hk]; rfl, hB.out⟩
  | true =>
    have HK := Kept.mk hk
    go_enter Tryz.func44, Tryz.ntmps44
    go_wp2_with fail
    refine (rsame_any A.val B.val _ _ _ Ya.out Yb.out hA hF).mono ?_
    rintro e W1 ⟨rfl, hb1⟩
    replace hB := Kept.mk (hB.out.trans (hb1.mono hB.out.size))
    clear hb1 Xa Xb Ya Yb Va Vb ka0 ka1 ka2 ka3 ka4 ka5 ka6 ka7 ka8 kb0 kb1 kb2 kb3 kb4 kb5 kb6 kb7 kb8
    generalize hz : decide (A.val = B.val) = z
    have HV := Kept.mk hz
    clear hz
    go_wp2
    go_ret
    exact ⟨by rw [HS.out, HK.out, HV.out]; rfl, hB.out⟩
set_option maxRecDepth 100000 in
set_option maxHeartbeats 2000000 in
theorem rechk_any (E : En) (v : Value) (w : World) (hv : isEn E v w) (hF : FitE E) : Calls Tryz.prog 104 #[v] w fun e w' => e = .returned (.bool (okE E)) ∧ Below w.heap.size w w' := by
  have hk := hF.key
  have hs : (⟨E.key.toArray⟩ : ByteArray).size = E.key.length := by simp [ByteArray.size]
  obtain ⟨pe, me, rfl, hpe, hme⟩ := hv
  obtain ⟨hB, Ve⟩ := ebox w E pe me hpe hme (w.heap.size) (by simp)
  clear hpe hme
  obtain ⟨qe, re, xe, ye, ke0, ke1, ke2, ke3, ke4, ke5, ke6, ke7, ke8⟩ := Ve.out.open_
  have Xe := Kept.mk xe
  have Ye := Kept.mk ye
  clear xe ye
  by_cases h1 : (1 : Int) ≤ E.key.length
  · have d1 : decide ((1 : Int) ≤ E.key.length) = true := by simpa using h1
    by_cases h8 : (E.key.length : Int) ≤ 8
    · have d8 : decide ((E.key.length : Int) ≤ 8) = true := by simpa using h8
      have HC := Kept.mk (show okE E = okV E.val by unfold okE; rw [show decide (1 ≤ E.key.length) = true by rw [decide_eq_true_eq]; omega, show decide (E.key.length ≤ 8) = true by simp; omega]; rfl)
      go_enter Tryz.func104, Tryz.ntmps104
      go_wp2_with fail
      refine (rcheck_any E.val _ _ Ye.out hF.val).mono ?_
      rintro e W1 ⟨rfl, hb1⟩
      replace hB := Kept.mk (hB.out.trans (hb1.mono hB.out.size))
      clear hb1 Xe Ye ke0 ke1 ke2 ke3 ke4 ke5 ke6 ke7 ke8 Ve
      generalize hcv : okV E.val = cv
      have HV := Kept.mk hcv
      clear hcv
      go_wp2
      go_ret
      exact ⟨by rw [HC.out, HV.out]; rfl, hB.out⟩
    · have d8 : decide ((E.key.length : Int) ≤ 8) = false := by simpa using h8
      have HC := Kept.mk (show okE E = false by unfold okE; rw [show decide (E.key.length ≤ 8) = false by simp; omega]; simp)
      go_enter Tryz.func104, Tryz.ntmps104
      go_wp2
      go_ret
      exact ⟨by rw [HC.out]; rfl, hB.out⟩
  · have d1 : decide ((1 : Int) ≤ E.key.length) = false := by simpa using h1
    have HC := Kept.mk (show okE E = false by unfold okE; rw [show decide (1 ≤ E.key.length) = false by rw [decide_eq_false_iff_not]; omega]; simp)
    go_enter Tryz.func104, Tryz.ntmps104
    go_wp2
    go_ret
    exact ⟨by rw [HC.out]; rfl, hB.out⟩
set_option maxRecDepth 100000 in
set_option maxHeartbeats 2000000 in
theorem rname_any (A B : En) (v u : Value) (w : World) (hv : isEn A v w) (hu : isEn B u w) : Calls Tryz.prog 105 #[v, u] w fun e w' => e = .returned (.bool (nameB A B)) ∧ Below w.heap.size w w' := by
  obtain ⟨pa, ma, rfl, hpa, hma⟩ := hv
  obtain ⟨pb, mb, rfl, hpb, hmb⟩ := hu
  obtain ⟨hB, Va⟩ := ebox w A pa ma hpa hma (w.heap.size) (by simp)
  obtain ⟨hBn, Vb⟩ := ebox (w.alloc (.cells #[.string ⟨A.key.toArray⟩, .int .i64 A.val.kind, .int .i64 A.val.time, .int .i64 A.val.node, .bool A.val.dead, .string ⟨A.val.text.toArray⟩, pa, ma, .int .u64 (A.val.flags.toNat : Int)] 42)) B pb mb (stable_cells _ _ _ _ hpb hB.out) (stable_cells _ _ _ _ hmb hB.out) (w.heap.size + 1) (by simp)
  replace Va := Kept.mk (Va.out.keep hBn.out)
  replace hB := Kept.mk (hB.out.trans (hBn.out.mono hB.out.size))
  clear hBn
  clear hpa hma hpb hmb
  obtain ⟨qa, ra, xa, ya, ka0, ka1, ka2, ka3, ka4, ka5, ka6, ka7, ka8⟩ := Va.out.open_
  have Xa := Kept.mk xa
  have Ya := Kept.mk ya
  clear xa ya
  obtain ⟨qb, rb, xb, yb, kb0, kb1, kb2, kb3, kb4, kb5, kb6, kb7, kb8⟩ := Vb.out.open_
  have Xb := Kept.mk xb
  have Yb := Kept.mk yb
  clear xb yb
  cases hk : (A.val.kind == B.val.kind) with
  | false =>
    have HC := Kept.mk (show nameB A B = false by unfold nameB; rw [show decide (A.val.kind = B.val.kind) = false by simpa using hk]; rfl)
    go_enter Tryz.func105, Tryz.ntmps105
    go_wp2
    go_ret
    exact ⟨by rw [HC.out]; rfl, hB.out⟩
  | true =>
    have HC := Kept.mk (show nameB A B = (A.key == B.key) by unfold nameB; rw [show decide (A.val.kind = B.val.kind) = true by simpa using hk, Bool.true_and]; by_cases h : A.key = B.key <;> simp [h])
    go_enter Tryz.func105, Tryz.ntmps105
    go_wp2
    go_ret
    exact ⟨by rw [HC.out]; rfl, hB.out⟩
end Go.Proofs.YtmbnhlhanckkiaaGreat
end
section
namespace Go.Proofs.YtmbnhlhanckkiaaGreat
set_option linter.unusedVariables false
set_option linter.unusedSimpArgs false

theorem lessE_iff (A B : En) : lessE A B = true ↔ A.val.kind < B.val.kind ∨ (A.val.kind = B.val.kind ∧ Op.bytesLess A.key B.key = true) := by
  unfold lessE
  by_cases h : A.val.kind = B.val.kind
  · rw [if_pos h, h]; simp
  · rw [if_neg h]; simp [h]
theorem less_both (A B : En) (h1 : lessE A B = true) (h2 : lessE B A = true) : False := by
  rw [lessE_iff] at h1 h2
  rcases h1 with h1 | ⟨e1, h1⟩ <;> rcases h2 with h2 | ⟨e2, h2⟩
  · omega
  · omega
  · omega
  · have := less_trans h1 h2
    rw [less_irrefl] at this
    cases this
theorem less_name (A B : En) (h : nameB A B = true) : lessE A B = false := by
  unfold nameB at h
  simp only [Bool.and_eq_true, decide_eq_true_eq] at h
  unfold lessE
  rw [if_pos h.1, h.2, less_irrefl]
theorem less_none (A B : En) (h1 : lessE A B = false) (h2 : lessE B A = false) : nameB A B = true := by
  unfold lessE at h1 h2
  by_cases h : A.val.kind = B.val.kind
  · rw [if_pos h] at h1
    rw [if_pos h.symm] at h2
    have := less_total _ _ h1 h2
    unfold nameB
    simp [h, this]
  · rw [if_neg h] at h1
    rw [if_neg (fun e => h e.symm)] at h2
    simp at h1 h2
    omega
theorem lessE_trans (A B C : En) (h1 : lessE A B = true) (h2 : lessE B C = true) : lessE A C = true := by
  rw [lessE_iff] at h1 h2 ⊢
  rcases h1 with h1 | ⟨e1, h1⟩ <;> rcases h2 with h2 | ⟨e2, h2⟩
  · left; omega
  · left; omega
  · left; omega
  · right; exact ⟨by omega, less_trans h1 h2⟩
theorem name_comm (A B : En) : nameB A B = nameB B A := by
  unfold nameB
  rw [Bool.eq_iff_iff]
  simp only [Bool.and_eq_true, decide_eq_true_eq]
  exact ⟨fun h => ⟨h.1.symm, h.2.symm⟩, fun h => ⟨h.1.symm, h.2.symm⟩⟩
theorem joinEE_zero {A B : En} (h : joinEE A B = 0) : okE A = true ∧ okE B = true ∧ nameB A B = true := by
  unfold joinEE at h
  split at h
  · rename_i h1
    rw [Bool.and_eq_true] at h1
    split at h
    · rename_i h2
      exact ⟨h1.1, h1.2, h2⟩
    · simp at h
  · simp at h
theorem okE_val {E : En} (h : okE E = true) : okV E.val = true := by unfold okE at h; rw [Bool.and_eq_true] at h; exact h.2
theorem joinE_val {A B : En} (h : joinEE A B = 0) : joinE A.val B.val = 0 ∧ A.val.kind = B.val.kind ∧ A.key = B.key := by
  obtain ⟨h1, h2, h3⟩ := joinEE_zero h
  unfold nameB at h3
  simp only [Bool.and_eq_true, decide_eq_true_eq] at h3
  refine ⟨?_, h3⟩
  unfold joinE
  rw [okE_val h1, okE_val h2, Bool.and_self, if_pos rfl, if_pos h3.1]
theorem joinEF_some {A B : En} (h : joinEE A B = 0) : joinEF A B = ⟨A.key, joinF A.val B.val⟩ := by
  unfold joinEF joinF
  rw [if_pos h, if_pos (joinE_val h).1]
theorem joinEF_ok {A B : En} (h : joinEE A B = 0) : okE (joinEF A B) = true := by
  obtain ⟨h1, h2, _⟩ := joinEE_zero h
  rw [joinEF_some h]
  unfold okE at h1 ⊢
  rw [Bool.and_eq_true] at h1 ⊢
  exact ⟨h1.1, (join_ok (joinE_val h).1).1⟩
end Go.Proofs.YtmbnhlhanckkiaaGreat
end
section
namespace Go.Proofs.YtmbnhlhanckkiaaGreat
set_option linter.unusedVariables false
set_option linter.unusedSimpArgs false

structure Ar where
  cap : Int
  slots : List En
  index : List Int
  deriving DecidableEq

def zeroA : Ar := ⟨0, [], []⟩
def roomB (n : Int) : Bool := decide (1 ≤ n) && decide (n ≤ 8)
def slotAt (l : List En) (p : Int) : En := (l[p.toNat]?).getD zeroE
def ordA (A : Ar) : List En := A.index.map (slotAt A.slots)
def Asc (l : List En) : Prop := l.Pairwise (fun a b => lessE a b = true)
instance (l : List En) : Decidable (Asc l) := by unfold Asc; infer_instance
def idxB (l : List En) (idx : List Int) : Bool := decide (idx.length = l.length) && (idx.all (fun p => decide (0 ≤ p) && decide (p < l.length)) && decide (Asc (idx.map (slotAt l))))
def okA (A : Ar) : Bool := roomB A.cap && (decide ((A.slots.length : Int) ≤ A.cap) && (A.slots.all okE && idxB A.slots A.index))
def chkA (A : Ar) : Int := if okA A = true then 0 else 2
def posN (l : List En) (x : En) : Nat := l.countP (fun y => lessE y x)
def hitB (l : List En) (x : En) : Bool := match l[posN l x]? with | some y => nameB y x | none => false
def placeI (A : Ar) (x : En) : Int := (A.index[posN (ordA A) x]?).getD 0
def nameE (kind : Int) (key : List UInt8) : En := ⟨key, ⟨kind, 0, 0, false, [], [], [], 0⟩⟩
def findI (A : Ar) (x : En) : Int := if okA A = true then (if hitB (ordA A) x = true then placeI A x else -1) else -1
def meetL (A : Ar) (x : En) : List En := A.slots.set (placeI A x).toNat (joinEF (slotAt A.slots (placeI A x)) x)
def putIdx (A : Ar) (x : En) : List Int := A.index.take (posN (ordA A) x) ++ ((A.slots.length : Int) :: A.index.drop (posN (ordA A) x))
def joinAE (A : Ar) (x : En) : Int :=
  if (okA A && okE x) = true then (if hitB (ordA A) x = true then 0 else if (A.slots.length : Int) = A.cap then 4 else 0) else 2
def joinAB (A : Ar) (x : En) : Bool :=
  if (okA A && okE x) = true then (if hitB (ordA A) x = true then !decide (slotAt A.slots (placeI A x) = joinEF (slotAt A.slots (placeI A x)) x) else if (A.slots.length : Int) = A.cap then false else true) else false
def joinAF (A : Ar) (x : En) : Ar :=
  if (okA A && okE x) = true then (if hitB (ordA A) x = true then ⟨A.cap, meetL A x, A.index⟩ else if (A.slots.length : Int) = A.cap then A else ⟨A.cap, A.slots ++ [x], putIdx A x⟩) else A
def mergeF (A : Ar) : List En → Ar
  | [] => A
  | x :: r => mergeF (joinAF A x) r
def mergeN (A : Ar) : List En → Nat
  | [] => 0
  | x :: r => (if joinAB A x = true then 1 else 0) + mergeN (joinAF A x) r
def mergeO (A : Ar) : List En → Nat
  | [] => 0
  | x :: r => (if joinAE A x = 0 then 0 else 1) + mergeO (joinAF A x) r
def allA (A : Ar) : List En := if okA A = true then ordA A else []
def chunkA (A : Ar) (at_ n : Int) : List En := if at_ < 0 then [] else if okA A = true then (A.slots.drop at_.toNat).take n.toNat else []
def belowE (a b : En) : Bool := decide (joinEF a b = b)
def inB (B : Ar) (x : En) : Bool := if findI B x = -1 then false else belowE x (slotAt B.slots (findI B x))
def belowA (A B : Ar) : Bool := okA A && (okA B && A.slots.all (inB B))
def alikeA (A B : Ar) : Bool := belowA A B && belowA B A

theorem name_iff {A B : En} : nameB A B = true ↔ A.val.kind = B.val.kind ∧ A.key = B.key := by unfold nameB; simp
theorem name_self (A : En) : nameB A A = true := by rw [name_iff]; exact ⟨rfl, rfl⟩
theorem name_trans {A B C : En} (h1 : nameB A B = true) (h2 : nameB B C = true) : nameB A C = true := by
  rw [name_iff] at *; exact ⟨h1.1.trans h2.1, h1.2.trans h2.2⟩
theorem name_symm {A B : En} (h1 : nameB A B = true) : nameB B A = true := by rw [name_comm]; exact h1
theorem less_right {A B B' : En} (h : nameB B B' = true) : lessE A B = lessE A B' := by
  rw [name_iff] at h; unfold lessE; rw [h.1, h.2]
theorem lessE_irrefl (A : En) : lessE A A = false := less_name A A (name_self A)

/-- In a rising list: what is ahead of x stands ahead. -/
theorem pos_le (l : List En) (x : En) : posN l x ≤ l.length := List.countP_le_length
theorem pos_cons_yes {a x : En} {l : List En} (h : lessE a x = true) : posN (a :: l) x = posN l x + 1 := by
  unfold posN; exact List.countP_cons_of_pos (p := fun y => lessE y x) h
theorem pos_zero : ∀ {l : List En} {x : En}, (∀ y ∈ l, lessE y x = false) → posN l x = 0 := by
  intro l x h; unfold posN; rw [List.countP_eq_zero]; intro y hy; simp [h y hy]
theorem asc_none {a x : En} {l : List En} (h : Asc (a :: l)) (hn : lessE a x = false) : ∀ y ∈ l, lessE y x = false := by
  intro y hy
  have := List.rel_of_pairwise_cons h hy
  cases hl : lessE y x with
  | false => rfl
  | true => rw [lessE_trans _ _ _ this hl] at hn; cases hn
theorem pos_cons_no {a x : En} {l : List En} (h : Asc (a :: l)) (hn : lessE a x = false) : posN (a :: l) x = 0 :=
  pos_zero fun y hy => (List.mem_cons.1 hy).elim (fun e => by rw [e]; exact hn) (fun hy => asc_none h hn y hy)
theorem pos_before : ∀ {l : List En} {x : En}, Asc l → ∀ (j : Nat) (y : En), l[j]? = some y → (lessE y x = true ↔ j < posN l x)
  | [], x, _, j, y, h => by simp at h
  | a :: l, x, h, j, y, hy => by
    cases ha : lessE a x with
    | true =>
      rw [pos_cons_yes ha]
      cases j with
      | zero => simp only [List.getElem?_cons_zero, Option.some.injEq] at hy; subst hy; simp [ha]
      | succ j =>
        rw [List.getElem?_cons_succ] at hy
        rw [pos_before (List.Pairwise.of_cons h) j y hy]; omega
    | false =>
      rw [pos_cons_no h ha]
      have : lessE y x = false := by
        cases j with
        | zero => simp only [List.getElem?_cons_zero, Option.some.injEq] at hy; subst hy; exact ha
        | succ j => rw [List.getElem?_cons_succ] at hy; exact asc_none h ha y (List.mem_of_getElem? hy)
      simp [this]
theorem hit_pos {l : List En} {x : En} (h : hitB l x = true) : ∃ y, l[posN l x]? = some y ∧ nameB y x = true := by
  unfold hitB at h
  split at h
  · rename_i y hy; exact ⟨y, hy, h⟩
  · cases h
theorem pos_lt_of_hit {l : List En} {x : En} (h : hitB l x = true) : posN l x < l.length := by
  obtain ⟨y, hy, _⟩ := hit_pos h
  exact (List.getElem?_eq_some_iff.1 hy).1
theorem pos_of_name {l : List En} {x y : En} (hl : Asc l) {j : Nat} (hy : l[j]? = some y) (hn : nameB y x = true) : posN l x = j := by
  have h1 := (pos_before (x := x) hl j y hy)
  rw [less_name _ _ hn] at h1
  have h2 : ¬ j < posN l x := by intro h; exact absurd (h1.2 h) (by simp)
  by_cases h3 : posN l x < j
  · have hj := (List.getElem?_eq_some_iff.1 hy).1
    have h4 := (pos_before (x := x) hl (posN l x) (l[posN l x]'(by omega)) (List.getElem?_eq_getElem _))
    have h5 : lessE (l[posN l x]'(by omega)) y = true := by
      have := List.pairwise_iff_getElem.1 hl (posN l x) j (by omega) hj h3
      rw [(List.getElem?_eq_some_iff.1 hy).2] at this
      exact this
    rw [less_right hn] at h5
    have := h4.1 h5
    omega
  · omega
theorem hit_of_mem {l : List En} {x y : En} (hl : Asc l) (hy : y ∈ l) (hn : nameB y x = true) : hitB l x = true ∧ l[posN l x]? = some y := by
  obtain ⟨j, hj⟩ := List.getElem?_of_mem hy
  have := pos_of_name hl hj hn
  subst this
  refine ⟨?_, hj⟩
  unfold hitB; rw [hj]; exact hn
theorem behind_pos {l : List En} {x : En} (hl : Asc l) (hh : hitB l x = false) {j : Nat} {y : En} (hy : l[j]? = some y) (hj : posN l x ≤ j) : lessE x y = true := by
  have h1 := pos_before (x := x) hl j y hy
  have h2 : lessE y x = false := by
    cases h : lessE y x with
    | false => rfl
    | true => have := h1.1 h; omega
  cases h3 : lessE x y with
  | true => rfl
  | false =>
    have hn := less_none y x h2 h3
    rw [(hit_of_mem hl (List.mem_of_getElem? hy) hn).1] at hh
    cases hh
/-- The list with one more, where it belongs. -/
def insE (l : List En) (x : En) : List En := l.take (posN l x) ++ (x :: l.drop (posN l x))
theorem asc_ins {l : List En} {x : En} (hl : Asc l) (hh : hitB l x = false) : Asc (insE l x) := by
  have e := List.take_append_drop (posN l x) l
  have hp : Asc (l.take (posN l x) ++ l.drop (posN l x)) := by rw [e]; exact hl
  obtain ⟨p1, p2, p3⟩ := List.pairwise_append.1 hp
  have b1 : ∀ y ∈ l.take (posN l x), lessE y x = true := by
    intro y hy
    obtain ⟨j, hj⟩ := List.getElem?_of_mem hy
    have hlt := (List.getElem?_eq_some_iff.1 hj).1
    rw [List.length_take] at hlt
    rw [List.getElem?_take_of_lt (by omega)] at hj
    exact (pos_before hl j y hj).2 (by omega)
  have b2 : ∀ y ∈ l.drop (posN l x), lessE x y = true := by
    intro y hy
    obtain ⟨j, hj⟩ := List.getElem?_of_mem hy
    rw [List.getElem?_drop] at hj
    exact behind_pos hl hh hj (by omega)
  refine List.pairwise_append.2 ⟨p1, List.pairwise_cons.2 ⟨b2, p2⟩, ?_⟩
  intro a ha b hb
  rcases List.mem_cons.1 hb with rfl | hb
  · exact b1 a ha
  · exact p3 a ha b hb

/-- A list without twice the same, all of which another one has, is no longer. -/
theorem nodup_length {α : Type} [DecidableEq α] : ∀ (l m : List α), l.Nodup → (∀ x ∈ l, x ∈ m) → l.length ≤ m.length
  | [], m, _, _ => by simp
  | a :: l, m, h, hs => by
    obtain ⟨h1, h2⟩ := List.nodup_cons.1 h
    have ha := hs a (by simp)
    have := nodup_length l (m.erase a) h2 (fun x hx => by
      have hne : x ≠ a := by rintro rfl; exact h1 hx
      exact (List.mem_erase_of_ne hne).2 (hs x (by simp [hx])))
    rw [List.length_erase_of_mem ha] at this
    have : 0 < m.length := List.length_pos_of_mem ha
    simp only [List.length_cons]
    omega
theorem nodup_all {n : Nat} (l : List Nat) (h : l.Nodup) (hr : ∀ p ∈ l, p < n) (hl : l.length = n) (q : Nat) (hq : q < n) : q ∈ l := by
  by_cases hm : q ∈ l
  · exact hm
  · exfalso
    have h2 : (q :: l).Nodup := List.nodup_cons.2 ⟨hm, h⟩
    have := nodup_length (q :: l) (List.range n) h2 (fun x hx => by
      rcases List.mem_cons.1 hx with rfl | hx
      · exact List.mem_range.2 hq
      · exact List.mem_range.2 (hr x hx))
    simp at this
    omega

structure OkA (A : Ar) : Prop where
  room : 1 ≤ A.cap ∧ A.cap ≤ 8
  fits : (A.slots.length : Int) ≤ A.cap
  ents : ∀ e ∈ A.slots, okE e = true
  len : A.index.length = A.slots.length
  rng : ∀ p ∈ A.index, 0 ≤ p ∧ p < A.slots.length
  asc : Asc (ordA A)
theorem okA_iff {A : Ar} : okA A = true ↔ OkA A := by
  unfold okA roomB idxB
  simp only [Bool.and_eq_true, decide_eq_true_eq, List.all_eq_true]
  constructor
  · rintro ⟨h1, h2, h3, h4, h5, h6⟩; exact ⟨h1, h2, h3, h4, h5, h6⟩
  · rintro ⟨h1, h2, h3, h4, h5, h6⟩; exact ⟨h1, h2, h3, h4, h5, h6⟩
theorem slotAt_some {l : List En} {p : Nat} {e : En} (h : l[p]? = some e) : slotAt l (p : Int) = e := by unfold slotAt; simp [h]
theorem slotAt_mem {l : List En} {p : Int} (h : 0 ≤ p ∧ p < l.length) : slotAt l p ∈ l := by
  unfold slotAt
  rw [List.getElem?_eq_getElem (by omega)]
  exact List.getElem_mem _
theorem ord_length {A : Ar} (h : OkA A) : (ordA A).length = A.slots.length := by unfold ordA; rw [List.length_map, h.len]
theorem idx_nodup {A : Ar} (h : OkA A) : (A.index.map Int.toNat).Nodup := by
  have h1 := h.asc
  unfold Asc ordA at h1
  unfold List.Nodup
  rw [List.pairwise_map] at h1 ⊢
  refine h1.imp ?_
  intro a b hab e
  unfold slotAt at hab
  rw [e, lessE_irrefl] at hab
  cases hab
/-- Each slot stands in the order. -/
theorem mem_ord {A : Ar} (h : OkA A) (e : En) : e ∈ ordA A ↔ e ∈ A.slots := by
  unfold ordA
  rw [List.mem_map]
  constructor
  · rintro ⟨p, hp, rfl⟩; exact slotAt_mem (h.rng p hp)
  · intro he
    obtain ⟨q, hq⟩ := List.getElem?_of_mem he
    have hlt := (List.getElem?_eq_some_iff.1 hq).1
    have hm := nodup_all _ (idx_nodup h) (n := A.slots.length) (by
      intro p hp; obtain ⟨r, hr, rfl⟩ := List.mem_map.1 hp; have := h.rng r hr; omega) (by rw [List.length_map, h.len]) q hlt
    obtain ⟨r, hr, e2⟩ := List.mem_map.1 hm
    refine ⟨r, hr, ?_⟩
    unfold slotAt; rw [e2, hq]; rfl
theorem asc_name {l : List En} (h : Asc l) {a b : En} (ha : a ∈ l) (hb : b ∈ l) (hn : nameB a b = true) : a = b := by
  have h1 := (hit_of_mem h ha hn).2
  have h2 := (hit_of_mem h hb (name_self b)).2
  rw [h1] at h2
  injection h2
theorem one_name {A : Ar} (h : OkA A) {a b : En} (ha : a ∈ A.slots) (hb : b ∈ A.slots) (hn : nameB a b = true) : a = b :=
  asc_name h.asc ((mem_ord h a).2 ha) ((mem_ord h b).2 hb) hn
/-- The place of a name. -/
theorem place_spec {A : Ar} (h : OkA A) {x : En} (hh : hitB (ordA A) x = true) : (0 ≤ placeI A x ∧ placeI A x < A.slots.length) ∧ A.index[posN (ordA A) x]? = some (placeI A x) ∧ (ordA A)[posN (ordA A) x]? = some (slotAt A.slots (placeI A x)) ∧ nameB (slotAt A.slots (placeI A x)) x = true := by
  obtain ⟨y, hy, hn⟩ := hit_pos hh
  have hlt : posN (ordA A) x < A.index.length := by have := pos_lt_of_hit hh; rw [ord_length h] at this; rw [h.len]; exact this
  have e1 : A.index[posN (ordA A) x]? = some (placeI A x) := by unfold placeI; rw [List.getElem?_eq_getElem hlt]; rfl
  have e2 : (ordA A)[posN (ordA A) x]? = some (slotAt A.slots (placeI A x)) := by
    have : (ordA A)[posN (ordA A) x]? = (A.index[posN (ordA A) x]?).map (slotAt A.slots) := List.getElem?_map
    rw [this, e1]; rfl
  have e3 : y = slotAt A.slots (placeI A x) := by rw [hy] at e2; injection e2
  exact ⟨h.rng _ (List.mem_of_getElem? e1), e1, e2, e3 ▸ hn⟩
theorem hit_iff {A : Ar} (h : OkA A) {x : En} : hitB (ordA A) x = true ↔ ∃ e ∈ A.slots, nameB e x = true := by
  constructor
  · intro hh
    obtain ⟨h1, _, _, h4⟩ := place_spec h hh
    exact ⟨_, slotAt_mem h1, h4⟩
  · rintro ⟨e, he, hn⟩; exact (hit_of_mem h.asc ((mem_ord h e).2 he) hn).1
theorem find_ne {A : Ar} (h : OkA A) {x : En} : findI A x = -1 ↔ hitB (ordA A) x = false := by
  unfold findI
  rw [if_pos (okA_iff.2 h)]
  cases hh : hitB (ordA A) x with
  | true => have := (place_spec h hh).1; rw [if_pos rfl]; constructor
            · intro; omega
            · intro h; cases h
  | false => simp
end Go.Proofs.YtmbnhlhanckkiaaGreat
end
section
namespace Go.Proofs.YtmbnhlhanckkiaaGreat
open Go.RowKit
set_option linter.unusedVariables false
set_option linter.unusedSimpArgs false

/-- An entry's cells. -/
def enL (E : En) (vp vm : Value) : List Value := [.string ⟨E.key.toArray⟩, .int .i64 E.val.kind, .int .i64 E.val.time, .int .i64 E.val.node, .bool E.val.dead, .string ⟨E.val.text.toArray⟩, vp, vm, .int .u64 (E.val.flags.toNat : Int)]
/-- An entry stands in block b from place o on. -/
def EnAt (w : World) (b o : Nat) (E : En) : Prop := ∃ vp vm, (∀ (j : Nat) (x : Value), [.string ⟨E.key.toArray⟩, .int .i64 E.val.kind, .int .i64 E.val.time, .int .i64 E.val.node, .bool E.val.dead, .string ⟨E.val.text.toArray⟩, vp, vm, .int .u64 (E.val.flags.toNat : Int)][j]? = some x → w.cell? ⟨b, o + j, none⟩ = some x) ∧ isCells (E.val.plus.map intC) vp w ∧ isCells (E.val.minus.map intC) vm w
theorem EnAt.keep {w w' : World} {b o : Nat} {E : En} (h : EnAt w b o E) (hb : Below w.heap.size w w') (hlt : b < w.heap.size) : EnAt w' b o E := by
  obtain ⟨vp, vm, hc, hp, hm⟩ := h
  exact ⟨vp, vm, fun j x hx => (hb.cell (p := ⟨b, o + j, none⟩) hlt).trans (hc j x hx), stable_cells _ _ _ _ hp hb, stable_cells _ _ _ _ hm hb⟩
/-- A slice of just these entries. -/
def isEns (l : List En) : VP := fun v w => (v = .slice none 0 0 ∧ l = []) ∨ (∃ a cap, v = .slice (some a) 0 cap ∧ l = []) ∨
  ∃ b off cap, v = .slice (some ⟨b, off, none⟩) l.length cap ∧ b < w.heap.size ∧ ∀ (j : Nat) (E : En), l[j]? = some E → EnAt w b (off + j * 9) E
theorem stable_ens (l : List En) : Stable (isEns l) := by
  intro v w w' h hb
  rcases h with h | h | ⟨b, off, cap, e, hlt, hc⟩
  · exact .inl h
  · exact .inr (.inl h)
  · exact .inr (.inr ⟨b, off, cap, e, Nat.lt_of_lt_of_le hlt hb.size, fun j E hE => (hc j E hE).keep hb hlt⟩)
theorem isEns.len {l : List En} {v : Value} {w : World} (h : isEns l v w) : ∃ a cap, v = .slice a l.length cap := by
  rcases h with ⟨rfl, rfl⟩ | ⟨a, cap, rfl, rfl⟩ | ⟨b, off, cap, rfl, _⟩
  · exact ⟨_, _, rfl⟩
  · exact ⟨_, _, rfl⟩
  · exact ⟨_, _, rfl⟩
theorem isEns.one {l : List En} {v : Value} {w : World} (h : isEns l v w) : v.oneCell' = true := by
  obtain ⟨a, cap, rfl⟩ := h.len
  rfl
theorem isEns.get {l : List En} {v : Value} {w : World} (h : isEns l v w) {j : Nat} {E : En} (hj : l[j]? = some E) : ∃ b off cap, v = .slice (some ⟨b, off, none⟩) l.length cap ∧ b < w.heap.size ∧ EnAt w b (off + j * 9) E := by
  rcases h with ⟨_, rfl⟩ | ⟨a, cap, _, rfl⟩ | ⟨b, off, cap, e, hlt, hc⟩
  · simp at hj
  · simp at hj
  · exact ⟨b, off, cap, e, hlt, hc j E hj⟩
/-- A row in one piece: the way of the empty ones, and the other one. -/
theorem isEns.cases_ {l : List En} {v : Value} {w : World} (h : isEns l v w) : (∃ a cap, v = .slice a l.length cap ∧ l = []) ∨ ∃ b off cap, v = .slice (some ⟨b, off, none⟩) l.length cap ∧ b < w.heap.size ∧ ∀ (j : Nat) (E : En), l[j]? = some E → EnAt w b (off + j * 9) E := by
  rcases h with ⟨rfl, rfl⟩ | ⟨a, cap, rfl, rfl⟩ | h
  · exact .inl ⟨_, _, rfl, rfl⟩
  · exact .inl ⟨_, _, rfl, rfl⟩
  · exact .inr h
theorem loadCellsO {P : Program} (b o : Nat) (w : World) (l : List Value) (h : ∀ (j : Nat) (x : Value), l[j]? = some x → w.cell? ⟨b, o + j, none⟩ = some x) : ∀ (k : Nat) (m : List Value) (acc : Array Value), l.drop k = m → (loadCellsFrom ⟨b, o, none⟩ k m.length acc).run P w = .ok (acc ++ m.toArray) w
  | k, [], acc, _ => by simp [loadCellsFrom]
  | k, v :: r, acc, hd => by
    have hk : l[k]? = some v := by have := congrArg (·[0]?) hd; simpa using this
    have hr : l.drop (k + 1) = r := by rw [← List.drop_drop, hd]; rfl
    have ea : (⟨b, o, none⟩ : Addr).add k = ⟨b, o + k, none⟩ := by
      by_cases e : k = 0
      · subst e; simp [Addr.add]
      · simp [Addr.add, e]
    rw [List.length_cons]
    unfold loadCellsFrom
    rw [Sem.run_bind, ea]
    have hl : (load ⟨b, o + k, none⟩).run P w = .ok v w := by simp [h k v hk]
    rw [hl, Result.andThen_ok, loadCellsO b o w l h (k + 1) r (acc.push v) hr]
    simp
theorem EnAt.open_ {w : World} {b o : Nat} {E : En} (h : EnAt w b o E) : ∃ vp vm, isEn E (.agg #[.string ⟨E.key.toArray⟩, .int .i64 E.val.kind, .int .i64 E.val.time, .int .i64 E.val.node, .bool E.val.dead, .string ⟨E.val.text.toArray⟩, vp, vm, .int .u64 (E.val.flags.toNat : Int)]) w ∧ isVa E.val (.agg #[.int .i64 E.val.kind, .int .i64 E.val.time, .int .i64 E.val.node, .bool E.val.dead, .string ⟨E.val.text.toArray⟩, vp, vm, .int .u64 (E.val.flags.toNat : Int)]) w ∧ w.cell? ⟨b, o, none⟩ = some (.string ⟨E.key.toArray⟩) ∧ w.cell? ⟨b, o + 1, none⟩ = some (.int .i64 E.val.kind) ∧ w.cell? ⟨b, o + 2, none⟩ = some (.int .i64 E.val.time) ∧ w.cell? ⟨b, o + 3, none⟩ = some (.int .i64 E.val.node) ∧ w.cell? ⟨b, o + 4, none⟩ = some (.bool E.val.dead) ∧ w.cell? ⟨b, o + 5, none⟩ = some (.string ⟨E.val.text.toArray⟩) ∧ w.cell? ⟨b, o + 6, none⟩ = some (vp) ∧ w.cell? ⟨b, o + 7, none⟩ = some (vm) ∧ w.cell? ⟨b, o + 8, none⟩ = some (.int .u64 (E.val.flags.toNat : Int)) := by
  obtain ⟨vp, vm, hc, hp, hm⟩ := h
  exact ⟨vp, vm, ⟨vp, vm, rfl, hp, hm⟩, ⟨vp, vm, rfl, hp, hm⟩, hc 0 _ rfl, hc 1 _ rfl, hc 2 _ rfl, hc 3 _ rfl, hc 4 _ rfl, hc 5 _ rfl, hc 6 _ rfl, hc 7 _ rfl, hc 8 _ rfl⟩
def isAr (A : Ar) : VP := fun v w => ∃ vs vi, v = .agg #[.int .i64 A.cap, vs, vi] ∧ isEns A.slots vs w ∧ isCells (A.index.map intC) vi w
theorem stable_ar (A : Ar) : Stable (isAr A) := fun v w w' ⟨vs, vi, e, hs, hi⟩ hb => ⟨vs, vi, e, stable_ens _ _ _ _ hs hb, stable_cells _ _ _ _ hi hb⟩
/-- Block g holds the arena A. -/
def VarA (w : World) (g : Nat) (A : Ar) : Prop := ∃ vs vi, CellsN w g [.int .i64 A.cap, vs, vi] ∧ isEns A.slots vs w ∧ isCells (A.index.map intC) vi w
theorem VarA.keep {w w' : World} {g : Nat} {A : Ar} (h : VarA w g A) (hb : Below w.heap.size w w') : VarA w' g A := by
  obtain ⟨vs, vi, hc, hs, hi⟩ := h
  exact ⟨vs, vi, hc.keep hb hc.1, stable_ens _ _ _ _ hs hb, stable_cells _ _ _ _ hi hb⟩
theorem VarA.lt {w : World} {g : Nat} {A : Ar} (h : VarA w g A) : g < w.heap.size := by obtain ⟨_, _, hc, _⟩ := h; exact hc.1
theorem VarA.open_ {w : World} {g : Nat} {A : Ar} (h : VarA w g A) : ∃ vs vi, isAr A (.agg #[.int .i64 A.cap, vs, vi]) w ∧ isEns A.slots vs w ∧ isCells (A.index.map intC) vi w ∧ w.cell? ⟨g, 0, none⟩ = some (.int .i64 A.cap) ∧ w.cell? ⟨g, 1, none⟩ = some vs ∧ w.cell? ⟨g, 2, none⟩ = some vi := by
  obtain ⟨vs, vi, hc, hs, hi⟩ := h
  exact ⟨vs, vi, ⟨vs, vi, rfl, hs, hi⟩, hs, hi, hc.2 0 _ rfl, hc.2 1 _ rfl, hc.2 2 _ rfl⟩
theorem size_ar : (Tryz.prog.info? 25).map (·.size) = some 3 := by kernel_rfl
theorem agg_ar (w : World) : (isAgg 25).run Tryz.prog w = .ok true w := by simp [isAgg, run_underlying Tryz.underlying25]
theorem abox (w : World) (A : Ar) (vs vi : Value) (hs : isEns A.slots vs w) (hi : isCells (A.index.map intC) vi w) (n : Nat) (hn : n = w.heap.size) :
    Kept (Below w.heap.size w (w.alloc (.cells #[.int .i64 A.cap, vs, vi] 25))) ∧ Kept (VarA (w.alloc (.cells #[.int .i64 A.cap, vs, vi] 25)) n A) := by
  subst hn
  have hb : Below w.heap.size w (w.alloc (.cells #[.int .i64 A.cap, vs, vi] 25)) := (Below.refl _ _).alloc (Nat.le_refl _) _
  exact ⟨⟨hb⟩, ⟨⟨vs, vi, cellsN_new w 25 _, stable_ens _ _ _ _ hs hb, stable_cells _ _ _ _ hi hb⟩⟩⟩
theorem anew (w : World) (A : Ar) (vs vi : Value) (hs : isEns A.slots vs w) (hi : isCells (A.index.map intC) vi w) (n : Nat) (hn : n = w.heap.size) :
    Kept (CellsN (w.alloc (.cells #[.int .i64 0, .slice none 0 0, .slice none 0 0] 25)) n [.int .i64 0, .slice none 0 0, .slice none 0 0]) ∧ Kept (Free5 (w.alloc (.cells #[.int .i64 0, .slice none 0 0, .slice none 0 0] 25)) n) ∧
    Kept (Below w.heap.size w (setN (w.alloc (.cells #[.int .i64 0, .slice none 0 0, .slice none 0 0] 25)) n 0 [.int .i64 A.cap, vs, vi])) ∧
    Kept (VarA (setN (w.alloc (.cells #[.int .i64 0, .slice none 0 0, .slice none 0 0] 25)) n 0 [.int .i64 A.cap, vs, vi]) n A) ∧ Kept (Ones [.int .i64 A.cap, vs, vi]) := by
  subst hn
  have hb := lit_below w (.cells #[.int .i64 0, .slice none 0 0, .slice none 0 0] 25)
  have hc := cellsN_new w 25 [.int .i64 0, .slice none 0 0, .slice none 0 0]
  have hb5 := below_setN (Nat.le_refl _) [.int .i64 A.cap, vs, vi] 0 _ hb
  exact ⟨⟨hc⟩, ⟨free5_new w _ _⟩, ⟨hb5⟩, ⟨⟨vs, vi, hc.setN_ _ rfl, stable_ens _ _ _ _ hs hb5, stable_cells _ _ _ _ hi hb5⟩⟩, ⟨⟨rfl, hs.one, hi.one, trivial⟩⟩⟩
structure FitA (A : Ar) : Prop where
  slots : A.slots.length ≤ 1000
  index : A.index.length ≤ 1000
  ents : ∀ e ∈ A.slots, FitE e
end Go.Proofs.YtmbnhlhanckkiaaGreat
end
section
namespace Go.Proofs.YtmbnhlhanckkiaaGreat
open Go.RowKit
set_option linter.unusedVariables false
set_option linter.unusedSimpArgs false
/-- What s0 waits for, by way of others. -/
def ancOk (ops : Array Oper) (s0 : Nat) (ups : List Nat) : Bool := ups.all fun u => decide (u < s0) && (s0 :: ups).any fun v => decide (u < v) && waits ops v u
theorem unlisted {ops : Array Oper} {s0 : Nat} {ups : List Nat} (h : ancOk ops s0 ups = true) {listed : Array Bool} (hcl : ∀ j, listed.getD j false = true → ∀ m, waits ops j m = true → listed.getD m false = true) {i : Nat} (hi : listed.getD i false = false) (hu : i = s0 ∨ i ∈ ups) : listed.getD s0 false = false := by
  cases hl : listed.getD s0 false with
  | false => rfl
  | true =>
    exfalso
    have key : ∀ d u, u + d = s0 → u ∈ ups → listed.getD u false = true := by
      intro d
      induction d using Nat.strongRecOn with
      | _ d ih =>
        intro u hu' hm
        have h1 := List.all_eq_true.1 h u hm
        rw [Bool.and_eq_true, decide_eq_true_eq, List.any_eq_true] at h1
        obtain ⟨hlt, v, hv, hw⟩ := h1
        rw [Bool.and_eq_true, decide_eq_true_eq] at hw
        rcases List.mem_cons.1 hv with rfl | hv'
        · exact hcl _ hl _ hw.2
        · have h2 := List.all_eq_true.1 h v hv'
          rw [Bool.and_eq_true, decide_eq_true_eq] at h2
          exact hcl v (ih (s0 - v) (by omega) v (by omega) hv') _ hw.2
    rcases hu with rfl | hu
    · rw [hl] at hi; cases hi
    · have h1 := List.all_eq_true.1 h i hu
      rw [Bool.and_eq_true, decide_eq_true_eq] at h1
      rw [key (s0 - i) i (by omega) hu] at hi; cases hi
section
variable (R : World → World → Prop) (s0 : Nat) (ups : List Nat) (S0 : World → Prop) (P : Program) (ops : Array Oper) (base : World) (a0 : Act) (Q : Exit → Act → World → Prop)
/-- Operation s0 finds S0, which each other one leaves; what s0 yields stays true as memory grows, what the others yield also behind s0. -/
def OStep (k0 : Nat) (kn : Nat → VP) (i : Nat) (V : VP) : Prop := ((i = s0 → Stable V) ∧ (i ≠ s0 → StableR R V)) ∧ ∀ o, ops[i]? = some o → ∀ a w, FKeptN ops k0 a0 a → R base w → (i = s0 ∨ i ∈ ups → S0 w) → RDeps ops kn i a w →
  wpOp P ops Q i (fun a' w' => ∃ v, a' = a.put o.dst v ∧ (o.dst = none → v = undef) ∧ V v w' ∧ R w w' ∧ (i ≠ s0 → Below w.heap.size w w')) a w
def OneTail (k0 c : Nat) : Nat → Nat → (Nat → VP) → Prop
  | 0, _, kn => ∀ a w, FKeptN ops k0 a0 a → R base w → (∀ j, j < k0 → RDone ops kn a w j) → Tail P ops Q c k0 a w
  | k + 1, i, kn => ∃ V, OStep R s0 ups S0 P ops base a0 Q k0 kn i V ∧ OneTail k0 c k (i + 1) (upd kn i V)
end
section
variable {R : World → World → Prop} {s0 : Nat} {ups : List Nat} {S0 : World → Prop} {P : Program} {ops : Array Oper} {base : World} {a0 : Act} {Q : Exit → Act → World → Prop}
theorem ostable {k0 : Nat} {kn : Nat → VP} {j : Nat} {V : VP} (h : OStep R s0 ups S0 P ops base a0 Q k0 kn j V) {v : Value} {w w' : World} (hv : V v w) (hr : R w w') (hb : j = s0 → Below w.heap.size w w') : V v w' := by
  by_cases e : j = s0
  · exact h.1.1 e _ _ _ hv (hb e)
  · exact h.1.2 e _ _ _ hv hr
/-- An operation that only reads, or makes memory. -/
theorem OStep.of {k0 : Nat} {kn : Nat → VP} {i : Nat} {V : VP} (hR : Pre R) (hne : i ≠ s0) (hst : StableR R V) (hd : ((ops[i]?).bind (·.dst)).isSome = true) (h : ∀ w, R base w → FStep P ops w a0 Q kn i V) : OStep R s0 ups S0 P ops base a0 Q k0 kn i V := by
  refine ⟨⟨fun e => absurd e hne, fun _ => hst⟩, fun o ho a w hk hb _ hdp => ?_⟩
  refine wpOp_mono ?_ ((h w hb).2 o ho a w hk.f (Below.refl _ _) (fun o' ho' e he hbd => rdone_f (hdp o' ho' e he hbd)))
  rintro a' w' ⟨v, e, hV, hbw⟩
  refine ⟨v, e, fun hn => ?_, hV, hR.grow _ _ hbw, fun _ => hbw⟩
  rw [ho] at hd
  simp [hn] at hd
theorem OStep.ofS {k0 : Nat} {kn : Nat → VP} {i : Nat} {V : VP} (hR : Pre R) (hne : i ≠ s0) (hu : i ∈ ups) (hst : StableR R V) (hd : ((ops[i]?).bind (·.dst)).isSome = true) (h : ∀ w, R base w → S0 w → FStep P ops w a0 Q kn i V) : OStep R s0 ups S0 P ops base a0 Q k0 kn i V := by
  refine ⟨⟨fun e => absurd e hne, fun _ => hst⟩, fun o ho a w hk hb h0 hdp => ?_⟩
  refine wpOp_mono ?_ ((h w hb (h0 (.inr hu))).2 o ho a w hk.f (Below.refl _ _) (fun o' ho' e he hbd => rdone_f (hdp o' ho' e he hbd)))
  rintro a' w' ⟨v, e, hV, hbw⟩
  refine ⟨v, e, fun hn => ?_, hV, hR.grow _ _ hbw, fun _ => hbw⟩
  rw [ho] at hd
  simp [hn] at hd
theorem oneTail_family {n k0 c : Nat} (hok : flowOk ops n = true) : ∀ k i kn, i + k = k0 → (∀ m, m < i → OStep R s0 ups S0 P ops base a0 Q k0 kn m (kn m)) → OneTail R s0 ups S0 P ops base a0 Q k0 c k i kn →
    ∃ kn', (∀ m, m < k0 → OStep R s0 ups S0 P ops base a0 Q k0 kn' m (kn' m)) ∧ OneTail R s0 ups S0 P ops base a0 Q k0 c 0 k0 kn'
  | 0, i, kn, hi, hs, hf => ⟨kn, fun m hm => hs m (by omega), hf⟩
  | k + 1, i, kn, hi, hs, ⟨V, hV, hf⟩ => by
    have agree : ∀ m, m ≠ i → upd kn i V m = kn m := fun m hm => by simp [upd, hm]
    have self : upd kn i V i = V := by simp [upd]
    have shift : ∀ m W, m ≤ i → OStep R s0 ups S0 P ops base a0 Q k0 kn m W → OStep R s0 ups S0 P ops base a0 Q k0 (upd kn i V) m W := by
      intro m W hm h
      refine ⟨h.1, fun o ho a w hk hb h0 hd => h.2 o ho a w hk hb h0 ?_⟩
      intro o' ho' e he hbd
      have hlt := (flowOk_spec hok).1 m o' ho' e he hbd
      exact rdone_congr (agree e.on (by omega)) (hd o' ho' e he hbd)
    refine oneTail_family hok k (i + 1) (upd kn i V) (by omega) (fun m hm => ?_) hf
    by_cases hmi : m = i
    · subst hmi; rw [self]; exact shift m V (Nat.le_refl _) hV
    · rw [agree m hmi]; exact shift m _ (by omega) (hs m (by omega))
theorem wpAny_oneTail {k0 : Nat} (hR : Pre R) (hA : ancOk ops s0 ups = true) (hS : ∀ w w', S0 w → Below w.heap.size w w' → S0 w') (hok : flowOk ops a0.tmps.size = true) (ht : tailOkC ops k0 = true) {kn : Nat → VP} (hs : ∀ m, m < k0 → OStep R s0 ups S0 P ops base a0 Q k0 kn m (kn m))
    (he : OneTail R s0 ups S0 P ops base a0 Q k0 (ops.size - k0) 0 k0 kn) :
    ∀ (u fuel : Nat) (listed : Array Bool) (a : Act) (w : World), listed.size = ops.size → ((List.range k0).filter fun i => !listed.getD i false).length ≤ u → u + (ops.size - k0) ≤ fuel → (∀ j, k0 ≤ j → listed.getD j false = false) → (∀ j, listed.getD j false = true → ∀ m, waits ops j m = true → listed.getD m false = true) →
      FKeptN ops k0 a0 a → R base w → (listed.getD s0 false = false → S0 w) → (∀ j, listed.getD j false = true → RDone ops kn a w j) → wpAny P .any ops Q fuel listed a w := by
  obtain ⟨ok1, ok2, ok3⟩ := flowOk_spec hok
  have hk0 : k0 ≤ ops.size := by unfold tailOkC at ht; simp only [Bool.and_eq_true, decide_eq_true_eq] at ht; exact ht.1
  have tk : ∀ j, j < ops.size → k0 < j → waits ops j (j - 1) = true := by
    intro j hj hk
    unfold tailOkC at ht
    simp only [Bool.and_eq_true, List.all_eq_true, List.mem_range] at ht
    have := ht.2 j hj
    rwa [if_neg (by omega), if_neg (by omega)] at this
  have tk0 : ∀ m, m < k0 → ∃ j, m < j ∧ j ≤ k0 ∧ waits ops j m = true := by
    intro m hk
    unfold tailOkC at ht
    simp only [Bool.and_eq_true, List.all_eq_true, List.mem_range] at ht
    have := ht.2 m (by omega)
    rw [if_pos hk, List.any_eq_true] at this
    obtain ⟨j, hj, h⟩ := this
    rw [Bool.and_eq_true, decide_eq_true_eq] at h
    exact ⟨j, h.1, by simpa [Nat.lt_succ_iff] using hj, h.2⟩
  intro u
  induction u with
  | zero =>
    intro fuel listed a w hl hu hf htl hcl hk hb hs0 hd
    have hall : ∀ j, j < k0 → listed.getD j false = true := by
      intro j hj
      have h0 : ((List.range k0).filter fun i => !listed.getD i false) = [] := List.eq_nil_of_length_eq_zero (by omega)
      rw [List.filter_eq_nil_iff] at h0
      have := h0 j (by simpa using hj)
      simpa using this
    refine wpAny_tailC hok ht (ops.size - k0) k0 fuel listed a w (by omega) (Nat.le_refl _) (by omega) hl ?_ (he a w hk hb (fun j hj => hd j (hall j hj)))
    intro j hj
    by_cases e : j < k0
    · rw [hall j e]; simp [e]
    · rw [htl j (by omega)]; simp [e]
  | succ u ih =>
    intro fuel listed a w hl hu hf htl hcl hk hb hs0 hd
    by_cases hall : ∀ j, j < k0 → listed.getD j false = true
    · refine wpAny_tailC hok ht (ops.size - k0) k0 fuel listed a w (by omega) (Nat.le_refl _) (by omega) hl ?_ (he a w hk hb (fun j hj => hd j (hall j hj)))
      intro j hj
      by_cases e : j < k0
      · rw [hall j e]; simp [e]
      · rw [htl j (by omega)]; simp [e]
    · -- the least that is not yet done
      have hex : ∃ m, m < k0 ∧ listed.getD m false = false ∧ ∀ j, j < m → listed.getD j false = true := by
        have key : ∀ n, n ≤ k0 → (∀ j, j < n → listed.getD j false = true) ∨ ∃ m, m < n ∧ listed.getD m false = false ∧ ∀ j, j < m → listed.getD j false = true := by
          intro n
          induction n with
          | zero => intro _; exact .inl (fun j hj => absurd hj (by omega))
          | succ n ihn =>
            intro hn
            rcases ihn (by omega) with h | ⟨m, hm, h1, h2⟩
            · cases hc : listed.getD n false with
              | true => exact .inl (fun j hj => by by_cases e : j = n; exact e ▸ hc; exact h j (by omega))
              | false => exact .inr ⟨n, by omega, hc, h⟩
            · exact .inr ⟨m, by omega, h1, h2⟩
        rcases key k0 (Nat.le_refl _) with h | h
        · exact absurd h hall
        · exact h
      obtain ⟨m, hm, hmu, hmd⟩ := hex
      have hmem : m ∈ Region.ready .any ops listed := ready_of hok hl (by omega) hmu hmd
      cases fuel with
      | zero => omega
      | succ fuel =>
        refine ⟨fun hr => (by rw [hr] at hmem; cases hmem), fun i hi => ?_⟩
        have hiu := ready_un hl hi
        have hik : i < k0 := by
          by_cases e : i < k0
          · exact e
          · exfalso
            by_cases e2 : i = k0
            · subst e2
              have cov : ∀ d m, m + d = i → 0 < d → listed.getD m false = true := by
                intro d
                induction d using Nat.strongRecOn with
                | _ d ihd =>
                  intro m' hm' hd'
                  obtain ⟨j, h1, h2, h3⟩ := tk0 m' (by omega)
                  by_cases e3 : j = i
                  · rw [e3] at h3; exact waits_ready hi h3
                  · exact hcl j (ihd (i - j) (by omega) j (by omega) (by omega)) m' h3
              have := cov (i - m) m (by omega) (by omega)
              rw [hmu] at this
              cases this
            · have := waits_ready hi (tk i hiu.1 (by omega))
              rw [htl (i - 1) (by omega)] at this
              cases this
        obtain ⟨o, ho⟩ : ∃ o, ops[i]? = some o := ⟨_, Array.getElem?_eq_getElem hiu.1⟩
        have hstep := (hs i hik).2 o ho a w hk hb (fun e => hs0 (unlisted hA hcl hiu.2 e)) (by
          intro o' ho' e he' hbd
          rw [ho] at ho'
          cases ho'
          refine hd e.on (waits_ready hi ?_)
          unfold waits
          rw [ho]
          simp only [Option.any_some, List.any_eq_true, Bool.and_eq_true, beq_iff_eq]
          exact ⟨e, he', rfl, hbd⟩)
        refine wpOp_mono ?_ hstep
        rintro a' w' ⟨v, rfl, hvn, hV, hbw, hbl⟩
        refine ih fuel (listed.setIfInBounds i true) _ w' (by simpa using hl) ?_ (by omega) ?_ ?_ ?_ (hR.trans _ _ _ hb hbw) (fun hf' => hS _ _ (hs0 (by by_cases e : s0 = i; (· rw [e, getD_set_same (by omega)] at hf'; cases hf'); (· rwa [getD_set_ne e] at hf'))) (hbl (fun e => by rw [← e, getD_set_same (by omega)] at hf'; cases hf'))) ?_
        · have hsub : ((List.range k0).filter fun j => !(listed.setIfInBounds i true).getD j false).length < ((List.range k0).filter fun j => !listed.getD j false).length := by
            have e1 : ((List.range k0).filter fun j => !(listed.setIfInBounds i true).getD j false) = ((List.range k0).filter fun j => !listed.getD j false).filter (fun j => j != i) := by
              rw [List.filter_filter]
              apply List.filter_congr
              intro j hj
              by_cases e : j = i
              · subst e; rw [getD_set_same (by omega)]; simp
              · rw [getD_set_ne e]; simp [e]
            rw [e1]
            refine List.length_filter_lt_length_iff_exists.2 ⟨i, ?_, by simp⟩
            simp only [List.mem_filter, List.mem_range]
            exact ⟨hik, by rw [hiu.2]; rfl⟩
          omega
        · intro j hj
          rw [getD_set_ne (by omega)]
          exact htl j hj
        · intro j hj m' hm'
          by_cases e4 : m' = i
          · subst e4; exact getD_set_same (by omega)
          · rw [getD_set_ne e4]
            by_cases e5 : j = i
            · subst e5; exact waits_ready hi hm'
            · rw [getD_set_ne e5] at hj; exact hcl j hj m' hm'
        · refine ⟨by rw [defers_put]; exact hk.1, by rw [size_put]; exact hk.2.1, fun t ht' => ?_⟩
          cases hdst : o.dst with
          | none => simp only [Act.put]; exact hk.2.2 t ht'
          | some s =>
            have : s ≠ t := by
              rintro rfl
              have := List.all_eq_true.1 ht' i (by simpa using hik)
              rw [ho] at this
              simp [hdst] at this
            rw [getD_put (fun h => this h.symm)]
            exact hk.2.2 t ht'
        · intro j hj o' ho'
          by_cases e : j = i
          · subst e
            rw [ho] at ho'
            cases ho'
            cases hdst : o.dst with
            | none => rw [hvn hdst] at hV; exact hV
            | some t =>
              show kn j (_) w'
              simp only []
              rw [getD_put_self (by rw [hk.2.1]; exact ok3 j o t ho hdst)]
              exact hV
          · rw [getD_set_ne e] at hj
            have hold := hd j hj o' ho'
            have hjk : j < k0 := by
              by_cases e2 : j < k0
              · exact e2
              · rw [htl j (by omega)] at hj; cases hj
            refine ostable (hs j hjk) ?_ hbw (fun e' => hbl (fun h => e (e'.trans h.symm)))
            cases hdst' : o'.dst with
            | none => rw [hdst'] at hold; exact hold
            | some t =>
              rw [hdst'] at hold
              have hne : o.dst ≠ some t := fun hh => e (ok2 j i o' o t ho' ho hdst' hh)
              have hslot : (a.put o.dst v).tmps.getD t undef = a.tmps.getD t undef := by
                cases hdst : o.dst with
                | none => rfl
                | some s => exact getD_put (fun h => hne (by rw [hdst, h]))
              simp only [hslot]
              exact hold

theorem wp_region_one (hR : Pre R) (s0 : Nat) (ups : List Nat) (S0 : World → Prop) (hA : ancOk ops s0 ups = true) (hS : ∀ w w', S0 w → Below w.heap.size w w' → S0 w') (hSd : ∀ w, S0 w → S0 w.drew) (k0 : Nat) {id : Nat} {a : Act} {w : World} (hm : P.follows .mixedOrders = true) (hok : flowOk ops a.tmps.size = true) (ht : tailOkC ops k0 = true)
    (h0 : S0 w) (h : OneTail R s0 ups S0 P ops w a Q k0 (ops.size - k0) k0 0 (fun _ _ _ => False)) : (Code.region id ops true).wp P Q a w := by
  refine wp_region_any hm ?_
  obtain ⟨kn, hs, he⟩ := oneTail_family hok k0 0 _ (by omega) (fun m hm => absurd hm (by omega)) h
  have hk0 : k0 ≤ ops.size := by unfold tailOkC at ht; simp only [Bool.and_eq_true, decide_eq_true_eq] at ht; exact ht.1
  refine wpAny_oneTail hR hA hS hok ht hs he k0 ops.size _ a _ (by simp) ?_ (by omega) ?_ ?_ ⟨rfl, rfl, fun _ _ => rfl⟩ (hR.drew w) (fun _ => hSd _ h0) ?_
  · exact Nat.le_trans (List.length_filter_le _ _) (by simp)
  · intro j hj
    simp [Array.getD_eq_getD_getElem?, Array.getElem?_replicate]
    split <;> rfl
  · intro j hj
    simp [Array.getD_eq_getD_getElem?, Array.getElem?_replicate] at hj
    split at hj <;> simp at hj
  · intro j hj
    simp [Array.getD_eq_getD_getElem?, Array.getElem?_replicate] at hj
    split at hj <;> simp at hj
end
end Go.Proofs.YtmbnhlhanckkiaaGreat
end
section
namespace Go.Proofs.YtmbnhlhanckkiaaGreat
open Go.RowKit
set_option linter.unusedVariables false
set_option linter.unusedSimpArgs false

theorem f_ch_0_0 (g : Nat) (w : World) : (Instr.fieldAt 84 (.pointer (some ⟨g, 0, none⟩)) 0).run Tryz.prog w = .ok (.pointer (some ⟨g, 0, none⟩)) w := by simp [Instr.fieldAt, run_underlying Tryz.underlying84, Instr.sureAddr, fieldPlace, Addr.add]
theorem f_ar_0_0 (g : Nat) (w : World) : (Instr.fieldAt 25 (.pointer (some ⟨g, 0, none⟩)) 0).run Tryz.prog w = .ok (.pointer (some ⟨g, 0, none⟩)) w := by simp [Instr.fieldAt, run_underlying Tryz.underlying25, Instr.sureAddr, fieldPlace, Addr.add]
theorem f_ar_0_1 (g : Nat) (w : World) : (Instr.fieldAt 25 (.pointer (some ⟨g, 0, none⟩)) 1).run Tryz.prog w = .ok (.pointer (some ⟨g, 1, none⟩)) w := by simp [Instr.fieldAt, run_underlying Tryz.underlying25, Instr.sureAddr, fieldPlace, Addr.add]
theorem f_ar_0_2 (g : Nat) (w : World) : (Instr.fieldAt 25 (.pointer (some ⟨g, 0, none⟩)) 2).run Tryz.prog w = .ok (.pointer (some ⟨g, 2, none⟩)) w := by simp [Instr.fieldAt, run_underlying Tryz.underlying25, Instr.sureAddr, fieldPlace, Addr.add]
theorem f_en_0_1 (g : Nat) (w : World) : (Instr.fieldAt 42 (.pointer (some ⟨g, 0, none⟩)) 1).run Tryz.prog w = .ok (.pointer (some ⟨g, 1, none⟩)) w := by simp [Instr.fieldAt, run_underlying Tryz.underlying42, Instr.sureAddr, fieldPlace, Addr.add]
theorem f_va_1_5 (g : Nat) (w : World) : (Instr.fieldAt 40 (.pointer (some ⟨g, 1, none⟩)) 5).run Tryz.prog w = .ok (.pointer (some ⟨g, 6, none⟩)) w := by simp [Instr.fieldAt, run_underlying Tryz.underlying40, Instr.sureAddr, fieldPlace, Addr.add]
theorem f_va_1_6 (g : Nat) (w : World) : (Instr.fieldAt 40 (.pointer (some ⟨g, 1, none⟩)) 6).run Tryz.prog w = .ok (.pointer (some ⟨g, 7, none⟩)) w := by simp [Instr.fieldAt, run_underlying Tryz.underlying40, Instr.sureAddr, fieldPlace, Addr.add]
theorem agg_noS (w : World) : (isAgg 22).run Tryz.prog w = .ok false w := by simp [isAgg, run_underlying Tryz.underlying22]
theorem agg_noI (w : World) : (isAgg 23).run Tryz.prog w = .ok false w := by simp [isAgg, run_underlying Tryz.underlying23]
theorem agg_noZ (w : World) : (isAgg 3).run Tryz.prog w = .ok false w := by simp [isAgg, run_underlying Tryz.underlying3]
theorem agg_noT (w : World) : (isAgg 9).run Tryz.prog w = .ok false w := by simp [isAgg, run_underlying Tryz.underlying9]
section
variable {P : Program} {ops : Array Oper} {base : World} {a0 : Act} {Q : Exit → Act → World → Prop} {kn : Nat → VP} {i : Nat} {V : VP}
theorem step_nilA (x : Operand) (p : Addr) (hop : (ops[i]?).map (·.op) = some (.nilCheck x)) (hw : Wanted ops a0 kn i) (hx : Knows ops a0 kn i x (isVal (.pointer (some p)))) : FStep P ops base a0 Q kn i (isVal (.pointer (some p))) :=
  step_pure _ hop hw fun o a w ho hk' hd => by
    have e1 : a.eval x = _ := hx a w hk' hd
    unfold execOp
    rw [ho]
    simp only [e1]
    simp
/-- A place in a row of entries. -/
theorem step_placeE (t e : TypeId) (x y : Operand) (b off n cap k at_ : Nat) (hop : (ops[i]?).map (·.op) = some (.indexAddr t x y)) (hw : Wanted ops a0 kn i) (hx : Knows ops a0 kn i x (isVal (.slice (some ⟨b, off, none⟩) n cap))) (hy : Knows ops a0 kn i y (isVal (.int .i64 (k : Int))))
    (ht : P.underlying t = some (.slice e)) (hi : (P.info? e).map (·.size) = some 9) (hk : k < n ∧ at_ = off + k * 9) : FStep P ops base a0 Q kn i (isVal (.pointer (some ⟨b, at_, none⟩))) :=
  step_pure _ hop hw fun o a w ho hk' hd => by
    have e1 : a.eval x = _ := hx a w hk' hd
    have e2 : a.eval y = _ := hy a w hk' hd
    obtain ⟨ie, hie, hz⟩ := Option.map_eq_some_iff.1 hi
    have hsz : (sizeOf e).run P w = .ok 9 w := by simp [sizeOf, typeInfo, hie, hz]
    unfold execOp
    rw [ho]
    simp only [e1, e2, Sem.run_bind]
    simp [Instr.indexAt, run_underlying ht, asIntOf, hsz, hk.1, Addr.add, hk.2]
    try (intro h0; subst h0; rfl)
/-- A struct out of the middle of a block. -/
theorem step_loadA (t : TypeId) (x : Operand) (g o : Nat) (l : List Value) (hop : (ops[i]?).map (·.op) = some (.load t x)) (hw : Wanted ops a0 kn i) (hx : Knows ops a0 kn i x (isVal (.pointer (some ⟨g, o, none⟩))))
    (hs : (P.info? t).map (·.size) = some l.length) (ha : ∀ w, (isAgg t).run P w = .ok true w) (hc : g < base.heap.size ∧ ∀ (j : Nat) (x : Value), l[j]? = some x → base.cell? ⟨g, o + j, none⟩ = some x) : FStep P ops base a0 Q kn i (isVal (.agg l.toArray)) :=
  step_mk (stable_val _) hw fun op ho a w hk hb hd => by
    have e1 : a.eval x = .pointer (some ⟨g, o, none⟩) := hx a w hk hd
    have hc' : ∀ (j : Nat) (x : Value), l[j]? = some x → w.cell? ⟨g, o + j, none⟩ = some x := fun j x hx => (hb.cell (p := ⟨g, o + j, none⟩) hc.1).trans (hc.2 j x hx)
    obtain ⟨ie, hie, hz⟩ := Option.map_eq_some_iff.1 hs
    have hsz : (sizeOf t).run P w = .ok l.length w := by simp [sizeOf, typeInfo, hie, hz]
    have hl := loadCellsO (P := P) g o w l hc' 0 l #[] rfl
    have e2 : (loadVar t ⟨g, o, none⟩).run P w = .ok (.agg l.toArray) w := by
      simp only [loadVar, Sem.run_bind, ha, Result.andThen_ok, if_true, hsz, loadCells, hl, Sem.run_pure]
      simp
    unfold Oper.wp execOp
    rw [op_of hop ho]
    simp only [e1, Instr.loadAt, Instr.sureAddr, Sem.run_bind, Sem.run_pure, Result.andThen_ok, e2, Oper.upon]
    exact ⟨_, rfl, rfl, Below.refl _ _⟩
end
/-- All is as it was, but for block s. -/
structure But (s : Nat) (w w' : World) : Prop where
  os : w'.os = w.os
  tape : w'.tape = w.tape
  output : w'.output = w.output
  size : w.heap.size ≤ w'.heap.size
  block : ∀ b, b < w.heap.size → b ≠ s → w'.heap[b]? = w.heap[b]?
theorem but_pre (s : Nat) : Pre (But s) where
  refl w := ⟨rfl, rfl, rfl, Nat.le_refl _, fun _ _ _ => rfl⟩
  trans a b c h1 h2 := ⟨h2.os.trans h1.os, h2.tape.trans h1.tape, h2.output.trans h1.output, Nat.le_trans h1.size h2.size, fun i hi hne => (h2.block i (Nat.lt_of_lt_of_le hi h1.size) hne).trans (h1.block i hi hne)⟩
  grow w w' h := ⟨h.os, h.tape, h.output, h.size, fun b hb _ => h.block b hb⟩
  drew w := ⟨rfl, rfl, rfl, Nat.le_refl _, fun _ _ _ => rfl⟩
theorem But.cell {s : Nat} {w w' : World} (h : But s w w') {p : Addr} (hlt : p.block < w.heap.size) (hne : p.block ≠ s) : w'.cell? p = w.cell? p := World.cell?_of_block (w := w) (h.block p.block hlt hne)
theorem But.frozen {s : Nat} {w w' : World} (h : But s w w') {p : Addr} (hlt : p.block < w.heap.size) (hne : p.block ≠ s) : w'.frozen? p = w.frozen? p := World.frozen?_of_block (w := w) (h.block p.block hlt hne)
theorem But.below {s B : Nat} {w w' : World} (h : But s w w') (hB : B ≤ s) (hs : B ≤ w.heap.size) : Below B w w' := ⟨h.os, h.tape, h.output, h.size, fun b hb => h.block b (by omega) (by omega)⟩
theorem But.own {s B : Nat} {w w' : World} {e : TypeId} {size : Nat} {v : Value} {n : Nat} {xs : List Value} (h : But s w w') (ho : w.ownsRow B e size v n xs) (hne : ∀ g, v.ownBlock = some g → g ≠ s) : w'.ownsRow B e size v n xs := by
  obtain ⟨hl, h1 | ⟨g, cap, cur, hv, hB, hg, rest⟩⟩ := ho
  · exact ⟨hl, .inl h1⟩
  · exact ⟨hl, .inr ⟨g, cap, cur, hv, hB, (h.block g (Array.getElem?_eq_some_iff.1 hg).1 (hne g (by rw [hv]; rfl))).trans hg, rest⟩⟩
theorem But.cells {s : Nat} {w w' : World} {cs : List Value} {v : Value} (h : But s w w') (hc : isCells cs v w) (hne : cs = [] ∨ blk v ≠ some s) : isCells cs v w' := by
  rcases hc with hc | hc | ⟨b, off, cap, e, hlt, hc⟩
  · exact .inl hc
  · exact .inr (.inl hc)
  rcases hne with rfl | hne
  · exact .inr (.inl ⟨_, _, e, rfl⟩)
  · exact .inr (.inr ⟨b, off, cap, e, Nat.lt_of_lt_of_le hlt h.size, fun j x hx => (h.cell (p := ⟨b, off + j, none⟩) hlt (by rintro rfl; apply hne; rw [e]; rfl)).trans (hc j x hx)⟩)
theorem off_size {cs : List Value} {v : Value} {w : World} (hc : isCells cs v w) {s : Nat} (hs : w.heap.size ≤ s) : cs = [] ∨ blk v ≠ some s := by
  rcases hc with hc | ⟨_, _, _, hc⟩ | ⟨b, off, cap, e, hlt, hc⟩
  · exact .inl hc.2
  · exact .inl hc
  · refine .inr ?_
    rw [e]; intro h; injection h with h; have : b = s := h; omega
theorem But.blk {s g : Nat} {w w' : World} {cs : List Value} (h : But s w w') (hb : Blk w g cs) (hne : g ≠ s) : Blk w' g cs :=
  ⟨⟨Nat.lt_of_lt_of_le hb.lt h.size, fun j x hx => (h.cell (p := ⟨g, j, none⟩) hb.lt hne).trans (hb.cells.2 j x hx)⟩, fun j => (h.frozen (p := ⟨g, j, none⟩) hb.lt hne).trans (hb.free j)⟩
theorem stabR_val' (R : World → World → Prop) (v : Value) : StableR R (isVal v) := fun _ _ _ h _ => h
end Go.Proofs.YtmbnhlhanckkiaaGreat
end
section
namespace Go.Proofs.YtmbnhlhanckkiaaGreat
open Go.RowKit
set_option linter.unusedVariables false
set_option linter.unusedSimpArgs false
attribute [local irreducible] setN

theorem ownR {s B : Nat} {e : TypeId} (h : s < B) (cs : List Value) : StableR (But s) (isOwn B e cs) := fun v w w' ho hb => hb.own ho (fun g hg => by
  obtain ⟨_, ⟨rfl, _⟩ | ⟨g', cap, cur, rfl, hB, _⟩⟩ := ho
  · simp [Value.ownBlock] at hg
  · simp [Value.ownBlock] at hg; omega)
theorem own_new {B : Nat} {e : TypeId} {cs : List Value} {v : Value} {w : World} (h : isOwn B e cs v w) : NewB B v := by
  obtain ⟨_, ⟨rfl, _⟩ | ⟨g', cap, cur, rfl, hB, _⟩⟩ := h
  · exact newB_nil _
  · exact newB_row hB _ _ _
section
variable {P : Program} {ops : Array Oper} {base : World} {a0 : Act} {Q : Exit → Act → World → Prop} {k0 : Nat} {kn : Nat → VP} {i : Nat} {ups : List Nat}
/-- A row of one's own laid into a struct's cell. -/
theorem ostep_row {t : TypeId} (e : TypeId) (g k B : Nat) (cs : List Value) (l : List Value) (x y : Operand) (hop : (ops[i]?).map (fun o => (o.op, o.guard, o.dst)) = some (.store t x y, none, none)) (hx : Knows ops a0 kn i x (isVal (.pointer (some ⟨g, k, none⟩)))) (hy : Knows ops a0 kn i y (isOwn B e cs))
    (hs : (P.info? t).map (·.size) = some 1) (hk : k < l.length) (hg : g < B) : OStep (But g) i ups (fun w => Blk w g l) P ops base a0 Q k0 kn i (fun _ w => ∃ v, isOwn B e cs v w ∧ Blk w g (l.set k v)) := by
  refine ⟨⟨fun _ => ?_, fun h => absurd rfl h⟩, fun o ho a w hk0 hb h0 hd => ?_⟩
  · rintro u w w' ⟨v, h1, h2⟩ hb
    exact ⟨v, stable_own _ _ _ _ _ _ h1 hb, h2.keep hb⟩
  · have hkf := hk0.f
    have HB := h0 (.inl rfl)
    rw [ho] at hop
    simp only [Option.map_some, Option.some.injEq, Prod.mk.injEq] at hop
    obtain ⟨ho1, ho2, ho3⟩ := hop
    have hd' : FDeps ops kn i a w := fun o' ho' e he hbd => rdone_f (hd o' ho' e he hbd)
    have e1 : a.eval x = _ := hx a w hkf hd'
    have e2 : isOwn B e cs (a.eval y) w := hy a w hkf hd'
    generalize hev : a.eval y = v at e2
    unfold wpOp
    simp only [ho]
    rw [show Region.wanted o (yielded ops a.tmps) = true by simp [Region.wanted, ho2]]
    refine .inl ?_
    have hone := e2.one
    obtain ⟨old, hc⟩ : ∃ old, w.cell? ⟨g, k, none⟩ = some old := ⟨_, HB.cells.2 k _ (List.getElem?_eq_getElem hk)⟩
    obtain ⟨ie, hie, hz⟩ := Option.map_eq_some_iff.1 hs
    have hsz : (sizeOf t).run P w = .ok 1 w := by simp [sizeOf, typeInfo, hie, hz]
    have hf := HB.free k
    have hst : (storeCells ⟨g, k, none⟩ [v]).run P w = .ok () (w.setCell ⟨g, k, none⟩ v) := by
      unfold storeCells
      rw [Sem.run_bind, show (⟨g, k, none⟩ : Addr).add 0 = ⟨g, k, none⟩ by simp [Addr.add], run_store P w _ v _ hone.2, hc]
      simp [hf, storeCells]
    unfold Oper.wp execOp
    rw [ho1]
    simp only [e1, hev, Instr.storeAt, Instr.sureAddr, Sem.run_bind, Sem.run_pure, Result.andThen_ok, storeVar, hsz, hone.1]
    rw [if_neg (by simp), hst]
    simp only [Result.andThen_ok, Oper.upon]
    exact ⟨undef, rfl, fun _ => rfl, ⟨v, e2.set (p := ⟨g, k, none⟩) hg v, HB.set k v hk⟩, ⟨rfl, rfl, rfl, by simp, fun b _ hne => Below.heap_setCell w ⟨g, k, none⟩ v b hne⟩, fun h => absurd rfl h⟩
end
noncomputable def twinOps : Array Oper := regionOf Tryz.f59 1
set_option maxRecDepth 100000 in
set_option maxHeartbeats 2000000 in
theorem twin_region (Q : Exit → Act → World → Prop) (a0 : Act) (w0 : World) (hsz : a0.tmps.size = 16) (g B : Nat) (E : En) (vp vm : Value) (h1 : a0.tmps.getD 1 undef = .pointer (some ⟨g, 0, none⟩)) (HB : Blk w0 g [.string ⟨E.key.toArray⟩, .int .i64 E.val.kind, .int .i64 E.val.time, .int .i64 E.val.node, .bool E.val.dead, .string ⟨E.val.text.toArray⟩, vp, vm, .int .u64 (E.val.flags.toNat : Int)]) (hp : isCells (E.val.plus.map intC) vp w0) (hm : isCells (E.val.minus.map intC) vm w0)
    (op : E.val.plus.map intC = [] ∨ blk vp ≠ some g) (om : E.val.minus.map intC = [] ∨ blk vm ≠ some g) (lp : E.val.plus.length * 8 ≤ 140737488355328) (lm : E.val.minus.length * 8 ≤ 140737488355328) (hB : B ≤ w0.heap.size) (hg : g < B)
    (hQ : ∀ (y : Nat → Value) (vp' vm' : Value) (w : World), isOwn B 3 (E.val.plus.map intC) vp' w → isOwn B 3 (E.val.minus.map intC) vm' w → Blk w g [.string ⟨E.key.toArray⟩, .int .i64 E.val.kind, .int .i64 E.val.time, .int .i64 E.val.node, .bool E.val.dead, .string ⟨E.val.text.toArray⟩, vp', vm', .int .u64 (E.val.flags.toNat : Int)] → But g w0 w → Q .normal { tmps := [3, 4, 5, 6, 7, 8, 9, 10, 11, 12, 13, 14].foldl (fun t s => t.setIfInBounds s (y s)) a0.tmps, defers := a0.defers } w) :
    (Code.region 1 twinOps true).wp Tryz.prog Q a0 w0 := by
  have hR := but_pre g
  refine wp_region_one hR 10 [0, 1, 2, 3, 4, 5, 6, 7, 8, 9] (fun w => Blk w g [.string ⟨E.key.toArray⟩, .int .i64 E.val.kind, .int .i64 E.val.time, .int .i64 E.val.node, .bool E.val.dead, .string ⟨E.val.text.toArray⟩, vp, vm, .int .u64 (E.val.flags.toNat : Int)]) (by kernel_rfl) (fun _ _ h hb => h.keep hb) (fun _ h => h.keep ((Below.refl _ _).drew)) 13 mixed (by rw [hsz]; kernel_rfl) (by kernel_rfl) HB ?_
  rw [show twinOps.size - 13 = 1 by kernel_rfl]
  refine ⟨isVal (.pointer (some ⟨g, 1, none⟩)), OStep.ofS hR (by decide) (by decide) (stabR_val' _ _) (by kernel_rfl) (by intro w hr hS; exact step_field 42 (.tmp 1) 1 ⟨g, 0, none⟩ ⟨g, 1, none⟩ (by kernel_rfl) (wanted_none (by kernel_rfl)) (knows_old 1 (.pointer (some ⟨g, 0, none⟩)) (by kernel_rfl) h1) (f_en_0_1 (g))), ?_⟩
  refine ⟨isVal (.pointer (some ⟨g, 6, none⟩)), OStep.ofS hR (by decide) (by decide) (stabR_val' _ _) (by kernel_rfl) (by intro w hr hS; exact step_field 40 (.tmp 3) 5 ⟨g, 1, none⟩ ⟨g, 6, none⟩ (by kernel_rfl) (wanted_none (by kernel_rfl)) (knows_new (V := isVal (.pointer (some ⟨g, 1, none⟩))) 3 0 (by kernel_rfl) (by kernel_rfl) (by kernel_rfl)) (f_va_1_5 (g))), ?_⟩
  refine ⟨isVal vp, OStep.ofS hR (by decide) (by decide) (stabR_val' _ _) (by kernel_rfl) (by intro w hr hS; exact step_read 23 (.tmp 4) ⟨g, 6, none⟩ vp (by kernel_rfl) (wanted_none (by kernel_rfl)) (knows_new (V := isVal (.pointer (some ⟨g, 6, none⟩))) 4 1 (by kernel_rfl) (by kernel_rfl) (by kernel_rfl)) (hS.cells.2 6 _ rfl) (hS.lt) (agg_noI)), ?_⟩
  refine ⟨(isOwn B 3 (E.val.plus.map intC)), OStep.ofS hR (by decide) (by decide) (ownR (by omega) _) (by kernel_rfl) (by intro w hr hS; exact step_call 108 #[.tmp 5] #[23] #[vp] (by kernel_rfl) (wanted_none (by kernel_rfl)) (stable_own _ _ _) (args1 (.tmp 5) vp (knows_new (V := isVal vp) 5 2 (by kernel_rfl) (by kernel_rfl) (by kernel_rfl))) (enters_of Tryz.func108 (by kernel_rfl) rfl) (by intro w' hb; exact clone_i' B E.val.plus vp w' (stable_cells _ _ _ _ (hr.cells hp op) hb) lp (Nat.le_trans hB (Nat.le_trans hr.size hb.size)))), ?_⟩
  refine ⟨isVal (.pointer (some ⟨g, 1, none⟩)), OStep.ofS hR (by decide) (by decide) (stabR_val' _ _) (by kernel_rfl) (by intro w hr hS; exact step_field 42 (.tmp 1) 1 ⟨g, 0, none⟩ ⟨g, 1, none⟩ (by kernel_rfl) (wanted_none (by kernel_rfl)) (knows_old 1 (.pointer (some ⟨g, 0, none⟩)) (by kernel_rfl) h1) (f_en_0_1 (g))), ?_⟩
  refine ⟨isVal (.pointer (some ⟨g, 7, none⟩)), OStep.ofS hR (by decide) (by decide) (stabR_val' _ _) (by kernel_rfl) (by intro w hr hS; exact step_field 40 (.tmp 7) 6 ⟨g, 1, none⟩ ⟨g, 7, none⟩ (by kernel_rfl) (wanted_none (by kernel_rfl)) (knows_new (V := isVal (.pointer (some ⟨g, 1, none⟩))) 7 4 (by kernel_rfl) (by kernel_rfl) (by kernel_rfl)) (f_va_1_6 (g))), ?_⟩
  refine ⟨isVal vm, OStep.ofS hR (by decide) (by decide) (stabR_val' _ _) (by kernel_rfl) (by intro w hr hS; exact step_read 23 (.tmp 8) ⟨g, 7, none⟩ vm (by kernel_rfl) (wanted_none (by kernel_rfl)) (knows_new (V := isVal (.pointer (some ⟨g, 7, none⟩))) 8 5 (by kernel_rfl) (by kernel_rfl) (by kernel_rfl)) (hS.cells.2 7 _ rfl) (hS.lt) (agg_noI)), ?_⟩
  refine ⟨(isOwn B 3 (E.val.minus.map intC)), OStep.ofS hR (by decide) (by decide) (ownR (by omega) _) (by kernel_rfl) (by intro w hr hS; exact step_call 108 #[.tmp 9] #[23] #[vm] (by kernel_rfl) (wanted_none (by kernel_rfl)) (stable_own _ _ _) (args1 (.tmp 9) vm (knows_new (V := isVal vm) 9 6 (by kernel_rfl) (by kernel_rfl) (by kernel_rfl))) (enters_of Tryz.func108 (by kernel_rfl) rfl) (by intro w' hb; exact clone_i' B E.val.minus vm w' (stable_cells _ _ _ _ (hr.cells hm om) hb) lm (Nat.le_trans hB (Nat.le_trans hr.size hb.size)))), ?_⟩
  refine ⟨isVal (.pointer (some ⟨g, 1, none⟩)), OStep.ofS hR (by decide) (by decide) (stabR_val' _ _) (by kernel_rfl) (by intro w hr hS; exact step_field 42 (.tmp 1) 1 ⟨g, 0, none⟩ ⟨g, 1, none⟩ (by kernel_rfl) (wanted_none (by kernel_rfl)) (knows_old 1 (.pointer (some ⟨g, 0, none⟩)) (by kernel_rfl) h1) (f_en_0_1 (g))), ?_⟩
  refine ⟨isVal (.pointer (some ⟨g, 6, none⟩)), OStep.ofS hR (by decide) (by decide) (stabR_val' _ _) (by kernel_rfl) (by intro w hr hS; exact step_field 40 (.tmp 11) 5 ⟨g, 1, none⟩ ⟨g, 6, none⟩ (by kernel_rfl) (wanted_none (by kernel_rfl)) (knows_new (V := isVal (.pointer (some ⟨g, 1, none⟩))) 11 8 (by kernel_rfl) (by kernel_rfl) (by kernel_rfl)) (f_va_1_5 (g))), ?_⟩
  refine ⟨(fun _ w => ∃ vp', isOwn B 3 (E.val.plus.map intC) vp' w ∧ Blk w g [.string ⟨E.key.toArray⟩, .int .i64 E.val.kind, .int .i64 E.val.time, .int .i64 E.val.node, .bool E.val.dead, .string ⟨E.val.text.toArray⟩, vp', vm, .int .u64 (E.val.flags.toNat : Int)]), ostep_row (t := 23) 3 g 6 B (E.val.plus.map intC) [.string ⟨E.key.toArray⟩, .int .i64 E.val.kind, .int .i64 E.val.time, .int .i64 E.val.node, .bool E.val.dead, .string ⟨E.val.text.toArray⟩, vp, vm, .int .u64 (E.val.flags.toNat : Int)] (.tmp 12) (.tmp 6) (by kernel_rfl) (knows_new (V := isVal (.pointer (some ⟨g, 6, none⟩))) 12 9 (by kernel_rfl) (by kernel_rfl) (by kernel_rfl)) (knows_new (V := (isOwn B 3 (E.val.plus.map intC))) 6 3 (by kernel_rfl) (by kernel_rfl) (by kernel_rfl)) (by kernel_rfl) (by simp) (by omega), ?_⟩
  refine ⟨isVal (.pointer (some ⟨g, 1, none⟩)), OStep.of hR (by decide) (stabR_val' _ _) (by kernel_rfl) (by intro w hr; exact step_field 42 (.tmp 1) 1 ⟨g, 0, none⟩ ⟨g, 1, none⟩ (by kernel_rfl) (wanted_none (by kernel_rfl)) (knows_old 1 (.pointer (some ⟨g, 0, none⟩)) (by kernel_rfl) h1) (f_en_0_1 (g))), ?_⟩
  refine ⟨isVal (.pointer (some ⟨g, 7, none⟩)), OStep.of hR (by decide) (stabR_val' _ _) (by kernel_rfl) (by intro w hr; exact step_field 40 (.tmp 13) 6 ⟨g, 1, none⟩ ⟨g, 7, none⟩ (by kernel_rfl) (wanted_none (by kernel_rfl)) (knows_new (V := isVal (.pointer (some ⟨g, 1, none⟩))) 13 11 (by kernel_rfl) (by kernel_rfl) (by kernel_rfl)) (f_va_1_6 (g))), ?_⟩
  intro a w hk0 hb hd
  have d10 : ∃ vp', isOwn B 3 (E.val.plus.map intC) vp' w ∧ Blk w g ([.string ⟨E.key.toArray⟩, .int .i64 E.val.kind, .int .i64 E.val.time, .int .i64 E.val.node, .bool E.val.dead, .string ⟨E.val.text.toArray⟩, vp, vm, .int .u64 (E.val.flags.toNat : Int)].set 6 vp') := by
    have := hd 10 (by decide)
    obtain ⟨o, ho⟩ : ∃ o, twinOps[10]? = some o := ⟨_, rfl⟩
    exact this o ho
  obtain ⟨vp', hop', HB'⟩ := d10
  have d10' := fdone_of (rdone_f (hd 7 (by decide))) (t := 10) (V := isOwn B 3 (E.val.minus.map intC)) (by kernel_rfl) (by kernel_rfl)
  have d14 := fdone_of (rdone_f (hd 12 (by decide))) (t := 14) (V := isVal (.pointer (some ⟨g, 7, none⟩))) (by kernel_rfl) (by kernel_rfl)
  generalize hv : a.tmps.getD 10 undef = vm' at d10'
  refine tail_store 23 (.tmp 14) (.tmp 10) ⟨g, 7, none⟩ vm' vm (by kernel_rfl) (by kernel_rfl) d14 hv (by kernel_rfl) d10'.one.1 d10'.one.2 (HB'.cells.2 7 _ rfl) (HB'.free 7) ?_
  obtain ⟨y, ey⟩ := kept_ex hk0.f [some 3, some 4, some 5, some 6, some 7, some 8, some 9, some 10, some 11, some 12, none, some 13, some 14, none] [3, 4, 5, 6, 7, 8, 9, 10, 11, 12, 13, 14] (by kernel_rfl) (by decide)
  rw [ey]
  exact hQ y vp' vm' _ (hop'.set (p := ⟨g, 7, none⟩) hg vm') (d10'.set (p := ⟨g, 7, none⟩) hg vm') (HB'.set 7 vm' (by simp)) (hR.trans _ _ _ hb ⟨rfl, rfl, rfl, by simp, fun b _ hne => Below.heap_setCell w ⟨g, 7, none⟩ vm' b hne⟩)
set_option maxRecDepth 100000 in
set_option maxHeartbeats 2000000 in
theorem twin_any (E : En) (v : Value) (w : World) (hv : isEn E v w) (hF : FitE E) : Calls Tryz.prog 59 #[v] w fun e w' => ∃ v', e = .returned v' ∧ isEnN w.heap.size E v' w' ∧ Below w.heap.size w w' := by
  obtain ⟨vp, vm, rfl, hp, hm⟩ := hv
  have op := off_size hp (Nat.le_refl _)
  have om := off_size hm (Nat.le_refl _)
  have hb1 : Below w.heap.size w ((w.alloc (.cells #[.string ⟨E.key.toArray⟩, .int .i64 E.val.kind, .int .i64 E.val.time, .int .i64 E.val.node, .bool E.val.dead, .string ⟨E.val.text.toArray⟩, vp, vm, .int .u64 (E.val.flags.toNat : Int)] 42)).alloc (.cells #[.string ⟨#[]⟩, .int .i64 0, .int .i64 0, .int .i64 0, .bool false, .string ⟨#[]⟩, .slice none 0 0, .slice none 0 0, .int .u64 0] 42)) := ((Below.refl _ w).alloc (Nat.le_refl _) _).alloc (by simp) _
  have HB : Blk ((w.alloc (.cells #[.string ⟨E.key.toArray⟩, .int .i64 E.val.kind, .int .i64 E.val.time, .int .i64 E.val.node, .bool E.val.dead, .string ⟨E.val.text.toArray⟩, vp, vm, .int .u64 (E.val.flags.toNat : Int)] 42)).alloc (.cells #[.string ⟨#[]⟩, .int .i64 0, .int .i64 0, .int .i64 0, .bool false, .string ⟨#[]⟩, .slice none 0 0, .slice none 0 0, .int .u64 0] 42)) w.heap.size [.string ⟨E.key.toArray⟩, .int .i64 E.val.kind, .int .i64 E.val.time, .int .i64 E.val.node, .bool E.val.dead, .string ⟨E.val.text.toArray⟩, vp, vm, .int .u64 (E.val.flags.toNat : Int)] := (Blk.new w 42 _ _ rfl).alloc _
  have HR : Blk ((w.alloc (.cells #[.string ⟨E.key.toArray⟩, .int .i64 E.val.kind, .int .i64 E.val.time, .int .i64 E.val.node, .bool E.val.dead, .string ⟨E.val.text.toArray⟩, vp, vm, .int .u64 (E.val.flags.toNat : Int)] 42)).alloc (.cells #[.string ⟨#[]⟩, .int .i64 0, .int .i64 0, .int .i64 0, .bool false, .string ⟨#[]⟩, .slice none 0 0, .slice none 0 0, .int .u64 0] 42)) (w.heap.size + 1) [.string ⟨#[]⟩, .int .i64 0, .int .i64 0, .int .i64 0, .bool false, .string ⟨#[]⟩, .slice none 0 0, .slice none 0 0, .int .u64 0] := Blk.new (w.alloc (.cells #[.string ⟨E.key.toArray⟩, .int .i64 E.val.kind, .int .i64 E.val.time, .int .i64 E.val.node, .bool E.val.dead, .string ⟨E.val.text.toArray⟩, vp, vm, .int .u64 (E.val.flags.toNat : Int)] 42)) 42 _ _ (by simp)
  have hs : ((w.alloc (.cells #[.string ⟨E.key.toArray⟩, .int .i64 E.val.kind, .int .i64 E.val.time, .int .i64 E.val.node, .bool E.val.dead, .string ⟨E.val.text.toArray⟩, vp, vm, .int .u64 (E.val.flags.toNat : Int)] 42)).alloc (.cells #[.string ⟨#[]⟩, .int .i64 0, .int .i64 0, .int .i64 0, .bool false, .string ⟨#[]⟩, .slice none 0 0, .slice none 0 0, .int .u64 0] 42)).heap.size = w.heap.size + 2 := by simp
  have hp1 := stable_cells _ _ _ _ hp hb1
  have hm1 := stable_cells _ _ _ _ hm hb1
  have lp := hF.val.plus
  have lm := hF.val.minus
  go_enter Tryz.func59, Tryz.ntmps59
  go_wp2_with fail
  generalize ((w.alloc (.cells #[.string ⟨E.key.toArray⟩, .int .i64 E.val.kind, .int .i64 E.val.time, .int .i64 E.val.node, .bool E.val.dead, .string ⟨E.val.text.toArray⟩, vp, vm, .int .u64 (E.val.flags.toNat : Int)] 42)).alloc (.cells #[.string ⟨#[]⟩, .int .i64 0, .int .i64 0, .int .i64 0, .bool false, .string ⟨#[]⟩, .slice none 0 0, .slice none 0 0, .int .u64 0] 42)) = W0 at *
  refine twin_region _ _ _ rfl w.heap.size (w.heap.size + 2) E vp vm rfl HB hp1 hm1 op om (by omega) (by omega) (by omega) (by omega) ?_
  intro y vp' vm' W hop hom HB' hbut
  simp only [List.foldl_cons, List.foldl_nil]
  generalize y 3 = z3
  generalize y 4 = z4
  generalize y 5 = z5
  generalize y 6 = z6
  generalize y 7 = z7
  generalize y 8 = z8
  generalize y 9 = z9
  generalize y 10 = z10
  generalize y 11 = z11
  generalize y 12 = z12
  generalize y 13 = z13
  generalize y 14 = z14
  simp only [List.setIfInBounds_toArray, List.set_cons_succ, List.set_cons_zero]
  have HR' := hbut.blk HR (by omega)
  have HO : Kept (Ones [.string ⟨E.key.toArray⟩, .int .i64 E.val.kind, .int .i64 E.val.time, .int .i64 E.val.node, .bool E.val.dead, .string ⟨E.val.text.toArray⟩, vp', vm', .int .u64 (E.val.flags.toNat : Int)]) := ⟨⟨rfl, rfl, rfl, rfl, rfl, rfl, hop.one.2, hom.one.2, rfl, trivial⟩⟩
  have KB : Kept (Below w.heap.size w W) := ⟨hb1.trans (hbut.below (Nat.le_refl _) (by omega))⟩
  have KR := Kept.mk HR'
  have KP := Kept.mk hop
  have KM := Kept.mk hom
  have kx0 := HB'.cells.2 0 _ rfl
  have kx1 := HB'.cells.2 1 _ rfl
  have kx2 := HB'.cells.2 2 _ rfl
  have kx3 := HB'.cells.2 3 _ rfl
  have kx4 := HB'.cells.2 4 _ rfl
  have kx5 := HB'.cells.2 5 _ rfl
  have kx6 := HB'.cells.2 6 _ rfl
  have kx7 := HB'.cells.2 7 _ rfl
  have kx8 := HB'.cells.2 8 _ rfl
  clear HB HR hb1 hp hm hp1 hm1 op om hop hom HB' hbut HR'
  go_wp2_with (have hz0 := HO; refine wpList_storeN 42 rfl (.tmp 2) (.tmp 15) rfl (w.heap.size + 1) [.string ⟨E.key.toArray⟩, .int .i64 E.val.kind, .int .i64 E.val.time, .int .i64 E.val.node, .bool E.val.dead, .string ⟨E.val.text.toArray⟩, vp', vm', .int .u64 (E.val.flags.toNat : Int)] size_en rfl rfl KR.out.cells rfl KR.out.free HO.out ?_; clear hz0 HO)
  have hR2 := (KR.out.all_ (l := [.string ⟨E.key.toArray⟩, .int .i64 E.val.kind, .int .i64 E.val.time, .int .i64 E.val.node, .bool E.val.dead, .string ⟨E.val.text.toArray⟩, vp', vm', .int .u64 (E.val.flags.toNat : Int)]) rfl).cells
  exact bodyPost_ret (resultsN1 rfl _ _ (w.heap.size + 1) _ size_en agg_en rfl hR2) rfl ⟨_, rfl, ⟨vp', vm', rfl, (KP.out.setN_ (by omega) _ 0 _).cells, (KM.out.setN_ (by omega) _ 0 _).cells, (own_new KP.out).low (by omega), (own_new KM.out).low (by omega)⟩, below_setN (by omega) _ 0 _ KB.out⟩
end Go.Proofs.YtmbnhlhanckkiaaGreat
end
