/- Contract of counter.only. -/
import Derived.Test.YtebjljiklacolaaVaKinds3
namespace Go.Proofs.Ytebjljiklacolaa
open Go.RowKit
set_option linter.unusedVariables false
set_option linter.unusedSimpArgs false
attribute [local irreducible] setN

theorem own_slice {B : Nat} {e : TypeId} {cs : List Value} {v : Value} {w : World} (h : isOwn B e cs v w) : NewB B v ∧ ∃ a n c, v = .slice a n c := by
  obtain ⟨hl, ⟨rfl, _⟩ | ⟨g, cap, cur, rfl, hB, _⟩⟩ := h
  · exact ⟨newB_nil B, _, _, _, rfl⟩
  · exact ⟨newB_row hB _ _ _, _, _, _, rfl⟩
theorem built_count (a a2 : Option Addr) (n c n2 c2 : Nat) : Try.prog.built 25 [(0, .int .i64 2), (5, .slice a n c), (6, .slice a2 n2 c2)] = some #[.int .i64 2, .int .i64 0, .int .i64 0, .bool false, .string ⟨#[]⟩, .slice a n c, .slice a2 n2 c2, .int .u64 0] := by kernel_rfl
/-- A counter put together of two new rows. -/
def isCnt (B : Nat) (l m : List Value) : VP := fun v w => ∃ p' m', v = .agg #[.int .i64 2, .int .i64 0, .int .i64 0, .bool false, .string ⟨#[]⟩, p', m', .int .u64 0] ∧ isOwn B 3 l p' w ∧ isOwn B 3 m m' w
theorem stable_cnt (B : Nat) (l m : List Value) : Stable (isCnt B l m) := fun v w w' ⟨p', m', e, h1, h2⟩ hb => ⟨p', m', e, stable_own _ _ _ _ _ _ h1 hb, stable_own _ _ _ _ _ _ h2 hb⟩
theorem cnt_built {B : Nat} {l m : List Value} {u v : Value} {w : World} (h1 : isOwn B 3 l u w) (h2 : isOwn B 3 m v w) : ∃ cs, Try.prog.built 25 [(0, .int .i64 2), (5, u), (6, v)] = some cs ∧ isCnt B l m (.agg cs) w := by
  obtain ⟨_, a1, n1, c1, rfl⟩ := own_slice h1
  obtain ⟨_, a2, n2, c2, rfl⟩ := own_slice h2
  exact ⟨_, built_count _ _ _ _ _ _, _, _, rfl, h1, h2⟩
noncomputable def conlyOps : Array Oper := regionOf Try.f94 1
set_option maxRecDepth 100000 in
set_option maxHeartbeats 1000000 in
theorem conly_region (Q : Exit → Act → World → Prop) (a0 : Act) (w0 : World) (hsz : a0.tmps.size = 12) (A : Va) (g r : Nat) (vp vm : Value) (e3 : a0.tmps.getD 3 undef = .pointer (some ⟨g, 0, none⟩)) (e4 : a0.tmps.getD 4 undef = .pointer (some ⟨r, 0, none⟩)) (hc : CellsN w0 g [.int .i64 A.kind, .int .i64 A.time, .int .i64 A.node, .bool A.dead, .string ⟨A.text.toArray⟩, vp, vm, .int .u64 (A.flags.toNat : Int)]) (hr : CellsN w0 r [.int .i64 0, .int .i64 0, .int .i64 0, .bool false, .string ⟨#[]⟩, .slice none 0 0, .slice none 0 0, .int .u64 0]) (hf : Free5 w0 r)
    (hp : isCells (A.plus.map intC) vp w0) (hm : isCells (A.minus.map intC) vm w0) (hp1 : A.plus.length * 8 ≤ 140737488355328) (hm1 : A.minus.length * 8 ≤ 140737488355328)
    (hQ : ∀ (a : Act) (w1 : World) (p' m' : Value), a.defers = a0.defers → a.tmps.getD 4 undef = .pointer (some ⟨r, 0, none⟩) → Below w0.heap.size w0 w1 → isOwn w0.heap.size 3 (A.plus.map intC) p' w1 → isOwn w0.heap.size 3 (A.minus.map intC) m' w1 → Q .normal a (setN w1 r 0 [.int .i64 2, .int .i64 0, .int .i64 0, .bool false, .string ⟨#[]⟩, p', m', .int .u64 0])) :
    (Code.region 1 conlyOps true).wp Try.prog Q a0 w0 := by
  refine wp_region_tail 7 mixed (by rw [hsz]; kernel_rfl) (by kernel_rfl) ?_
  rw [show conlyOps.size - 7 = 1 by kernel_rfl]
  refine ⟨isVal (.pointer (some ⟨g, 5, none⟩)), step_field 25 (.tmp 3) 5 ⟨g, 0, none⟩ ⟨g, 5, none⟩ (by kernel_rfl) (wanted_none (by kernel_rfl)) (knows_old 3 (.pointer (some ⟨g, 0, none⟩)) (by kernel_rfl) e3) (field_va g 5 (by omega)), ?_⟩
  refine ⟨isVal vp, step_read 22 (.tmp 5) ⟨g, 5, none⟩ vp (by kernel_rfl) (wanted_none (by kernel_rfl)) (knows_new (V := isVal (.pointer (some ⟨g, 5, none⟩))) 5 0 (by kernel_rfl) (by kernel_rfl) (by kernel_rfl)) (hc.2 5 _ rfl) hc.1 agg_ints, ?_⟩
  refine ⟨(isOwn w0.heap.size 3 (A.plus.map intC)), step_call 100 #[.tmp 6] #[22] #[vp] (by kernel_rfl) (wanted_none (by kernel_rfl)) (stable_own _ _ _) (args1 (.tmp 6) vp (knows_new (V := isVal vp) 6 1 (by kernel_rfl) (by kernel_rfl) (by kernel_rfl))) (enters_of Try.func100 (by kernel_rfl) rfl) (by intro w hb; exact clone_i' w0.heap.size A.plus vp w (stable_cells _ _ _ _ hp hb) hp1 hb.size), ?_⟩
  refine ⟨isVal (.pointer (some ⟨g, 6, none⟩)), step_field 25 (.tmp 3) 6 ⟨g, 0, none⟩ ⟨g, 6, none⟩ (by kernel_rfl) (wanted_none (by kernel_rfl)) (knows_old 3 (.pointer (some ⟨g, 0, none⟩)) (by kernel_rfl) e3) (field_va g 6 (by omega)), ?_⟩
  refine ⟨isVal vm, step_read 22 (.tmp 8) ⟨g, 6, none⟩ vm (by kernel_rfl) (wanted_none (by kernel_rfl)) (knows_new (V := isVal (.pointer (some ⟨g, 6, none⟩))) 8 3 (by kernel_rfl) (by kernel_rfl) (by kernel_rfl)) (hc.2 6 _ rfl) hc.1 agg_ints, ?_⟩
  refine ⟨(isOwn w0.heap.size 3 (A.minus.map intC)), step_call 100 #[.tmp 9] #[22] #[vm] (by kernel_rfl) (wanted_none (by kernel_rfl)) (stable_own _ _ _) (args1 (.tmp 9) vm (knows_new (V := isVal vm) 9 4 (by kernel_rfl) (by kernel_rfl) (by kernel_rfl))) (enters_of Try.func100 (by kernel_rfl) rfl) (by intro w hb; exact clone_i' w0.heap.size A.minus vm w (stable_cells _ _ _ _ hm hb) hm1 hb.size), ?_⟩
  refine ⟨isCnt w0.heap.size (A.plus.map intC) (A.minus.map intC), step_buildP 25 #[(0, .const (.int .i64 2)), (5, .tmp 7), (6, .tmp 10)] (by kernel_rfl) (wanted_none (by kernel_rfl)) (stable_cnt _ _ _) (by
    intro a w hk hd
    have h1 := knows_new (ops := conlyOps) (a0 := a0) (V := isOwn w0.heap.size 3 (A.plus.map intC)) 7 2 (by kernel_rfl) (by kernel_rfl) (by kernel_rfl) a w hk hd
    have h2 := knows_new (ops := conlyOps) (a0 := a0) (V := isOwn w0.heap.size 3 (A.minus.map intC)) 10 5 (by kernel_rfl) (by kernel_rfl) (by kernel_rfl) a w hk hd
    have e0 : a.eval (.const (.int .i64 2)) = .int .i64 2 := rfl
    simpa [e0] using cnt_built h1 h2), ?_⟩
  intro a w hk hb hd
  obtain ⟨p', m', d11, o1, o2⟩ := fdone_of (hd 6 (by decide)) (t := 11) (V := isCnt w0.heap.size (A.plus.map intC) (A.minus.map intC)) (by kernel_rfl) (by kernel_rfl)
  have e4' : a.tmps.getD 4 undef = .pointer (some ⟨r, 0, none⟩) := (hk.2.2 4 (by kernel_rfl)).trans e4
  refine tail_storeN 25 (.tmp 4) (.tmp 11) r [.int .i64 2, .int .i64 0, .int .i64 0, .bool false, .string ⟨#[]⟩, p', m', .int .u64 0] _ (by kernel_rfl) (by kernel_rfl) size_va e4' d11 (hr.keep hb hr.1) rfl (hf.keep hb hr.1) ⟨rfl, rfl, rfl, rfl, rfl, o1.one.2, o2.one.2, rfl, trivial⟩ ?_
  exact hQ _ w _ _ hk.1 e4' hb o1 o2
set_option maxRecDepth 20000 in
set_option maxHeartbeats 1000000 in
theorem countOnly_any (A : Va) (v : Value) (w : World) (hv : isVa A v w) (hp1 : A.plus.length ≤ 1000000000) (hm1 : A.minus.length ≤ 1000000000) :
    Calls Try.prog 94 #[.agg #[], v] w fun e w' => ∃ v', e = .returned v' ∧ isVaN w.heap.size (onlyCount A) v' w' ∧ Below w.heap.size w w' := by
  obtain ⟨vp, vm, rfl, hp, hm⟩ := hv
  have hB0 := lit_below w (.cells #[] 86)
  obtain ⟨hB1, hV⟩ := vbox _ A vp vm (stable_cells _ _ _ _ hp hB0) (stable_cells _ _ _ _ hm hB0) (w.heap.size + 1) (by simp)
  have hB := Kept.mk (hB0.trans (hB1.out.mono hB0.size))
  have hB3 := lit_below ((w.alloc (.cells #[] 86)).alloc (.cells #[.int .i64 A.kind, .int .i64 A.time, .int .i64 A.node, .bool A.dead, .string ⟨A.text.toArray⟩, vp, vm, .int .u64 (A.flags.toNat : Int)] 25)) (.cells #[.int .i64 0, .int .i64 0, .int .i64 0, .bool false, .string ⟨#[]⟩, .slice none 0 0, .slice none 0 0, .int .u64 0] 25)
  have HC := Kept.mk ((cellsN_at (w.alloc (.cells #[] 86)) 25 [.int .i64 A.kind, .int .i64 A.time, .int .i64 A.node, .bool A.dead, .string ⟨A.text.toArray⟩, vp, vm, .int .u64 (A.flags.toNat : Int)] (w.heap.size + 1) (by simp)).keep hB3 (by simp))
  have HZ := Kept.mk (cellsN_at ((w.alloc (.cells #[] 86)).alloc (.cells #[.int .i64 A.kind, .int .i64 A.time, .int .i64 A.node, .bool A.dead, .string ⟨A.text.toArray⟩, vp, vm, .int .u64 (A.flags.toNat : Int)] 25)) 25 [.int .i64 0, .int .i64 0, .int .i64 0, .bool false, .string ⟨#[]⟩, .slice none 0 0, .slice none 0 0, .int .u64 0] (w.heap.size + 2) (by simp))
  have HF := Kept.mk (free5_at ((w.alloc (.cells #[] 86)).alloc (.cells #[.int .i64 A.kind, .int .i64 A.time, .int .i64 A.node, .bool A.dead, .string ⟨A.text.toArray⟩, vp, vm, .int .u64 (A.flags.toNat : Int)] 25)) #[.int .i64 0, .int .i64 0, .int .i64 0, .bool false, .string ⟨#[]⟩, .slice none 0 0, .slice none 0 0, .int .u64 0] 25 (w.heap.size + 2) (by simp))
  have hS : Kept (w.heap.size + 3 = (((w.alloc (.cells #[] 86)).alloc (.cells #[.int .i64 A.kind, .int .i64 A.time, .int .i64 A.node, .bool A.dead, .string ⟨A.text.toArray⟩, vp, vm, .int .u64 (A.flags.toNat : Int)] 25)).alloc (.cells #[.int .i64 0, .int .i64 0, .int .i64 0, .bool false, .string ⟨#[]⟩, .slice none 0 0, .slice none 0 0, .int .u64 0] 25)).heap.size) := ⟨by simp⟩
  replace hB := Kept.mk (hB.out.trans (hB3.mono hB.out.size))
  have HP := Kept.mk (stable_cells _ _ _ _ hp hB.out)
  have HM := Kept.mk (stable_cells _ _ _ _ hm hB.out)
  clear hp hm hB0 hB1 hV hB3
  go_enter Try.func94, Try.ntmps94
  go_wp2_with fail
  generalize ((w.alloc (.cells #[] 86)).alloc (.cells #[.int .i64 A.kind, .int .i64 A.time, .int .i64 A.node, .bool A.dead, .string ⟨A.text.toArray⟩, vp, vm, .int .u64 (A.flags.toNat : Int)] 25)).alloc (.cells #[.int .i64 0, .int .i64 0, .int .i64 0, .bool false, .string ⟨#[]⟩, .slice none 0 0, .slice none 0 0, .int .u64 0] 25) = W0 at *
  refine conly_region _ _ _ rfl A (w.heap.size + 1) (w.heap.size + 2) vp vm rfl rfl HC.out HZ.out HF.out HP.out HM.out (by omega) (by omega) ?_
  intro a w1 p' m' hd h4 hb1 o1 o2
  have hs := hS.out
  have hZ1 := HZ.out.keep hb1 HZ.out.1
  obtain ⟨np, _⟩ := own_slice o1
  obtain ⟨nm, _⟩ := own_slice o2
  obtain ⟨hBK, K4, K5⟩ := vset (onlyCount A) p' m' (g := w.heap.size + 2) (by omega) (hB.out.trans (hb1.mono hB.out.size)) hZ1 rfl o1.cells o2.cells (np.ne (by omega)) (nm.ne (by omega))
  obtain ⟨hc', hp', hm'⟩ := K4.out
  replace np := np.low (B' := w.heap.size) (by omega)
  replace nm := nm.low (B' := w.heap.size) (by omega)
  go_wp2
  exact bodyPost_ret (resultsN1 rfl _ _ (w.heap.size + 2) _ size_va agg_va h4 hc') hd ⟨_, rfl, ⟨_, _, rfl, hp', hm', np, nm⟩, hBK.out⟩
end Go.Proofs.Ytebjljiklacolaa
