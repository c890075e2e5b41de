/- Joined texts: contracts of the program's functions, and the mathematics that they lean on. -/
import Derived.Test.YtebjljiklacolaaGreatPartB
section
namespace Go.Proofs.YtebjljiklacolaaGreat
open Go.RowKit
set_option linter.unusedVariables false
set_option linter.unusedSimpArgs false
attribute [local irreducible] setN

theorem own_slice {B : Nat} {e : TypeId} {cs : List Value} {v : Value} {w : World} (h : isOwn B e cs v w) : NewB B v ∧ ∃ a n c, v = .slice a n c := by
  obtain ⟨hl, ⟨rfl, _⟩ | ⟨g, cap, cur, rfl, hB, _⟩⟩ := h
  · exact ⟨newB_nil B, _, _, _, rfl⟩
  · exact ⟨newB_row hB _ _ _, _, _, _, rfl⟩
theorem built_count (a a2 : Option Addr) (n c n2 c2 : Nat) : Tryz.prog.built 25 [(0, .int .i64 2), (5, .slice a n c), (6, .slice a2 n2 c2)] = some #[.int .i64 2, .int .i64 0, .int .i64 0, .bool false, .string ⟨#[]⟩, .slice a n c, .slice a2 n2 c2, .int .u64 0] := by kernel_rfl
/-- A counter put together of two new rows. -/
def isCnt (B : Nat) (l m : List Value) : VP := fun v w => ∃ p' m', v = .agg #[.int .i64 2, .int .i64 0, .int .i64 0, .bool false, .string ⟨#[]⟩, p', m', .int .u64 0] ∧ isOwn B 3 l p' w ∧ isOwn B 3 m m' w
theorem stable_cnt (B : Nat) (l m : List Value) : Stable (isCnt B l m) := fun v w w' ⟨p', m', e, h1, h2⟩ hb => ⟨p', m', e, stable_own _ _ _ _ _ _ h1 hb, stable_own _ _ _ _ _ _ h2 hb⟩
theorem cnt_built {B : Nat} {l m : List Value} {u v : Value} {w : World} (h1 : isOwn B 3 l u w) (h2 : isOwn B 3 m v w) : ∃ cs, Tryz.prog.built 25 [(0, .int .i64 2), (5, u), (6, v)] = some cs ∧ isCnt B l m (.agg cs) w := by
  obtain ⟨_, a1, n1, c1, rfl⟩ := own_slice h1
  obtain ⟨_, a2, n2, c2, rfl⟩ := own_slice h2
  exact ⟨_, built_count _ _ _ _ _ _, _, _, rfl, h1, h2⟩
noncomputable def conlyOps : Array Oper := regionOf Tryz.f119 1
set_option maxRecDepth 100000 in
set_option maxHeartbeats 1000000 in
theorem conly_region (Q : Exit → Act → World → Prop) (a0 : Act) (w0 : World) (hsz : a0.tmps.size = 12) (A : Va) (g r : Nat) (vp vm : Value) (e3 : a0.tmps.getD 3 undef = .pointer (some ⟨g, 0, none⟩)) (e4 : a0.tmps.getD 4 undef = .pointer (some ⟨r, 0, none⟩)) (hc : CellsN w0 g [.int .i64 A.kind, .int .i64 A.time, .int .i64 A.node, .bool A.dead, .string ⟨A.text.toArray⟩, vp, vm, .int .u64 (A.flags.toNat : Int)]) (hr : CellsN w0 r [.int .i64 0, .int .i64 0, .int .i64 0, .bool false, .string ⟨#[]⟩, .slice none 0 0, .slice none 0 0, .int .u64 0]) (hf : Free5 w0 r)
    (hp : isCells (A.plus.map intC) vp w0) (hm : isCells (A.minus.map intC) vm w0) (hp1 : A.plus.length * 8 ≤ 140737488355328) (hm1 : A.minus.length * 8 ≤ 140737488355328)
    (hQ : ∀ (a : Act) (w1 : World) (p' m' : Value), a.defers = a0.defers → a.tmps.getD 4 undef = .pointer (some ⟨r, 0, none⟩) → Below w0.heap.size w0 w1 → isOwn w0.heap.size 3 (A.plus.map intC) p' w1 → isOwn w0.heap.size 3 (A.minus.map intC) m' w1 → Q .normal a (setN w1 r 0 [.int .i64 2, .int .i64 0, .int .i64 0, .bool false, .string ⟨#[]⟩, p', m', .int .u64 0])) :
    (Code.region 1 conlyOps true).wp Tryz.prog Q a0 w0 := by
  refine wp_region_tail 7 mixed (by rw [hsz]; kernel_rfl) (by kernel_rfl) ?_
  rw [show conlyOps.size - 7 = 1 by kernel_rfl]
  refine ⟨isVal (.pointer (some ⟨g, 5, none⟩)), step_field 25 (.tmp 3) 5 ⟨g, 0, none⟩ ⟨g, 5, none⟩ (by kernel_rfl) (wanted_none (by kernel_rfl)) (knows_old 3 (.pointer (some ⟨g, 0, none⟩)) (by kernel_rfl) e3) (field_va g 5 (by omega)), ?_⟩
  refine ⟨isVal vp, step_read 22 (.tmp 5) ⟨g, 5, none⟩ vp (by kernel_rfl) (wanted_none (by kernel_rfl)) (knows_new (V := isVal (.pointer (some ⟨g, 5, none⟩))) 5 0 (by kernel_rfl) (by kernel_rfl) (by kernel_rfl)) (hc.2 5 _ rfl) hc.1 agg_ints, ?_⟩
  refine ⟨(isOwn w0.heap.size 3 (A.plus.map intC)), step_call 125 #[.tmp 6] #[22] #[vp] (by kernel_rfl) (wanted_none (by kernel_rfl)) (stable_own _ _ _) (args1 (.tmp 6) vp (knows_new (V := isVal vp) 6 1 (by kernel_rfl) (by kernel_rfl) (by kernel_rfl))) (enters_of Tryz.func125 (by kernel_rfl) rfl) (by intro w hb; exact clone_i' w0.heap.size A.plus vp w (stable_cells _ _ _ _ hp hb) hp1 hb.size), ?_⟩
  refine ⟨isVal (.pointer (some ⟨g, 6, none⟩)), step_field 25 (.tmp 3) 6 ⟨g, 0, none⟩ ⟨g, 6, none⟩ (by kernel_rfl) (wanted_none (by kernel_rfl)) (knows_old 3 (.pointer (some ⟨g, 0, none⟩)) (by kernel_rfl) e3) (field_va g 6 (by omega)), ?_⟩
  refine ⟨isVal vm, step_read 22 (.tmp 8) ⟨g, 6, none⟩ vm (by kernel_rfl) (wanted_none (by kernel_rfl)) (knows_new (V := isVal (.pointer (some ⟨g, 6, none⟩))) 8 3 (by kernel_rfl) (by kernel_rfl) (by kernel_rfl)) (hc.2 6 _ rfl) hc.1 agg_ints, ?_⟩
  refine ⟨(isOwn w0.heap.size 3 (A.minus.map intC)), step_call 125 #[.tmp 9] #[22] #[vm] (by kernel_rfl) (wanted_none (by kernel_rfl)) (stable_own _ _ _) (args1 (.tmp 9) vm (knows_new (V := isVal vm) 9 4 (by kernel_rfl) (by kernel_rfl) (by kernel_rfl))) (enters_of Tryz.func125 (by kernel_rfl) rfl) (by intro w hb; exact clone_i' w0.heap.size A.minus vm w (stable_cells _ _ _ _ hm hb) hm1 hb.size), ?_⟩
  refine ⟨isCnt w0.heap.size (A.plus.map intC) (A.minus.map intC), step_buildP 25 #[(0, .const (.int .i64 2)), (5, .tmp 7), (6, .tmp 10)] (by kernel_rfl) (wanted_none (by kernel_rfl)) (stable_cnt _ _ _) (by
    intro a w hk hd
    have h1 := knows_new (ops := conlyOps) (a0 := a0) (V := isOwn w0.heap.size 3 (A.plus.map intC)) 7 2 (by kernel_rfl) (by kernel_rfl) (by kernel_rfl) a w hk hd
    have h2 := knows_new (ops := conlyOps) (a0 := a0) (V := isOwn w0.heap.size 3 (A.minus.map intC)) 10 5 (by kernel_rfl) (by kernel_rfl) (by kernel_rfl) a w hk hd
    have e0 : a.eval (.const (.int .i64 2)) = .int .i64 2 := rfl
    simpa [e0] using cnt_built h1 h2), ?_⟩
  intro a w hk hb hd
  obtain ⟨p', m', d11, o1, o2⟩ := fdone_of (hd 6 (by decide)) (t := 11) (V := isCnt w0.heap.size (A.plus.map intC) (A.minus.map intC)) (by kernel_rfl) (by kernel_rfl)
  have e4' : a.tmps.getD 4 undef = .pointer (some ⟨r, 0, none⟩) := (hk.2.2 4 (by kernel_rfl)).trans e4
  refine tail_storeN 25 (.tmp 4) (.tmp 11) r [.int .i64 2, .int .i64 0, .int .i64 0, .bool false, .string ⟨#[]⟩, p', m', .int .u64 0] _ (by kernel_rfl) (by kernel_rfl) size_va e4' d11 (hr.keep hb hr.1) rfl (hf.keep hb hr.1) ⟨rfl, rfl, rfl, rfl, rfl, o1.one.2, o2.one.2, rfl, trivial⟩ ?_
  exact hQ _ w _ _ hk.1 e4' hb o1 o2
set_option maxRecDepth 20000 in
set_option maxHeartbeats 1000000 in
theorem countOnly_any (A : Va) (v : Value) (w : World) (hv : isVa A v w) (hp1 : A.plus.length ≤ 1000000000) (hm1 : A.minus.length ≤ 1000000000) :
    Calls Tryz.prog 119 #[.agg #[], v] w fun e w' => ∃ v', e = .returned v' ∧ isVaN w.heap.size (onlyCount A) v' w' ∧ Below w.heap.size w w' := by
  obtain ⟨vp, vm, rfl, hp, hm⟩ := hv
  have hB0 := lit_below w (.cells #[] 103)
  obtain ⟨hB1, hV⟩ := vbox _ A vp vm (stable_cells _ _ _ _ hp hB0) (stable_cells _ _ _ _ hm hB0) (w.heap.size + 1) (by simp)
  have hB := Kept.mk (hB0.trans (hB1.out.mono hB0.size))
  have hB3 := lit_below ((w.alloc (.cells #[] 103)).alloc (.cells #[.int .i64 A.kind, .int .i64 A.time, .int .i64 A.node, .bool A.dead, .string ⟨A.text.toArray⟩, vp, vm, .int .u64 (A.flags.toNat : Int)] 25)) (.cells #[.int .i64 0, .int .i64 0, .int .i64 0, .bool false, .string ⟨#[]⟩, .slice none 0 0, .slice none 0 0, .int .u64 0] 25)
  have HC := Kept.mk ((cellsN_at (w.alloc (.cells #[] 103)) 25 [.int .i64 A.kind, .int .i64 A.time, .int .i64 A.node, .bool A.dead, .string ⟨A.text.toArray⟩, vp, vm, .int .u64 (A.flags.toNat : Int)] (w.heap.size + 1) (by simp)).keep hB3 (by simp))
  have HZ := Kept.mk (cellsN_at ((w.alloc (.cells #[] 103)).alloc (.cells #[.int .i64 A.kind, .int .i64 A.time, .int .i64 A.node, .bool A.dead, .string ⟨A.text.toArray⟩, vp, vm, .int .u64 (A.flags.toNat : Int)] 25)) 25 [.int .i64 0, .int .i64 0, .int .i64 0, .bool false, .string ⟨#[]⟩, .slice none 0 0, .slice none 0 0, .int .u64 0] (w.heap.size + 2) (by simp))
  have HF := Kept.mk (free5_at ((w.alloc (.cells #[] 103)).alloc (.cells #[.int .i64 A.kind, .int .i64 A.time, .int .i64 A.node, .bool A.dead, .string ⟨A.text.toArray⟩, vp, vm, .int .u64 (A.flags.toNat : Int)] 25)) #[.int .i64 0, .int .i64 0, .int .i64 0, .bool false, .string ⟨#[]⟩, .slice none 0 0, .slice none 0 0, .int .u64 0] 25 (w.heap.size + 2) (by simp))
  have hS : Kept (w.heap.size + 3 = (((w.alloc (.cells #[] 103)).alloc (.cells #[.int .i64 A.kind, .int .i64 A.time, .int .i64 A.node, .bool A.dead, .string ⟨A.text.toArray⟩, vp, vm, .int .u64 (A.flags.toNat : Int)] 25)).alloc (.cells #[.int .i64 0, .int .i64 0, .int .i64 0, .bool false, .string ⟨#[]⟩, .slice none 0 0, .slice none 0 0, .int .u64 0] 25)).heap.size) := ⟨by simp⟩
  replace hB := Kept.mk (hB.out.trans (hB3.mono hB.out.size))
  have HP := Kept.mk (stable_cells _ _ _ _ hp hB.out)
  have HM := Kept.mk (stable_cells _ _ _ _ hm hB.out)
  clear hp hm hB0 hB1 hV hB3
  go_enter Tryz.func119, Tryz.ntmps119
  go_wp2_with fail
  generalize ((w.alloc (.cells #[] 103)).alloc (.cells #[.int .i64 A.kind, .int .i64 A.time, .int .i64 A.node, .bool A.dead, .string ⟨A.text.toArray⟩, vp, vm, .int .u64 (A.flags.toNat : Int)] 25)).alloc (.cells #[.int .i64 0, .int .i64 0, .int .i64 0, .bool false, .string ⟨#[]⟩, .slice none 0 0, .slice none 0 0, .int .u64 0] 25) = W0 at *
  refine conly_region _ _ _ rfl A (w.heap.size + 1) (w.heap.size + 2) vp vm rfl rfl HC.out HZ.out HF.out HP.out HM.out (by omega) (by omega) ?_
  intro a w1 p' m' hd h4 hb1 o1 o2
  have hs := hS.out
  have hZ1 := HZ.out.keep hb1 HZ.out.1
  obtain ⟨np, _⟩ := own_slice o1
  obtain ⟨nm, _⟩ := own_slice o2
  obtain ⟨hBK, K4, K5⟩ := vset (onlyCount A) p' m' (g := w.heap.size + 2) (by omega) (hB.out.trans (hb1.mono hB.out.size)) hZ1 rfl o1.cells o2.cells (np.ne (by omega)) (nm.ne (by omega))
  obtain ⟨hc', hp', hm'⟩ := K4.out
  replace np := np.low (B' := w.heap.size) (by omega)
  replace nm := nm.low (B' := w.heap.size) (by omega)
  go_wp2
  exact bodyPost_ret (resultsN1 rfl _ _ (w.heap.size + 2) _ size_va agg_va h4 hc') hd ⟨_, rfl, ⟨_, _, rfl, hp', hm', np, nm⟩, hBK.out⟩
end Go.Proofs.YtebjljiklacolaaGreat
end
section
namespace Go.Proofs.YtebjljiklacolaaGreat
open Go.RowKit
set_option linter.unusedVariables false
set_option linter.unusedSimpArgs false
attribute [local irreducible] setN

/-- A kind, as the program has it. -/
def ifaceK : Nat → Value
  | 1 => .iface 102 (.agg #[])
  | 2 => .iface 103 (.agg #[])
  | 3 => .iface 104 (.agg #[])
  | _ => .nilIface
def kOf (n : Int) : Nat := if n = 1 then 1 else if n = 2 then 2 else if n = 3 then 3 else 0
theorem kindOf_any (n : Int) (w : World) : Calls Tryz.prog 64 #[.int .i64 n] w fun e w' => e = .returned (.tuple #[ifaceK (kOf n), .bool (decide (kOf n ≠ 0))]) ∧ w = w' := by
  by_cases h1 : n = 1
  · subst h1
    go_enter Tryz.func64, Tryz.ntmps64
    go_wp2
    go_ret2
    exact ⟨rfl, rfl⟩
  · have d1 : (n == 1) = false := by simpa using h1
    by_cases h2 : n = 2
    · subst h2
      go_enter Tryz.func64, Tryz.ntmps64
      go_wp2
      go_ret2
      exact ⟨rfl, rfl⟩
    · have d2 : (n == 2) = false := by simpa using h2
      by_cases h3 : n = 3
      · subst h3
        go_enter Tryz.func64, Tryz.ntmps64
        go_wp2
        go_ret2
        exact ⟨rfl, rfl⟩
      · have d3 : (n == 3) = false := by simpa using h3
        have HK := Kept.mk (show kOf n = 0 by unfold kOf; rw [if_neg h1, if_neg h2, if_neg h3])
        clear h1 h2 h3
        go_enter Tryz.func64, Tryz.ntmps64
        go_wp2
        go_ret2
        exact ⟨by rw [HK.out]; rfl, rfl⟩
/-- What is looked at is small enough. -/
structure Fit (A : Va) : Prop where
  text : A.text.length ≤ 1000000000
  plus : A.plus.length ≤ 1000000
  minus : A.minus.length ≤ 1000000
theorem call_regIn (A : Va) (b : Bool) (v : Value) (w : World) (hv : isVa A v w) (hf : Fit A) (hb : inReg A = b) : Calls Tryz.prog 104 #[.agg #[], v] w fun e w' => ∃ x, e = .returned x ∧ isVal (.bool b) x w' ∧ Below w.heap.size w w' :=
  (regIn_any A v w hv hf.text).mono (by rintro e w' ⟨rfl, h⟩; exact ⟨_, rfl, by rw [hb]; rfl, h⟩)
theorem call_countIn (A : Va) (b : Bool) (v : Value) (w : World) (hv : isVa A v w) (hf : Fit A) (hb : inCount A = b) : Calls Tryz.prog 116 #[.agg #[], v] w fun e w' => ∃ x, e = .returned x ∧ isVal (.bool b) x w' ∧ Below w.heap.size w w' :=
  (countIn_any A v w hv (by have := hf.plus; omega) (by have := hf.minus; omega)).mono (by rintro e w' ⟨rfl, h⟩; exact ⟨_, rfl, by rw [hb]; rfl, h⟩)
theorem call_flagsIn (A : Va) (b : Bool) (v : Value) (w : World) (hv : isVa A v w) (hf : Fit A) (hb : true = b) : Calls Tryz.prog 129 #[.agg #[], v] w fun e w' => ∃ x, e = .returned x ∧ isVal (.bool b) x w' ∧ Below w.heap.size w w' :=
  (flagsInrange_any A v w hv).mono (by rintro e w' ⟨rfl, h⟩; exact ⟨_, rfl, by rw [hb]; rfl, h⟩)
theorem call_regOnly (A : Va) (v : Value) (w : World) (hv : isVa A v w) (hf : Fit A) : Calls Tryz.prog 107 #[.agg #[], v] w fun e w' => ∃ x, e = .returned x ∧ isVa (onlyReg A) x w' ∧ Below w.heap.size w w' :=
  (regOnly_any A v w hv).mono (by rintro e w' ⟨x, rfl, h, hb⟩; exact ⟨_, rfl, h.va, hb⟩)
theorem call_countOnly (A : Va) (v : Value) (w : World) (hv : isVa A v w) (hf : Fit A) : Calls Tryz.prog 119 #[.agg #[], v] w fun e w' => ∃ x, e = .returned x ∧ isVa (onlyCount A) x w' ∧ Below w.heap.size w w' :=
  (countOnly_any A v w hv (by have := hf.plus; omega) (by have := hf.minus; omega)).mono (by rintro e w' ⟨x, rfl, h, hb⟩; exact ⟨_, rfl, h.va, hb⟩)
theorem call_flagsOnly (A : Va) (v : Value) (w : World) (hv : isVa A v w) (hf : Fit A) : Calls Tryz.prog 132 #[.agg #[], v] w fun e w' => ∃ x, e = .returned x ∧ isVa (onlyFlags A) x w' ∧ Below w.heap.size w w' :=
  (flagsOnly_any A v w hv).mono (by rintro e w' ⟨x, rfl, h, hb⟩; exact ⟨_, rfl, h.va, hb⟩)
theorem call_same (A B : Va) (v u : Value) (w : World) (hv : isVa A v w) (hu : isVa B u w) (h1 : Fit A) (h2 : B.plus.length ≤ 1000000) (h3 : B.minus.length ≤ 1000000) :
    Calls Tryz.prog 33 #[v, u] w fun e w' => ∃ x, e = .returned x ∧ isVal (.bool (decide (A = B))) x w' ∧ Below w.heap.size w w' :=
  (vsame_any A B v u w hv hu (by have := h1.plus; omega) (by have := h1.minus; omega) (by omega) (by omega)).mono (by rintro e w' ⟨rfl, h⟩; exact ⟨_, rfl, rfl, h⟩)
theorem same_self (B : Va) (h : Fit B) : (onlyReg B).plus.length ≤ 1000000 ∧ (onlyReg B).minus.length ≤ 1000000 ∧ (onlyCount B).plus.length ≤ 1000000 ∧ (onlyCount B).minus.length ≤ 1000000 ∧ (onlyFlags B).plus.length ≤ 1000000 ∧ (onlyFlags B).minus.length ≤ 1000000 :=
  ⟨Nat.zero_le _, Nat.zero_le _, h.plus, h.minus, Nat.zero_le _, Nat.zero_le _⟩
noncomputable def kv_noneOps : Array Oper := regionOf Tryz.f48 2
set_option maxRecDepth 100000 in
set_option maxHeartbeats 2000000 in
theorem kv_none_region (Q : Exit → Act → World → Prop) (a0 : Act) (w0 : World) (hsz : a0.tmps.size = 29) (A : Va) (g : Nat) (vp vm : Value) (e1 : a0.tmps.getD 1 undef = .pointer (some ⟨g, 0, none⟩)) (e4 : a0.tmps.getD 4 undef = .nilIface) (e5 : a0.tmps.getD 5 undef = .bool false) (hc : CellsN w0 g [.int .i64 A.kind, .int .i64 A.time, .int .i64 A.node, .bool A.dead, .string ⟨A.text.toArray⟩, vp, vm, .int .u64 (A.flags.toNat : Int)]) (hX : isVa A (.agg #[.int .i64 A.kind, .int .i64 A.time, .int .i64 A.node, .bool A.dead, .string ⟨A.text.toArray⟩, vp, vm, .int .u64 (A.flags.toNat : Int)]) w0) (hF : Fit A)
    (hQ : ∀ (g : Nat → Value) (w : World), g 27 = .bool true → Below w0.heap.size w0 w → Q .normal { tmps := [12, 13, 14, 15, 16, 17, 18, 19, 20, 21, 22, 23, 24, 25, 26, 27].foldl (fun t s => t.setIfInBounds s (g s)) a0.tmps, defers := a0.defers } w) :
    (Code.region 2 kv_noneOps true).wp Tryz.prog Q a0 w0 := by
  refine wp_region_flow mixed (by rw [hsz]; kernel_rfl) ?_
  rw [show kv_noneOps.size = 16 by kernel_rfl]
  refine ⟨isVal (.bool false), step_move (.tmp 5) (by kernel_rfl) (wanted_none (by kernel_rfl)) (stable_val _) (knows_old 5 (.bool false) (by kernel_rfl) e5), ?_⟩
  refine ⟨isVal (.bool true), step_un .not 4 (.tmp 12) (.bool false) (.bool true) (by kernel_rfl) (wanted_none (by kernel_rfl)) (knows_new (V := isVal (.bool false)) 12 0 (by kernel_rfl) (by kernel_rfl) (by kernel_rfl)) (fun _ => rfl), ?_⟩
  refine ⟨isVal (.bool true), step_move (.tmp 13) (by kernel_rfl) (wanted_none (by kernel_rfl)) (stable_val _) (knows_new (V := isVal (.bool true)) 13 1 (by kernel_rfl) (by kernel_rfl) (by kernel_rfl)), ?_⟩
  refine ⟨_, step_skip 2 14 false true (by kernel_rfl) (by kernel_rfl) (by kernel_rfl) (by kernel_rfl) rfl, ?_⟩
  refine ⟨_, step_skip 2 14 false true (by kernel_rfl) (by kernel_rfl) (by kernel_rfl) (by kernel_rfl) rfl, ?_⟩
  refine ⟨_, step_skip 2 14 false true (by kernel_rfl) (by kernel_rfl) (by kernel_rfl) (by kernel_rfl) rfl, ?_⟩
  refine ⟨_, step_skip 2 14 false true (by kernel_rfl) (by kernel_rfl) (by kernel_rfl) (by kernel_rfl) rfl, ?_⟩
  refine ⟨isVal (.bool true), step_pick (.tmp 14) (.const (.bool true)) (.tmp 18) true (by kernel_rfl) (wanted_none (by kernel_rfl)) (stable_val _) (knows_new (V := isVal (.bool true)) 14 2 (by kernel_rfl) (by kernel_rfl) (by kernel_rfl)) (knows_const _), ?_⟩
  refine ⟨isVal (.bool true), step_move (.tmp 19) (by kernel_rfl) (wanted_none (by kernel_rfl)) (stable_val _) (knows_new (V := isVal (.bool true)) 19 7 (by kernel_rfl) (by kernel_rfl) (by kernel_rfl)), ?_⟩
  refine ⟨_, step_skip 8 20 false true (by kernel_rfl) (by kernel_rfl) (by kernel_rfl) (by kernel_rfl) rfl, ?_⟩
  refine ⟨_, step_skip 8 20 false true (by kernel_rfl) (by kernel_rfl) (by kernel_rfl) (by kernel_rfl) rfl, ?_⟩
  refine ⟨_, step_skip 8 20 false true (by kernel_rfl) (by kernel_rfl) (by kernel_rfl) (by kernel_rfl) rfl, ?_⟩
  refine ⟨_, step_skip 8 20 false true (by kernel_rfl) (by kernel_rfl) (by kernel_rfl) (by kernel_rfl) rfl, ?_⟩
  refine ⟨_, step_skip 8 20 false true (by kernel_rfl) (by kernel_rfl) (by kernel_rfl) (by kernel_rfl) rfl, ?_⟩
  refine ⟨_, step_skip 8 20 false true (by kernel_rfl) (by kernel_rfl) (by kernel_rfl) (by kernel_rfl) rfl, ?_⟩
  refine ⟨isVal (.bool true), step_pick (.tmp 20) (.const (.bool true)) (.tmp 26) true (by kernel_rfl) (wanted_none (by kernel_rfl)) (stable_val _) (knows_new (V := isVal (.bool true)) 20 8 (by kernel_rfl) (by kernel_rfl) (by kernel_rfl)) (knows_const _), ?_⟩
  intro a w hkp hb hd
  rw [kept_of hkp [some 12, some 13, some 14, some 15, some 16, some 17, some 18, some 19, some 20, some 21, some 22, some 23, some 24, some 25, some 26, some 27] [12, 13, 14, 15, 16, 17, 18, 19, 20, 21, 22, 23, 24, 25, 26, 27] (by kernel_rfl) (by decide)]
  have d27 := fdone_of (hd 15 (by rw [show kv_noneOps.size = 16 by kernel_rfl]; decide)) (t := 27) (V := isVal (.bool true)) (by kernel_rfl) (by kernel_rfl)
  exact hQ (fun s => a.tmps.getD s undef) w d27 hb
set_option maxRecDepth 20000 in
set_option maxHeartbeats 1000000 in
theorem kv_none_any (A : Va) (v : Value) (w : World) (hv : isVa A v w) (hF : Fit A) (hk : kOf A.kind = 0) :
    Calls Tryz.prog 48 #[v] w fun e w' => e = .returned (.tuple #[ifaceK 0, .bool false]) ∧ Below w.heap.size w w' := by
  obtain ⟨vp, vm, rfl, hp, hm⟩ := hv
  obtain ⟨hB, hV⟩ := vbox w A vp vm hp hm w.heap.size rfl
  have hX := Kept.mk (show isVa A (.agg #[.int .i64 A.kind, .int .i64 A.time, .int .i64 A.node, .bool A.dead, .string ⟨A.text.toArray⟩, vp, vm, .int .u64 (A.flags.toNat : Int)]) (w.alloc (.cells #[.int .i64 A.kind, .int .i64 A.time, .int .i64 A.node, .bool A.dead, .string ⟨A.text.toArray⟩, vp, vm, .int .u64 (A.flags.toNat : Int)] 25)) from ⟨vp, vm, rfl, stable_cells _ _ _ _ hp hB.out, stable_cells _ _ _ _ hm hB.out⟩)
  have HC := Kept.mk (cellsN_at w 25 [.int .i64 A.kind, .int .i64 A.time, .int .i64 A.node, .bool A.dead, .string ⟨A.text.toArray⟩, vp, vm, .int .u64 (A.flags.toNat : Int)] w.heap.size rfl)
  have HK := Kept.mk (show kOf A.kind = 0 by exact hk)
  have HK2 := Kept.mk hk
  clear hp hm hV hk
  go_enter Tryz.func48, Tryz.ntmps48
  go_wp2_with fail
  refine (kindOf_any A.kind _).mono ?_; rintro e w' ⟨rfl, rfl⟩
  rewrite [HK.out]
  go_wp2_with fail
  refine kv_none_region _ _ _ rfl A w.heap.size vp vm rfl rfl rfl HC.out hX.out hF ?_
  intro f9 W9 d27 hb9
  simp only [List.foldl_cons, List.foldl_nil, d27]
  generalize f9 12 = y12
  generalize f9 13 = y13
  generalize f9 14 = y14
  generalize f9 15 = y15
  generalize f9 16 = y16
  generalize f9 17 = y17
  generalize f9 18 = y18
  generalize f9 19 = y19
  generalize f9 20 = y20
  generalize f9 21 = y21
  generalize f9 22 = y22
  generalize f9 23 = y23
  generalize f9 24 = y24
  generalize f9 25 = y25
  generalize f9 26 = y26
  clear d27
  simp only [List.setIfInBounds_toArray, List.set_cons_succ, List.set_cons_zero]
  replace hB := Kept.mk (hB.out.trans (hb9.mono hB.out.size))
  clear hb9 hX HC
  go_wp2
  go_ret2
  exact ⟨rfl, hB.out⟩
noncomputable def kv_reg0Ops : Array Oper := regionOf Tryz.f48 2
set_option maxRecDepth 100000 in
set_option maxHeartbeats 2000000 in
theorem kv_reg0_region (Q : Exit → Act → World → Prop) (a0 : Act) (w0 : World) (hsz : a0.tmps.size = 29) (A : Va) (g : Nat) (vp vm : Value) (e1 : a0.tmps.getD 1 undef = .pointer (some ⟨g, 0, none⟩)) (e4 : a0.tmps.getD 4 undef = (.iface 102 (.agg #[]))) (e5 : a0.tmps.getD 5 undef = .bool true) (hc : CellsN w0 g [.int .i64 A.kind, .int .i64 A.time, .int .i64 A.node, .bool A.dead, .string ⟨A.text.toArray⟩, vp, vm, .int .u64 (A.flags.toNat : Int)]) (hX : isVa A (.agg #[.int .i64 A.kind, .int .i64 A.time, .int .i64 A.node, .bool A.dead, .string ⟨A.text.toArray⟩, vp, vm, .int .u64 (A.flags.toNat : Int)]) w0) (hF : Fit A) (hI : inReg A = false)
    (hQ : ∀ (g : Nat → Value) (w : World), g 27 = .bool true → Below w0.heap.size w0 w → Q .normal { tmps := [12, 13, 14, 15, 16, 17, 18, 19, 20, 21, 22, 23, 24, 25, 26, 27].foldl (fun t s => t.setIfInBounds s (g s)) a0.tmps, defers := a0.defers } w) :
    (Code.region 2 kv_reg0Ops true).wp Tryz.prog Q a0 w0 := by
  refine wp_region_flow mixed (by rw [hsz]; kernel_rfl) ?_
  rw [show kv_reg0Ops.size = 16 by kernel_rfl]
  refine ⟨isVal (.bool true), step_move (.tmp 5) (by kernel_rfl) (wanted_none (by kernel_rfl)) (stable_val _) (knows_old 5 (.bool true) (by kernel_rfl) e5), ?_⟩
  refine ⟨isVal (.bool false), step_un .not 4 (.tmp 12) (.bool true) (.bool false) (by kernel_rfl) (wanted_none (by kernel_rfl)) (knows_new (V := isVal (.bool true)) 12 0 (by kernel_rfl) (by kernel_rfl) (by kernel_rfl)) (fun _ => rfl), ?_⟩
  refine ⟨isVal (.bool false), step_move (.tmp 13) (by kernel_rfl) (wanted_none (by kernel_rfl)) (stable_val _) (knows_new (V := isVal (.bool false)) 13 1 (by kernel_rfl) (by kernel_rfl) (by kernel_rfl)), ?_⟩
  refine ⟨isVal (.iface 102 (.agg #[])), step_move (.tmp 4) (by kernel_rfl) (wanted_some 2 14 false (by kernel_rfl) (by kernel_rfl) (by kernel_rfl) (by kernel_rfl)) (stable_val _) (knows_old 4 (.iface 102 (.agg #[])) (by kernel_rfl) e4), ?_⟩
  refine ⟨isVal (.agg #[.int .i64 A.kind, .int .i64 A.time, .int .i64 A.node, .bool A.dead, .string ⟨A.text.toArray⟩, vp, vm, .int .u64 (A.flags.toNat : Int)]), step_loadN 25 (.tmp 1) (g) [.int .i64 A.kind, .int .i64 A.time, .int .i64 A.node, .bool A.dead, .string ⟨A.text.toArray⟩, vp, vm, .int .u64 (A.flags.toNat : Int)] (by kernel_rfl) (wanted_some 2 14 false (by kernel_rfl) (by kernel_rfl) (by kernel_rfl) (by kernel_rfl)) (knows_old 1 (.pointer (some ⟨g, 0, none⟩)) (by kernel_rfl) e1) size_va agg_va hc, ?_⟩
  refine ⟨isVal (.bool false), step_invoke "ouroboros/value.inRange" (.tmp 15) (.iface 102 (.agg #[])) 104 #[.tmp 16] #[25] #[.agg #[.int .i64 A.kind, .int .i64 A.time, .int .i64 A.node, .bool A.dead, .string ⟨A.text.toArray⟩, vp, vm, .int .u64 (A.flags.toNat : Int)]] #[.agg #[], .agg #[.int .i64 A.kind, .int .i64 A.time, .int .i64 A.node, .bool A.dead, .string ⟨A.text.toArray⟩, vp, vm, .int .u64 (A.flags.toNat : Int)]] (by kernel_rfl) (wanted_some 2 14 false (by kernel_rfl) (by kernel_rfl) (by kernel_rfl) (by kernel_rfl)) (stable_val _) (args1 (.tmp 16) (.agg #[.int .i64 A.kind, .int .i64 A.time, .int .i64 A.node, .bool A.dead, .string ⟨A.text.toArray⟩, vp, vm, .int .u64 (A.flags.toNat : Int)]) (knows_new (V := isVal (.agg #[.int .i64 A.kind, .int .i64 A.time, .int .i64 A.node, .bool A.dead, .string ⟨A.text.toArray⟩, vp, vm, .int .u64 (A.flags.toNat : Int)])) 16 4 (by kernel_rfl) (by kernel_rfl) (by kernel_rfl))) (knows_new (V := isVal (.iface 102 (.agg #[]))) 15 3 (by kernel_rfl) (by kernel_rfl) (by kernel_rfl)) (fun w => by kernel_rfl) (by intro w hb; exact call_regIn A false _ w (va_grow hX hb) hF hI), ?_⟩
  refine ⟨isVal (.bool true), step_un .not 4 (.tmp 17) (.bool false) (.bool true) (by kernel_rfl) (wanted_some 2 14 false (by kernel_rfl) (by kernel_rfl) (by kernel_rfl) (by kernel_rfl)) (knows_new (V := isVal (.bool false)) 17 5 (by kernel_rfl) (by kernel_rfl) (by kernel_rfl)) (fun _ => rfl), ?_⟩
  refine ⟨isVal (.bool true), step_pick (.tmp 14) (.const (.bool true)) (.tmp 18) false (by kernel_rfl) (wanted_none (by kernel_rfl)) (stable_val _) (knows_new (V := isVal (.bool false)) 14 2 (by kernel_rfl) (by kernel_rfl) (by kernel_rfl)) (knows_new (V := isVal (.bool true)) 18 6 (by kernel_rfl) (by kernel_rfl) (by kernel_rfl)), ?_⟩
  refine ⟨isVal (.bool true), step_move (.tmp 19) (by kernel_rfl) (wanted_none (by kernel_rfl)) (stable_val _) (knows_new (V := isVal (.bool true)) 19 7 (by kernel_rfl) (by kernel_rfl) (by kernel_rfl)), ?_⟩
  refine ⟨_, step_skip 8 20 false true (by kernel_rfl) (by kernel_rfl) (by kernel_rfl) (by kernel_rfl) rfl, ?_⟩
  refine ⟨_, step_skip 8 20 false true (by kernel_rfl) (by kernel_rfl) (by kernel_rfl) (by kernel_rfl) rfl, ?_⟩
  refine ⟨_, step_skip 8 20 false true (by kernel_rfl) (by kernel_rfl) (by kernel_rfl) (by kernel_rfl) rfl, ?_⟩
  refine ⟨_, step_skip 8 20 false true (by kernel_rfl) (by kernel_rfl) (by kernel_rfl) (by kernel_rfl) rfl, ?_⟩
  refine ⟨_, step_skip 8 20 false true (by kernel_rfl) (by kernel_rfl) (by kernel_rfl) (by kernel_rfl) rfl, ?_⟩
  refine ⟨_, step_skip 8 20 false true (by kernel_rfl) (by kernel_rfl) (by kernel_rfl) (by kernel_rfl) rfl, ?_⟩
  refine ⟨isVal (.bool true), step_pick (.tmp 20) (.const (.bool true)) (.tmp 26) true (by kernel_rfl) (wanted_none (by kernel_rfl)) (stable_val _) (knows_new (V := isVal (.bool true)) 20 8 (by kernel_rfl) (by kernel_rfl) (by kernel_rfl)) (knows_const _), ?_⟩
  intro a w hkp hb hd
  rw [kept_of hkp [some 12, some 13, some 14, some 15, some 16, some 17, some 18, some 19, some 20, some 21, some 22, some 23, some 24, some 25, some 26, some 27] [12, 13, 14, 15, 16, 17, 18, 19, 20, 21, 22, 23, 24, 25, 26, 27] (by kernel_rfl) (by decide)]
  have d27 := fdone_of (hd 15 (by rw [show kv_reg0Ops.size = 16 by kernel_rfl]; decide)) (t := 27) (V := isVal (.bool true)) (by kernel_rfl) (by kernel_rfl)
  exact hQ (fun s => a.tmps.getD s undef) w d27 hb
set_option maxRecDepth 20000 in
set_option maxHeartbeats 1000000 in
theorem kv_reg0_any (A : Va) (v : Value) (w : World) (hv : isVa A v w) (hF : Fit A) (hk : A.kind = 1) (hI : inReg A = false) :
    Calls Tryz.prog 48 #[v] w fun e w' => e = .returned (.tuple #[ifaceK 0, .bool false]) ∧ Below w.heap.size w w' := by
  obtain ⟨vp, vm, rfl, hp, hm⟩ := hv
  obtain ⟨hB, hV⟩ := vbox w A vp vm hp hm w.heap.size rfl
  have hX := Kept.mk (show isVa A (.agg #[.int .i64 A.kind, .int .i64 A.time, .int .i64 A.node, .bool A.dead, .string ⟨A.text.toArray⟩, vp, vm, .int .u64 (A.flags.toNat : Int)]) (w.alloc (.cells #[.int .i64 A.kind, .int .i64 A.time, .int .i64 A.node, .bool A.dead, .string ⟨A.text.toArray⟩, vp, vm, .int .u64 (A.flags.toNat : Int)] 25)) from ⟨vp, vm, rfl, stable_cells _ _ _ _ hp hB.out, stable_cells _ _ _ _ hm hB.out⟩)
  have HC := Kept.mk (cellsN_at w 25 [.int .i64 A.kind, .int .i64 A.time, .int .i64 A.node, .bool A.dead, .string ⟨A.text.toArray⟩, vp, vm, .int .u64 (A.flags.toNat : Int)] w.heap.size rfl)
  have HK := Kept.mk (show kOf A.kind = 1 by rw [hk]; rfl)
  have HK2 := Kept.mk hk
  clear hp hm hV hk
  have HI := Kept.mk hI
  clear hI
  go_enter Tryz.func48, Tryz.ntmps48
  go_wp2_with fail
  refine (kindOf_any A.kind _).mono ?_; rintro e w' ⟨rfl, rfl⟩
  rewrite [HK.out]
  go_wp2_with fail
  refine kv_reg0_region _ _ _ rfl A w.heap.size vp vm rfl rfl rfl HC.out hX.out hF HI.out ?_
  intro f9 W9 d27 hb9
  simp only [List.foldl_cons, List.foldl_nil, d27]
  generalize f9 12 = y12
  generalize f9 13 = y13
  generalize f9 14 = y14
  generalize f9 15 = y15
  generalize f9 16 = y16
  generalize f9 17 = y17
  generalize f9 18 = y18
  generalize f9 19 = y19
  generalize f9 20 = y20
  generalize f9 21 = y21
  generalize f9 22 = y22
  generalize f9 23 = y23
  generalize f9 24 = y24
  generalize f9 25 = y25
  generalize f9 26 = y26
  clear d27
  simp only [List.setIfInBounds_toArray, List.set_cons_succ, List.set_cons_zero]
  replace hB := Kept.mk (hB.out.trans (hb9.mono hB.out.size))
  clear hb9 hX HC
  go_wp2
  go_ret2
  exact ⟨rfl, hB.out⟩
noncomputable def kv_reg1Ops : Array Oper := regionOf Tryz.f48 2
set_option maxRecDepth 100000 in
set_option maxHeartbeats 2000000 in
theorem kv_reg1_region (Q : Exit → Act → World → Prop) (a0 : Act) (w0 : World) (hsz : a0.tmps.size = 29) (A : Va) (g : Nat) (vp vm : Value) (e1 : a0.tmps.getD 1 undef = .pointer (some ⟨g, 0, none⟩)) (e4 : a0.tmps.getD 4 undef = (.iface 102 (.agg #[]))) (e5 : a0.tmps.getD 5 undef = .bool true) (hc : CellsN w0 g [.int .i64 A.kind, .int .i64 A.time, .int .i64 A.node, .bool A.dead, .string ⟨A.text.toArray⟩, vp, vm, .int .u64 (A.flags.toNat : Int)]) (hX : isVa A (.agg #[.int .i64 A.kind, .int .i64 A.time, .int .i64 A.node, .bool A.dead, .string ⟨A.text.toArray⟩, vp, vm, .int .u64 (A.flags.toNat : Int)]) w0) (hF : Fit A) (hI : inReg A = true)
    (hQ : ∀ (g : Nat → Value) (w : World), g 27 = .bool (!decide (A = onlyReg A)) → Below w0.heap.size w0 w → Q .normal { tmps := [12, 13, 14, 15, 16, 17, 18, 19, 20, 21, 22, 23, 24, 25, 26, 27].foldl (fun t s => t.setIfInBounds s (g s)) a0.tmps, defers := a0.defers } w) :
    (Code.region 2 kv_reg1Ops true).wp Tryz.prog Q a0 w0 := by
  refine wp_region_flow mixed (by rw [hsz]; kernel_rfl) ?_
  rw [show kv_reg1Ops.size = 16 by kernel_rfl]
  refine ⟨isVal (.bool true), step_move (.tmp 5) (by kernel_rfl) (wanted_none (by kernel_rfl)) (stable_val _) (knows_old 5 (.bool true) (by kernel_rfl) e5), ?_⟩
  refine ⟨isVal (.bool false), step_un .not 4 (.tmp 12) (.bool true) (.bool false) (by kernel_rfl) (wanted_none (by kernel_rfl)) (knows_new (V := isVal (.bool true)) 12 0 (by kernel_rfl) (by kernel_rfl) (by kernel_rfl)) (fun _ => rfl), ?_⟩
  refine ⟨isVal (.bool false), step_move (.tmp 13) (by kernel_rfl) (wanted_none (by kernel_rfl)) (stable_val _) (knows_new (V := isVal (.bool false)) 13 1 (by kernel_rfl) (by kernel_rfl) (by kernel_rfl)), ?_⟩
  refine ⟨isVal (.iface 102 (.agg #[])), step_move (.tmp 4) (by kernel_rfl) (wanted_some 2 14 false (by kernel_rfl) (by kernel_rfl) (by kernel_rfl) (by kernel_rfl)) (stable_val _) (knows_old 4 (.iface 102 (.agg #[])) (by kernel_rfl) e4), ?_⟩
  refine ⟨isVal (.agg #[.int .i64 A.kind, .int .i64 A.time, .int .i64 A.node, .bool A.dead, .string ⟨A.text.toArray⟩, vp, vm, .int .u64 (A.flags.toNat : Int)]), step_loadN 25 (.tmp 1) (g) [.int .i64 A.kind, .int .i64 A.time, .int .i64 A.node, .bool A.dead, .string ⟨A.text.toArray⟩, vp, vm, .int .u64 (A.flags.toNat : Int)] (by kernel_rfl) (wanted_some 2 14 false (by kernel_rfl) (by kernel_rfl) (by kernel_rfl) (by kernel_rfl)) (knows_old 1 (.pointer (some ⟨g, 0, none⟩)) (by kernel_rfl) e1) size_va agg_va hc, ?_⟩
  refine ⟨isVal (.bool true), step_invoke "ouroboros/value.inRange" (.tmp 15) (.iface 102 (.agg #[])) 104 #[.tmp 16] #[25] #[.agg #[.int .i64 A.kind, .int .i64 A.time, .int .i64 A.node, .bool A.dead, .string ⟨A.text.toArray⟩, vp, vm, .int .u64 (A.flags.toNat : Int)]] #[.agg #[], .agg #[.int .i64 A.kind, .int .i64 A.time, .int .i64 A.node, .bool A.dead, .string ⟨A.text.toArray⟩, vp, vm, .int .u64 (A.flags.toNat : Int)]] (by kernel_rfl) (wanted_some 2 14 false (by kernel_rfl) (by kernel_rfl) (by kernel_rfl) (by kernel_rfl)) (stable_val _) (args1 (.tmp 16) (.agg #[.int .i64 A.kind, .int .i64 A.time, .int .i64 A.node, .bool A.dead, .string ⟨A.text.toArray⟩, vp, vm, .int .u64 (A.flags.toNat : Int)]) (knows_new (V := isVal (.agg #[.int .i64 A.kind, .int .i64 A.time, .int .i64 A.node, .bool A.dead, .string ⟨A.text.toArray⟩, vp, vm, .int .u64 (A.flags.toNat : Int)])) 16 4 (by kernel_rfl) (by kernel_rfl) (by kernel_rfl))) (knows_new (V := isVal (.iface 102 (.agg #[]))) 15 3 (by kernel_rfl) (by kernel_rfl) (by kernel_rfl)) (fun w => by kernel_rfl) (by intro w hb; exact call_regIn A true _ w (va_grow hX hb) hF hI), ?_⟩
  refine ⟨isVal (.bool false), step_un .not 4 (.tmp 17) (.bool true) (.bool false) (by kernel_rfl) (wanted_some 2 14 false (by kernel_rfl) (by kernel_rfl) (by kernel_rfl) (by kernel_rfl)) (knows_new (V := isVal (.bool true)) 17 5 (by kernel_rfl) (by kernel_rfl) (by kernel_rfl)) (fun _ => rfl), ?_⟩
  refine ⟨isVal (.bool false), step_pick (.tmp 14) (.const (.bool true)) (.tmp 18) false (by kernel_rfl) (wanted_none (by kernel_rfl)) (stable_val _) (knows_new (V := isVal (.bool false)) 14 2 (by kernel_rfl) (by kernel_rfl) (by kernel_rfl)) (knows_new (V := isVal (.bool false)) 18 6 (by kernel_rfl) (by kernel_rfl) (by kernel_rfl)), ?_⟩
  refine ⟨isVal (.bool false), step_move (.tmp 19) (by kernel_rfl) (wanted_none (by kernel_rfl)) (stable_val _) (knows_new (V := isVal (.bool false)) 19 7 (by kernel_rfl) (by kernel_rfl) (by kernel_rfl)), ?_⟩
  refine ⟨isVal (.agg #[.int .i64 A.kind, .int .i64 A.time, .int .i64 A.node, .bool A.dead, .string ⟨A.text.toArray⟩, vp, vm, .int .u64 (A.flags.toNat : Int)]), step_loadN 25 (.tmp 1) (g) [.int .i64 A.kind, .int .i64 A.time, .int .i64 A.node, .bool A.dead, .string ⟨A.text.toArray⟩, vp, vm, .int .u64 (A.flags.toNat : Int)] (by kernel_rfl) (wanted_some 8 20 false (by kernel_rfl) (by kernel_rfl) (by kernel_rfl) (by kernel_rfl)) (knows_old 1 (.pointer (some ⟨g, 0, none⟩)) (by kernel_rfl) e1) size_va agg_va hc, ?_⟩
  refine ⟨isVal (.iface 102 (.agg #[])), step_move (.tmp 4) (by kernel_rfl) (wanted_some 8 20 false (by kernel_rfl) (by kernel_rfl) (by kernel_rfl) (by kernel_rfl)) (stable_val _) (knows_old 4 (.iface 102 (.agg #[])) (by kernel_rfl) e4), ?_⟩
  refine ⟨isVal (.agg #[.int .i64 A.kind, .int .i64 A.time, .int .i64 A.node, .bool A.dead, .string ⟨A.text.toArray⟩, vp, vm, .int .u64 (A.flags.toNat : Int)]), step_loadN 25 (.tmp 1) (g) [.int .i64 A.kind, .int .i64 A.time, .int .i64 A.node, .bool A.dead, .string ⟨A.text.toArray⟩, vp, vm, .int .u64 (A.flags.toNat : Int)] (by kernel_rfl) (wanted_some 8 20 false (by kernel_rfl) (by kernel_rfl) (by kernel_rfl) (by kernel_rfl)) (knows_old 1 (.pointer (some ⟨g, 0, none⟩)) (by kernel_rfl) e1) size_va agg_va hc, ?_⟩
  refine ⟨(isVa (onlyReg A)), step_invoke "ouroboros/value.only" (.tmp 22) (.iface 102 (.agg #[])) 107 #[.tmp 23] #[25] #[.agg #[.int .i64 A.kind, .int .i64 A.time, .int .i64 A.node, .bool A.dead, .string ⟨A.text.toArray⟩, vp, vm, .int .u64 (A.flags.toNat : Int)]] #[.agg #[], .agg #[.int .i64 A.kind, .int .i64 A.time, .int .i64 A.node, .bool A.dead, .string ⟨A.text.toArray⟩, vp, vm, .int .u64 (A.flags.toNat : Int)]] (by kernel_rfl) (wanted_some 8 20 false (by kernel_rfl) (by kernel_rfl) (by kernel_rfl) (by kernel_rfl)) (stable_va _) (args1 (.tmp 23) (.agg #[.int .i64 A.kind, .int .i64 A.time, .int .i64 A.node, .bool A.dead, .string ⟨A.text.toArray⟩, vp, vm, .int .u64 (A.flags.toNat : Int)]) (knows_new (V := isVal (.agg #[.int .i64 A.kind, .int .i64 A.time, .int .i64 A.node, .bool A.dead, .string ⟨A.text.toArray⟩, vp, vm, .int .u64 (A.flags.toNat : Int)])) 23 11 (by kernel_rfl) (by kernel_rfl) (by kernel_rfl))) (knows_new (V := isVal (.iface 102 (.agg #[]))) 22 10 (by kernel_rfl) (by kernel_rfl) (by kernel_rfl)) (fun w => by kernel_rfl) (by intro w hb; exact call_regOnly A _ w (va_grow hX hb) hF), ?_⟩
  refine ⟨isVal (.bool (decide (A = onlyReg A))), step_callP 33 #[.tmp 21, .tmp 24] #[25, 25] (by kernel_rfl) (wanted_some 8 20 false (by kernel_rfl) (by kernel_rfl) (by kernel_rfl) (by kernel_rfl)) (stable_val _) (enters_of Tryz.func33 (by kernel_rfl) rfl) (fun vs w => ∃ u v, vs = #[u, v] ∧ isVal (.agg #[.int .i64 A.kind, .int .i64 A.time, .int .i64 A.node, .bool A.dead, .string ⟨A.text.toArray⟩, vp, vm, .int .u64 (A.flags.toNat : Int)]) u w ∧ isVa (onlyReg A) v w) (pre2 (knows_new (V := isVal (.agg #[.int .i64 A.kind, .int .i64 A.time, .int .i64 A.node, .bool A.dead, .string ⟨A.text.toArray⟩, vp, vm, .int .u64 (A.flags.toNat : Int)])) 21 9 (by kernel_rfl) (by kernel_rfl) (by kernel_rfl)) (knows_new (V := (isVa (onlyReg A))) 24 12 (by kernel_rfl) (by kernel_rfl) (by kernel_rfl))) (by rintro vs w hb ⟨u, v, rfl, rfl, hv⟩; exact call_same A (onlyReg A) _ v w (va_grow hX hb) hv hF (same_self A hF).1 (same_self A hF).2.1), ?_⟩
  refine ⟨isVal (.bool (!decide (A = onlyReg A))), step_un .not 4 (.tmp 25) (.bool (decide (A = onlyReg A))) (.bool (!decide (A = onlyReg A))) (by kernel_rfl) (wanted_some 8 20 false (by kernel_rfl) (by kernel_rfl) (by kernel_rfl) (by kernel_rfl)) (knows_new (V := isVal (.bool (decide (A = onlyReg A)))) 25 13 (by kernel_rfl) (by kernel_rfl) (by kernel_rfl)) (fun _ => rfl), ?_⟩
  refine ⟨isVal (.bool (!decide (A = onlyReg A))), step_pick (.tmp 20) (.const (.bool true)) (.tmp 26) false (by kernel_rfl) (wanted_none (by kernel_rfl)) (stable_val _) (knows_new (V := isVal (.bool false)) 20 8 (by kernel_rfl) (by kernel_rfl) (by kernel_rfl)) (knows_new (V := isVal (.bool (!decide (A = onlyReg A)))) 26 14 (by kernel_rfl) (by kernel_rfl) (by kernel_rfl)), ?_⟩
  intro a w hkp hb hd
  rw [kept_of hkp [some 12, some 13, some 14, some 15, some 16, some 17, some 18, some 19, some 20, some 21, some 22, some 23, some 24, some 25, some 26, some 27] [12, 13, 14, 15, 16, 17, 18, 19, 20, 21, 22, 23, 24, 25, 26, 27] (by kernel_rfl) (by decide)]
  have d27 := fdone_of (hd 15 (by rw [show kv_reg1Ops.size = 16 by kernel_rfl]; decide)) (t := 27) (V := isVal (.bool (!decide (A = onlyReg A)))) (by kernel_rfl) (by kernel_rfl)
  exact hQ (fun s => a.tmps.getD s undef) w d27 hb
set_option maxRecDepth 20000 in
set_option maxHeartbeats 1000000 in
theorem kv_reg1_any (A : Va) (v : Value) (w : World) (hv : isVa A v w) (hF : Fit A) (hk : A.kind = 1) (hI : inReg A = true) (z : Bool) (hz : decide (A = onlyReg A) = z) :
    Calls Tryz.prog 48 #[v] w fun e w' => e = .returned (.tuple #[ifaceK (if z = true then 1 else 0), .bool z]) ∧ Below w.heap.size w w' := by
  obtain ⟨vp, vm, rfl, hp, hm⟩ := hv
  obtain ⟨hB, hV⟩ := vbox w A vp vm hp hm w.heap.size rfl
  have hX := Kept.mk (show isVa A (.agg #[.int .i64 A.kind, .int .i64 A.time, .int .i64 A.node, .bool A.dead, .string ⟨A.text.toArray⟩, vp, vm, .int .u64 (A.flags.toNat : Int)]) (w.alloc (.cells #[.int .i64 A.kind, .int .i64 A.time, .int .i64 A.node, .bool A.dead, .string ⟨A.text.toArray⟩, vp, vm, .int .u64 (A.flags.toNat : Int)] 25)) from ⟨vp, vm, rfl, stable_cells _ _ _ _ hp hB.out, stable_cells _ _ _ _ hm hB.out⟩)
  have HC := Kept.mk (cellsN_at w 25 [.int .i64 A.kind, .int .i64 A.time, .int .i64 A.node, .bool A.dead, .string ⟨A.text.toArray⟩, vp, vm, .int .u64 (A.flags.toNat : Int)] w.heap.size rfl)
  have HK := Kept.mk (show kOf A.kind = 1 by rw [hk]; rfl)
  have HK2 := Kept.mk hk
  clear hp hm hV hk
  have HZ := Kept.mk hz
  clear hz
  have HI := Kept.mk hI
  clear hI
  go_enter Tryz.func48, Tryz.ntmps48
  go_wp2_with fail
  refine (kindOf_any A.kind _).mono ?_; rintro e w' ⟨rfl, rfl⟩
  rewrite [HK.out]
  go_wp2_with fail
  refine kv_reg1_region _ _ _ rfl A w.heap.size vp vm rfl rfl rfl HC.out hX.out hF HI.out ?_
  intro f9 W9 d27 hb9
  simp only [List.foldl_cons, List.foldl_nil, d27]
  generalize f9 12 = y12
  generalize f9 13 = y13
  generalize f9 14 = y14
  generalize f9 15 = y15
  generalize f9 16 = y16
  generalize f9 17 = y17
  generalize f9 18 = y18
  generalize f9 19 = y19
  generalize f9 20 = y20
  generalize f9 21 = y21
  generalize f9 22 = y22
  generalize f9 23 = y23
  generalize f9 24 = y24
  generalize f9 25 = y25
  generalize f9 26 = y26
  clear d27
  simp only [List.setIfInBounds_toArray, List.set_cons_succ, List.set_cons_zero]
  replace hB := Kept.mk (hB.out.trans (hb9.mono hB.out.size))
  clear hb9 hX HC
  rw [HZ.out]
  cases z
  · go_wp2
    go_ret2
    exact ⟨rfl, hB.out⟩
  · go_wp2
    go_ret2
    exact ⟨rfl, hB.out⟩
noncomputable def kv_count0Ops : Array Oper := regionOf Tryz.f48 2
set_option maxRecDepth 100000 in
set_option maxHeartbeats 2000000 in
theorem kv_count0_region (Q : Exit → Act → World → Prop) (a0 : Act) (w0 : World) (hsz : a0.tmps.size = 29) (A : Va) (g : Nat) (vp vm : Value) (e1 : a0.tmps.getD 1 undef = .pointer (some ⟨g, 0, none⟩)) (e4 : a0.tmps.getD 4 undef = (.iface 103 (.agg #[]))) (e5 : a0.tmps.getD 5 undef = .bool true) (hc : CellsN w0 g [.int .i64 A.kind, .int .i64 A.time, .int .i64 A.node, .bool A.dead, .string ⟨A.text.toArray⟩, vp, vm, .int .u64 (A.flags.toNat : Int)]) (hX : isVa A (.agg #[.int .i64 A.kind, .int .i64 A.time, .int .i64 A.node, .bool A.dead, .string ⟨A.text.toArray⟩, vp, vm, .int .u64 (A.flags.toNat : Int)]) w0) (hF : Fit A) (hI : inCount A = false)
    (hQ : ∀ (g : Nat → Value) (w : World), g 27 = .bool true → Below w0.heap.size w0 w → Q .normal { tmps := [12, 13, 14, 15, 16, 17, 18, 19, 20, 21, 22, 23, 24, 25, 26, 27].foldl (fun t s => t.setIfInBounds s (g s)) a0.tmps, defers := a0.defers } w) :
    (Code.region 2 kv_count0Ops true).wp Tryz.prog Q a0 w0 := by
  refine wp_region_flow mixed (by rw [hsz]; kernel_rfl) ?_
  rw [show kv_count0Ops.size = 16 by kernel_rfl]
  refine ⟨isVal (.bool true), step_move (.tmp 5) (by kernel_rfl) (wanted_none (by kernel_rfl)) (stable_val _) (knows_old 5 (.bool true) (by kernel_rfl) e5), ?_⟩
  refine ⟨isVal (.bool false), step_un .not 4 (.tmp 12) (.bool true) (.bool false) (by kernel_rfl) (wanted_none (by kernel_rfl)) (knows_new (V := isVal (.bool true)) 12 0 (by kernel_rfl) (by kernel_rfl) (by kernel_rfl)) (fun _ => rfl), ?_⟩
  refine ⟨isVal (.bool false), step_move (.tmp 13) (by kernel_rfl) (wanted_none (by kernel_rfl)) (stable_val _) (knows_new (V := isVal (.bool false)) 13 1 (by kernel_rfl) (by kernel_rfl) (by kernel_rfl)), ?_⟩
  refine ⟨isVal (.iface 103 (.agg #[])), step_move (.tmp 4) (by kernel_rfl) (wanted_some 2 14 false (by kernel_rfl) (by kernel_rfl) (by kernel_rfl) (by kernel_rfl)) (stable_val _) (knows_old 4 (.iface 103 (.agg #[])) (by kernel_rfl) e4), ?_⟩
  refine ⟨isVal (.agg #[.int .i64 A.kind, .int .i64 A.time, .int .i64 A.node, .bool A.dead, .string ⟨A.text.toArray⟩, vp, vm, .int .u64 (A.flags.toNat : Int)]), step_loadN 25 (.tmp 1) (g) [.int .i64 A.kind, .int .i64 A.time, .int .i64 A.node, .bool A.dead, .string ⟨A.text.toArray⟩, vp, vm, .int .u64 (A.flags.toNat : Int)] (by kernel_rfl) (wanted_some 2 14 false (by kernel_rfl) (by kernel_rfl) (by kernel_rfl) (by kernel_rfl)) (knows_old 1 (.pointer (some ⟨g, 0, none⟩)) (by kernel_rfl) e1) size_va agg_va hc, ?_⟩
  refine ⟨isVal (.bool false), step_invoke "ouroboros/value.inRange" (.tmp 15) (.iface 103 (.agg #[])) 116 #[.tmp 16] #[25] #[.agg #[.int .i64 A.kind, .int .i64 A.time, .int .i64 A.node, .bool A.dead, .string ⟨A.text.toArray⟩, vp, vm, .int .u64 (A.flags.toNat : Int)]] #[.agg #[], .agg #[.int .i64 A.kind, .int .i64 A.time, .int .i64 A.node, .bool A.dead, .string ⟨A.text.toArray⟩, vp, vm, .int .u64 (A.flags.toNat : Int)]] (by kernel_rfl) (wanted_some 2 14 false (by kernel_rfl) (by kernel_rfl) (by kernel_rfl) (by kernel_rfl)) (stable_val _) (args1 (.tmp 16) (.agg #[.int .i64 A.kind, .int .i64 A.time, .int .i64 A.node, .bool A.dead, .string ⟨A.text.toArray⟩, vp, vm, .int .u64 (A.flags.toNat : Int)]) (knows_new (V := isVal (.agg #[.int .i64 A.kind, .int .i64 A.time, .int .i64 A.node, .bool A.dead, .string ⟨A.text.toArray⟩, vp, vm, .int .u64 (A.flags.toNat : Int)])) 16 4 (by kernel_rfl) (by kernel_rfl) (by kernel_rfl))) (knows_new (V := isVal (.iface 103 (.agg #[]))) 15 3 (by kernel_rfl) (by kernel_rfl) (by kernel_rfl)) (fun w => by kernel_rfl) (by intro w hb; exact call_countIn A false _ w (va_grow hX hb) hF hI), ?_⟩
  refine ⟨isVal (.bool true), step_un .not 4 (.tmp 17) (.bool false) (.bool true) (by kernel_rfl) (wanted_some 2 14 false (by kernel_rfl) (by kernel_rfl) (by kernel_rfl) (by kernel_rfl)) (knows_new (V := isVal (.bool false)) 17 5 (by kernel_rfl) (by kernel_rfl) (by kernel_rfl)) (fun _ => rfl), ?_⟩
  refine ⟨isVal (.bool true), step_pick (.tmp 14) (.const (.bool true)) (.tmp 18) false (by kernel_rfl) (wanted_none (by kernel_rfl)) (stable_val _) (knows_new (V := isVal (.bool false)) 14 2 (by kernel_rfl) (by kernel_rfl) (by kernel_rfl)) (knows_new (V := isVal (.bool true)) 18 6 (by kernel_rfl) (by kernel_rfl) (by kernel_rfl)), ?_⟩
  refine ⟨isVal (.bool true), step_move (.tmp 19) (by kernel_rfl) (wanted_none (by kernel_rfl)) (stable_val _) (knows_new (V := isVal (.bool true)) 19 7 (by kernel_rfl) (by kernel_rfl) (by kernel_rfl)), ?_⟩
  refine ⟨_, step_skip 8 20 false true (by kernel_rfl) (by kernel_rfl) (by kernel_rfl) (by kernel_rfl) rfl, ?_⟩
  refine ⟨_, step_skip 8 20 false true (by kernel_rfl) (by kernel_rfl) (by kernel_rfl) (by kernel_rfl) rfl, ?_⟩
  refine ⟨_, step_skip 8 20 false true (by kernel_rfl) (by kernel_rfl) (by kernel_rfl) (by kernel_rfl) rfl, ?_⟩
  refine ⟨_, step_skip 8 20 false true (by kernel_rfl) (by kernel_rfl) (by kernel_rfl) (by kernel_rfl) rfl, ?_⟩
  refine ⟨_, step_skip 8 20 false true (by kernel_rfl) (by kernel_rfl) (by kernel_rfl) (by kernel_rfl) rfl, ?_⟩
  refine ⟨_, step_skip 8 20 false true (by kernel_rfl) (by kernel_rfl) (by kernel_rfl) (by kernel_rfl) rfl, ?_⟩
  refine ⟨isVal (.bool true), step_pick (.tmp 20) (.const (.bool true)) (.tmp 26) true (by kernel_rfl) (wanted_none (by kernel_rfl)) (stable_val _) (knows_new (V := isVal (.bool true)) 20 8 (by kernel_rfl) (by kernel_rfl) (by kernel_rfl)) (knows_const _), ?_⟩
  intro a w hkp hb hd
  rw [kept_of hkp [some 12, some 13, some 14, some 15, some 16, some 17, some 18, some 19, some 20, some 21, some 22, some 23, some 24, some 25, some 26, some 27] [12, 13, 14, 15, 16, 17, 18, 19, 20, 21, 22, 23, 24, 25, 26, 27] (by kernel_rfl) (by decide)]
  have d27 := fdone_of (hd 15 (by rw [show kv_count0Ops.size = 16 by kernel_rfl]; decide)) (t := 27) (V := isVal (.bool true)) (by kernel_rfl) (by kernel_rfl)
  exact hQ (fun s => a.tmps.getD s undef) w d27 hb
set_option maxRecDepth 20000 in
set_option maxHeartbeats 1000000 in
theorem kv_count0_any (A : Va) (v : Value) (w : World) (hv : isVa A v w) (hF : Fit A) (hk : A.kind = 2) (hI : inCount A = false) :
    Calls Tryz.prog 48 #[v] w fun e w' => e = .returned (.tuple #[ifaceK 0, .bool false]) ∧ Below w.heap.size w w' := by
  obtain ⟨vp, vm, rfl, hp, hm⟩ := hv
  obtain ⟨hB, hV⟩ := vbox w A vp vm hp hm w.heap.size rfl
  have hX := Kept.mk (show isVa A (.agg #[.int .i64 A.kind, .int .i64 A.time, .int .i64 A.node, .bool A.dead, .string ⟨A.text.toArray⟩, vp, vm, .int .u64 (A.flags.toNat : Int)]) (w.alloc (.cells #[.int .i64 A.kind, .int .i64 A.time, .int .i64 A.node, .bool A.dead, .string ⟨A.text.toArray⟩, vp, vm, .int .u64 (A.flags.toNat : Int)] 25)) from ⟨vp, vm, rfl, stable_cells _ _ _ _ hp hB.out, stable_cells _ _ _ _ hm hB.out⟩)
  have HC := Kept.mk (cellsN_at w 25 [.int .i64 A.kind, .int .i64 A.time, .int .i64 A.node, .bool A.dead, .string ⟨A.text.toArray⟩, vp, vm, .int .u64 (A.flags.toNat : Int)] w.heap.size rfl)
  have HK := Kept.mk (show kOf A.kind = 2 by rw [hk]; rfl)
  have HK2 := Kept.mk hk
  clear hp hm hV hk
  have HI := Kept.mk hI
  clear hI
  go_enter Tryz.func48, Tryz.ntmps48
  go_wp2_with fail
  refine (kindOf_any A.kind _).mono ?_; rintro e w' ⟨rfl, rfl⟩
  rewrite [HK.out]
  go_wp2_with fail
  refine kv_count0_region _ _ _ rfl A w.heap.size vp vm rfl rfl rfl HC.out hX.out hF HI.out ?_
  intro f9 W9 d27 hb9
  simp only [List.foldl_cons, List.foldl_nil, d27]
  generalize f9 12 = y12
  generalize f9 13 = y13
  generalize f9 14 = y14
  generalize f9 15 = y15
  generalize f9 16 = y16
  generalize f9 17 = y17
  generalize f9 18 = y18
  generalize f9 19 = y19
  generalize f9 20 = y20
  generalize f9 21 = y21
  generalize f9 22 = y22
  generalize f9 23 = y23
  generalize f9 24 = y24
  generalize f9 25 = y25
  generalize f9 26 = y26
  clear d27
  simp only [List.setIfInBounds_toArray, List.set_cons_succ, List.set_cons_zero]
  replace hB := Kept.mk (hB.out.trans (hb9.mono hB.out.size))
  clear hb9 hX HC
  go_wp2
  go_ret2
  exact ⟨rfl, hB.out⟩
noncomputable def kv_count1Ops : Array Oper := regionOf Tryz.f48 2
set_option maxRecDepth 100000 in
set_option maxHeartbeats 2000000 in
theorem kv_count1_region (Q : Exit → Act → World → Prop) (a0 : Act) (w0 : World) (hsz : a0.tmps.size = 29) (A : Va) (g : Nat) (vp vm : Value) (e1 : a0.tmps.getD 1 undef = .pointer (some ⟨g, 0, none⟩)) (e4 : a0.tmps.getD 4 undef = (.iface 103 (.agg #[]))) (e5 : a0.tmps.getD 5 undef = .bool true) (hc : CellsN w0 g [.int .i64 A.kind, .int .i64 A.time, .int .i64 A.node, .bool A.dead, .string ⟨A.text.toArray⟩, vp, vm, .int .u64 (A.flags.toNat : Int)]) (hX : isVa A (.agg #[.int .i64 A.kind, .int .i64 A.time, .int .i64 A.node, .bool A.dead, .string ⟨A.text.toArray⟩, vp, vm, .int .u64 (A.flags.toNat : Int)]) w0) (hF : Fit A) (hI : inCount A = true)
    (hQ : ∀ (g : Nat → Value) (w : World), g 27 = .bool (!decide (A = onlyCount A)) → Below w0.heap.size w0 w → Q .normal { tmps := [12, 13, 14, 15, 16, 17, 18, 19, 20, 21, 22, 23, 24, 25, 26, 27].foldl (fun t s => t.setIfInBounds s (g s)) a0.tmps, defers := a0.defers } w) :
    (Code.region 2 kv_count1Ops true).wp Tryz.prog Q a0 w0 := by
  refine wp_region_flow mixed (by rw [hsz]; kernel_rfl) ?_
  rw [show kv_count1Ops.size = 16 by kernel_rfl]
  refine ⟨isVal (.bool true), step_move (.tmp 5) (by kernel_rfl) (wanted_none (by kernel_rfl)) (stable_val _) (knows_old 5 (.bool true) (by kernel_rfl) e5), ?_⟩
  refine ⟨isVal (.bool false), step_un .not 4 (.tmp 12) (.bool true) (.bool false) (by kernel_rfl) (wanted_none (by kernel_rfl)) (knows_new (V := isVal (.bool true)) 12 0 (by kernel_rfl) (by kernel_rfl) (by kernel_rfl)) (fun _ => rfl), ?_⟩
  refine ⟨isVal (.bool false), step_move (.tmp 13) (by kernel_rfl) (wanted_none (by kernel_rfl)) (stable_val _) (knows_new (V := isVal (.bool false)) 13 1 (by kernel_rfl) (by kernel_rfl) (by kernel_rfl)), ?_⟩
  refine ⟨isVal (.iface 103 (.agg #[])), step_move (.tmp 4) (by kernel_rfl) (wanted_some 2 14 false (by kernel_rfl) (by kernel_rfl) (by kernel_rfl) (by kernel_rfl)) (stable_val _) (knows_old 4 (.iface 103 (.agg #[])) (by kernel_rfl) e4), ?_⟩
  refine ⟨isVal (.agg #[.int .i64 A.kind, .int .i64 A.time, .int .i64 A.node, .bool A.dead, .string ⟨A.text.toArray⟩, vp, vm, .int .u64 (A.flags.toNat : Int)]), step_loadN 25 (.tmp 1) (g) [.int .i64 A.kind, .int .i64 A.time, .int .i64 A.node, .bool A.dead, .string ⟨A.text.toArray⟩, vp, vm, .int .u64 (A.flags.toNat : Int)] (by kernel_rfl) (wanted_some 2 14 false (by kernel_rfl) (by kernel_rfl) (by kernel_rfl) (by kernel_rfl)) (knows_old 1 (.pointer (some ⟨g, 0, none⟩)) (by kernel_rfl) e1) size_va agg_va hc, ?_⟩
  refine ⟨isVal (.bool true), step_invoke "ouroboros/value.inRange" (.tmp 15) (.iface 103 (.agg #[])) 116 #[.tmp 16] #[25] #[.agg #[.int .i64 A.kind, .int .i64 A.time, .int .i64 A.node, .bool A.dead, .string ⟨A.text.toArray⟩, vp, vm, .int .u64 (A.flags.toNat : Int)]] #[.agg #[], .agg #[.int .i64 A.kind, .int .i64 A.time, .int .i64 A.node, .bool A.dead, .string ⟨A.text.toArray⟩, vp, vm, .int .u64 (A.flags.toNat : Int)]] (by kernel_rfl) (wanted_some 2 14 false (by kernel_rfl) (by kernel_rfl) (by kernel_rfl) (by kernel_rfl)) (stable_val _) (args1 (.tmp 16) (.agg #[.int .i64 A.kind, .int .i64 A.time, .int .i64 A.node, .bool A.dead, .string ⟨A.text.toArray⟩, vp, vm, .int .u64 (A.flags.toNat : Int)]) (knows_new (V := isVal (.agg #[.int .i64 A.kind, .int .i64 A.time, .int .i64 A.node, .bool A.dead, .string ⟨A.text.toArray⟩, vp, vm, .int .u64 (A.flags.toNat : Int)])) 16 4 (by kernel_rfl) (by kernel_rfl) (by kernel_rfl))) (knows_new (V := isVal (.iface 103 (.agg #[]))) 15 3 (by kernel_rfl) (by kernel_rfl) (by kernel_rfl)) (fun w => by kernel_rfl) (by intro w hb; exact call_countIn A true _ w (va_grow hX hb) hF hI), ?_⟩
  refine ⟨isVal (.bool false), step_un .not 4 (.tmp 17) (.bool true) (.bool false) (by kernel_rfl) (wanted_some 2 14 false (by kernel_rfl) (by kernel_rfl) (by kernel_rfl) (by kernel_rfl)) (knows_new (V := isVal (.bool true)) 17 5 (by kernel_rfl) (by kernel_rfl) (by kernel_rfl)) (fun _ => rfl), ?_⟩
  refine ⟨isVal (.bool false), step_pick (.tmp 14) (.const (.bool true)) (.tmp 18) false (by kernel_rfl) (wanted_none (by kernel_rfl)) (stable_val _) (knows_new (V := isVal (.bool false)) 14 2 (by kernel_rfl) (by kernel_rfl) (by kernel_rfl)) (knows_new (V := isVal (.bool false)) 18 6 (by kernel_rfl) (by kernel_rfl) (by kernel_rfl)), ?_⟩
  refine ⟨isVal (.bool false), step_move (.tmp 19) (by kernel_rfl) (wanted_none (by kernel_rfl)) (stable_val _) (knows_new (V := isVal (.bool false)) 19 7 (by kernel_rfl) (by kernel_rfl) (by kernel_rfl)), ?_⟩
  refine ⟨isVal (.agg #[.int .i64 A.kind, .int .i64 A.time, .int .i64 A.node, .bool A.dead, .string ⟨A.text.toArray⟩, vp, vm, .int .u64 (A.flags.toNat : Int)]), step_loadN 25 (.tmp 1) (g) [.int .i64 A.kind, .int .i64 A.time, .int .i64 A.node, .bool A.dead, .string ⟨A.text.toArray⟩, vp, vm, .int .u64 (A.flags.toNat : Int)] (by kernel_rfl) (wanted_some 8 20 false (by kernel_rfl) (by kernel_rfl) (by kernel_rfl) (by kernel_rfl)) (knows_old 1 (.pointer (some ⟨g, 0, none⟩)) (by kernel_rfl) e1) size_va agg_va hc, ?_⟩
  refine ⟨isVal (.iface 103 (.agg #[])), step_move (.tmp 4) (by kernel_rfl) (wanted_some 8 20 false (by kernel_rfl) (by kernel_rfl) (by kernel_rfl) (by kernel_rfl)) (stable_val _) (knows_old 4 (.iface 103 (.agg #[])) (by kernel_rfl) e4), ?_⟩
  refine ⟨isVal (.agg #[.int .i64 A.kind, .int .i64 A.time, .int .i64 A.node, .bool A.dead, .string ⟨A.text.toArray⟩, vp, vm, .int .u64 (A.flags.toNat : Int)]), step_loadN 25 (.tmp 1) (g) [.int .i64 A.kind, .int .i64 A.time, .int .i64 A.node, .bool A.dead, .string ⟨A.text.toArray⟩, vp, vm, .int .u64 (A.flags.toNat : Int)] (by kernel_rfl) (wanted_some 8 20 false (by kernel_rfl) (by kernel_rfl) (by kernel_rfl) (by kernel_rfl)) (knows_old 1 (.pointer (some ⟨g, 0, none⟩)) (by kernel_rfl) e1) size_va agg_va hc, ?_⟩
  refine ⟨(isVa (onlyCount A)), step_invoke "ouroboros/value.only" (.tmp 22) (.iface 103 (.agg #[])) 119 #[.tmp 23] #[25] #[.agg #[.int .i64 A.kind, .int .i64 A.time, .int .i64 A.node, .bool A.dead, .string ⟨A.text.toArray⟩, vp, vm, .int .u64 (A.flags.toNat : Int)]] #[.agg #[], .agg #[.int .i64 A.kind, .int .i64 A.time, .int .i64 A.node, .bool A.dead, .string ⟨A.text.toArray⟩, vp, vm, .int .u64 (A.flags.toNat : Int)]] (by kernel_rfl) (wanted_some 8 20 false (by kernel_rfl) (by kernel_rfl) (by kernel_rfl) (by kernel_rfl)) (stable_va _) (args1 (.tmp 23) (.agg #[.int .i64 A.kind, .int .i64 A.time, .int .i64 A.node, .bool A.dead, .string ⟨A.text.toArray⟩, vp, vm, .int .u64 (A.flags.toNat : Int)]) (knows_new (V := isVal (.agg #[.int .i64 A.kind, .int .i64 A.time, .int .i64 A.node, .bool A.dead, .string ⟨A.text.toArray⟩, vp, vm, .int .u64 (A.flags.toNat : Int)])) 23 11 (by kernel_rfl) (by kernel_rfl) (by kernel_rfl))) (knows_new (V := isVal (.iface 103 (.agg #[]))) 22 10 (by kernel_rfl) (by kernel_rfl) (by kernel_rfl)) (fun w => by kernel_rfl) (by intro w hb; exact call_countOnly A _ w (va_grow hX hb) hF), ?_⟩
  refine ⟨isVal (.bool (decide (A = onlyCount A))), step_callP 33 #[.tmp 21, .tmp 24] #[25, 25] (by kernel_rfl) (wanted_some 8 20 false (by kernel_rfl) (by kernel_rfl) (by kernel_rfl) (by kernel_rfl)) (stable_val _) (enters_of Tryz.func33 (by kernel_rfl) rfl) (fun vs w => ∃ u v, vs = #[u, v] ∧ isVal (.agg #[.int .i64 A.kind, .int .i64 A.time, .int .i64 A.node, .bool A.dead, .string ⟨A.text.toArray⟩, vp, vm, .int .u64 (A.flags.toNat : Int)]) u w ∧ isVa (onlyCount A) v w) (pre2 (knows_new (V := isVal (.agg #[.int .i64 A.kind, .int .i64 A.time, .int .i64 A.node, .bool A.dead, .string ⟨A.text.toArray⟩, vp, vm, .int .u64 (A.flags.toNat : Int)])) 21 9 (by kernel_rfl) (by kernel_rfl) (by kernel_rfl)) (knows_new (V := (isVa (onlyCount A))) 24 12 (by kernel_rfl) (by kernel_rfl) (by kernel_rfl))) (by rintro vs w hb ⟨u, v, rfl, rfl, hv⟩; exact call_same A (onlyCount A) _ v w (va_grow hX hb) hv hF (same_self A hF).2.2.1 (same_self A hF).2.2.2.1), ?_⟩
  refine ⟨isVal (.bool (!decide (A = onlyCount A))), step_un .not 4 (.tmp 25) (.bool (decide (A = onlyCount A))) (.bool (!decide (A = onlyCount A))) (by kernel_rfl) (wanted_some 8 20 false (by kernel_rfl) (by kernel_rfl) (by kernel_rfl) (by kernel_rfl)) (knows_new (V := isVal (.bool (decide (A = onlyCount A)))) 25 13 (by kernel_rfl) (by kernel_rfl) (by kernel_rfl)) (fun _ => rfl), ?_⟩
  refine ⟨isVal (.bool (!decide (A = onlyCount A))), step_pick (.tmp 20) (.const (.bool true)) (.tmp 26) false (by kernel_rfl) (wanted_none (by kernel_rfl)) (stable_val _) (knows_new (V := isVal (.bool false)) 20 8 (by kernel_rfl) (by kernel_rfl) (by kernel_rfl)) (knows_new (V := isVal (.bool (!decide (A = onlyCount A)))) 26 14 (by kernel_rfl) (by kernel_rfl) (by kernel_rfl)), ?_⟩
  intro a w hkp hb hd
  rw [kept_of hkp [some 12, some 13, some 14, some 15, some 16, some 17, some 18, some 19, some 20, some 21, some 22, some 23, some 24, some 25, some 26, some 27] [12, 13, 14, 15, 16, 17, 18, 19, 20, 21, 22, 23, 24, 25, 26, 27] (by kernel_rfl) (by decide)]
  have d27 := fdone_of (hd 15 (by rw [show kv_count1Ops.size = 16 by kernel_rfl]; decide)) (t := 27) (V := isVal (.bool (!decide (A = onlyCount A)))) (by kernel_rfl) (by kernel_rfl)
  exact hQ (fun s => a.tmps.getD s undef) w d27 hb
set_option maxRecDepth 20000 in
set_option maxHeartbeats 1000000 in
theorem kv_count1_any (A : Va) (v : Value) (w : World) (hv : isVa A v w) (hF : Fit A) (hk : A.kind = 2) (hI : inCount A = true) (z : Bool) (hz : decide (A = onlyCount A) = z) :
    Calls Tryz.prog 48 #[v] w fun e w' => e = .returned (.tuple #[ifaceK (if z = true then 2 else 0), .bool z]) ∧ Below w.heap.size w w' := by
  obtain ⟨vp, vm, rfl, hp, hm⟩ := hv
  obtain ⟨hB, hV⟩ := vbox w A vp vm hp hm w.heap.size rfl
  have hX := Kept.mk (show isVa A (.agg #[.int .i64 A.kind, .int .i64 A.time, .int .i64 A.node, .bool A.dead, .string ⟨A.text.toArray⟩, vp, vm, .int .u64 (A.flags.toNat : Int)]) (w.alloc (.cells #[.int .i64 A.kind, .int .i64 A.time, .int .i64 A.node, .bool A.dead, .string ⟨A.text.toArray⟩, vp, vm, .int .u64 (A.flags.toNat : Int)] 25)) from ⟨vp, vm, rfl, stable_cells _ _ _ _ hp hB.out, stable_cells _ _ _ _ hm hB.out⟩)
  have HC := Kept.mk (cellsN_at w 25 [.int .i64 A.kind, .int .i64 A.time, .int .i64 A.node, .bool A.dead, .string ⟨A.text.toArray⟩, vp, vm, .int .u64 (A.flags.toNat : Int)] w.heap.size rfl)
  have HK := Kept.mk (show kOf A.kind = 2 by rw [hk]; rfl)
  have HK2 := Kept.mk hk
  clear hp hm hV hk
  have HZ := Kept.mk hz
  clear hz
  have HI := Kept.mk hI
  clear hI
  go_enter Tryz.func48, Tryz.ntmps48
  go_wp2_with fail
  refine (kindOf_any A.kind _).mono ?_; rintro e w' ⟨rfl, rfl⟩
  rewrite [HK.out]
  go_wp2_with fail
  refine kv_count1_region _ _ _ rfl A w.heap.size vp vm rfl rfl rfl HC.out hX.out hF HI.out ?_
  intro f9 W9 d27 hb9
  simp only [List.foldl_cons, List.foldl_nil, d27]
  generalize f9 12 = y12
  generalize f9 13 = y13
  generalize f9 14 = y14
  generalize f9 15 = y15
  generalize f9 16 = y16
  generalize f9 17 = y17
  generalize f9 18 = y18
  generalize f9 19 = y19
  generalize f9 20 = y20
  generalize f9 21 = y21
  generalize f9 22 = y22
  generalize f9 23 = y23
  generalize f9 24 = y24
  generalize f9 25 = y25
  generalize f9 26 = y26
  clear d27
  simp only [List.setIfInBounds_toArray, List.set_cons_succ, List.set_cons_zero]
  replace hB := Kept.mk (hB.out.trans (hb9.mono hB.out.size))
  clear hb9 hX HC
  rw [HZ.out]
  cases z
  · go_wp2
    go_ret2
    exact ⟨rfl, hB.out⟩
  · go_wp2
    go_ret2
    exact ⟨rfl, hB.out⟩
noncomputable def kv_flags1Ops : Array Oper := regionOf Tryz.f48 2
set_option maxRecDepth 100000 in
set_option maxHeartbeats 2000000 in
theorem kv_flags1_region (Q : Exit → Act → World → Prop) (a0 : Act) (w0 : World) (hsz : a0.tmps.size = 29) (A : Va) (g : Nat) (vp vm : Value) (e1 : a0.tmps.getD 1 undef = .pointer (some ⟨g, 0, none⟩)) (e4 : a0.tmps.getD 4 undef = (.iface 104 (.agg #[]))) (e5 : a0.tmps.getD 5 undef = .bool true) (hc : CellsN w0 g [.int .i64 A.kind, .int .i64 A.time, .int .i64 A.node, .bool A.dead, .string ⟨A.text.toArray⟩, vp, vm, .int .u64 (A.flags.toNat : Int)]) (hX : isVa A (.agg #[.int .i64 A.kind, .int .i64 A.time, .int .i64 A.node, .bool A.dead, .string ⟨A.text.toArray⟩, vp, vm, .int .u64 (A.flags.toNat : Int)]) w0) (hF : Fit A) (hI : true = true)
    (hQ : ∀ (g : Nat → Value) (w : World), g 27 = .bool (!decide (A = onlyFlags A)) → Below w0.heap.size w0 w → Q .normal { tmps := [12, 13, 14, 15, 16, 17, 18, 19, 20, 21, 22, 23, 24, 25, 26, 27].foldl (fun t s => t.setIfInBounds s (g s)) a0.tmps, defers := a0.defers } w) :
    (Code.region 2 kv_flags1Ops true).wp Tryz.prog Q a0 w0 := by
  refine wp_region_flow mixed (by rw [hsz]; kernel_rfl) ?_
  rw [show kv_flags1Ops.size = 16 by kernel_rfl]
  refine ⟨isVal (.bool true), step_move (.tmp 5) (by kernel_rfl) (wanted_none (by kernel_rfl)) (stable_val _) (knows_old 5 (.bool true) (by kernel_rfl) e5), ?_⟩
  refine ⟨isVal (.bool false), step_un .not 4 (.tmp 12) (.bool true) (.bool false) (by kernel_rfl) (wanted_none (by kernel_rfl)) (knows_new (V := isVal (.bool true)) 12 0 (by kernel_rfl) (by kernel_rfl) (by kernel_rfl)) (fun _ => rfl), ?_⟩
  refine ⟨isVal (.bool false), step_move (.tmp 13) (by kernel_rfl) (wanted_none (by kernel_rfl)) (stable_val _) (knows_new (V := isVal (.bool false)) 13 1 (by kernel_rfl) (by kernel_rfl) (by kernel_rfl)), ?_⟩
  refine ⟨isVal (.iface 104 (.agg #[])), step_move (.tmp 4) (by kernel_rfl) (wanted_some 2 14 false (by kernel_rfl) (by kernel_rfl) (by kernel_rfl) (by kernel_rfl)) (stable_val _) (knows_old 4 (.iface 104 (.agg #[])) (by kernel_rfl) e4), ?_⟩
  refine ⟨isVal (.agg #[.int .i64 A.kind, .int .i64 A.time, .int .i64 A.node, .bool A.dead, .string ⟨A.text.toArray⟩, vp, vm, .int .u64 (A.flags.toNat : Int)]), step_loadN 25 (.tmp 1) (g) [.int .i64 A.kind, .int .i64 A.time, .int .i64 A.node, .bool A.dead, .string ⟨A.text.toArray⟩, vp, vm, .int .u64 (A.flags.toNat : Int)] (by kernel_rfl) (wanted_some 2 14 false (by kernel_rfl) (by kernel_rfl) (by kernel_rfl) (by kernel_rfl)) (knows_old 1 (.pointer (some ⟨g, 0, none⟩)) (by kernel_rfl) e1) size_va agg_va hc, ?_⟩
  refine ⟨isVal (.bool true), step_invoke "ouroboros/value.inRange" (.tmp 15) (.iface 104 (.agg #[])) 129 #[.tmp 16] #[25] #[.agg #[.int .i64 A.kind, .int .i64 A.time, .int .i64 A.node, .bool A.dead, .string ⟨A.text.toArray⟩, vp, vm, .int .u64 (A.flags.toNat : Int)]] #[.agg #[], .agg #[.int .i64 A.kind, .int .i64 A.time, .int .i64 A.node, .bool A.dead, .string ⟨A.text.toArray⟩, vp, vm, .int .u64 (A.flags.toNat : Int)]] (by kernel_rfl) (wanted_some 2 14 false (by kernel_rfl) (by kernel_rfl) (by kernel_rfl) (by kernel_rfl)) (stable_val _) (args1 (.tmp 16) (.agg #[.int .i64 A.kind, .int .i64 A.time, .int .i64 A.node, .bool A.dead, .string ⟨A.text.toArray⟩, vp, vm, .int .u64 (A.flags.toNat : Int)]) (knows_new (V := isVal (.agg #[.int .i64 A.kind, .int .i64 A.time, .int .i64 A.node, .bool A.dead, .string ⟨A.text.toArray⟩, vp, vm, .int .u64 (A.flags.toNat : Int)])) 16 4 (by kernel_rfl) (by kernel_rfl) (by kernel_rfl))) (knows_new (V := isVal (.iface 104 (.agg #[]))) 15 3 (by kernel_rfl) (by kernel_rfl) (by kernel_rfl)) (fun w => by kernel_rfl) (by intro w hb; exact call_flagsIn A true _ w (va_grow hX hb) hF hI), ?_⟩
  refine ⟨isVal (.bool false), step_un .not 4 (.tmp 17) (.bool true) (.bool false) (by kernel_rfl) (wanted_some 2 14 false (by kernel_rfl) (by kernel_rfl) (by kernel_rfl) (by kernel_rfl)) (knows_new (V := isVal (.bool true)) 17 5 (by kernel_rfl) (by kernel_rfl) (by kernel_rfl)) (fun _ => rfl), ?_⟩
  refine ⟨isVal (.bool false), step_pick (.tmp 14) (.const (.bool true)) (.tmp 18) false (by kernel_rfl) (wanted_none (by kernel_rfl)) (stable_val _) (knows_new (V := isVal (.bool false)) 14 2 (by kernel_rfl) (by kernel_rfl) (by kernel_rfl)) (knows_new (V := isVal (.bool false)) 18 6 (by kernel_rfl) (by kernel_rfl) (by kernel_rfl)), ?_⟩
  refine ⟨isVal (.bool false), step_move (.tmp 19) (by kernel_rfl) (wanted_none (by kernel_rfl)) (stable_val _) (knows_new (V := isVal (.bool false)) 19 7 (by kernel_rfl) (by kernel_rfl) (by kernel_rfl)), ?_⟩
  refine ⟨isVal (.agg #[.int .i64 A.kind, .int .i64 A.time, .int .i64 A.node, .bool A.dead, .string ⟨A.text.toArray⟩, vp, vm, .int .u64 (A.flags.toNat : Int)]), step_loadN 25 (.tmp 1) (g) [.int .i64 A.kind, .int .i64 A.time, .int .i64 A.node, .bool A.dead, .string ⟨A.text.toArray⟩, vp, vm, .int .u64 (A.flags.toNat : Int)] (by kernel_rfl) (wanted_some 8 20 false (by kernel_rfl) (by kernel_rfl) (by kernel_rfl) (by kernel_rfl)) (knows_old 1 (.pointer (some ⟨g, 0, none⟩)) (by kernel_rfl) e1) size_va agg_va hc, ?_⟩
  refine ⟨isVal (.iface 104 (.agg #[])), step_move (.tmp 4) (by kernel_rfl) (wanted_some 8 20 false (by kernel_rfl) (by kernel_rfl) (by kernel_rfl) (by kernel_rfl)) (stable_val _) (knows_old 4 (.iface 104 (.agg #[])) (by kernel_rfl) e4), ?_⟩
  refine ⟨isVal (.agg #[.int .i64 A.kind, .int .i64 A.time, .int .i64 A.node, .bool A.dead, .string ⟨A.text.toArray⟩, vp, vm, .int .u64 (A.flags.toNat : Int)]), step_loadN 25 (.tmp 1) (g) [.int .i64 A.kind, .int .i64 A.time, .int .i64 A.node, .bool A.dead, .string ⟨A.text.toArray⟩, vp, vm, .int .u64 (A.flags.toNat : Int)] (by kernel_rfl) (wanted_some 8 20 false (by kernel_rfl) (by kernel_rfl) (by kernel_rfl) (by kernel_rfl)) (knows_old 1 (.pointer (some ⟨g, 0, none⟩)) (by kernel_rfl) e1) size_va agg_va hc, ?_⟩
  refine ⟨(isVa (onlyFlags A)), step_invoke "ouroboros/value.only" (.tmp 22) (.iface 104 (.agg #[])) 132 #[.tmp 23] #[25] #[.agg #[.int .i64 A.kind, .int .i64 A.time, .int .i64 A.node, .bool A.dead, .string ⟨A.text.toArray⟩, vp, vm, .int .u64 (A.flags.toNat : Int)]] #[.agg #[], .agg #[.int .i64 A.kind, .int .i64 A.time, .int .i64 A.node, .bool A.dead, .string ⟨A.text.toArray⟩, vp, vm, .int .u64 (A.flags.toNat : Int)]] (by kernel_rfl) (wanted_some 8 20 false (by kernel_rfl) (by kernel_rfl) (by kernel_rfl) (by kernel_rfl)) (stable_va _) (args1 (.tmp 23) (.agg #[.int .i64 A.kind, .int .i64 A.time, .int .i64 A.node, .bool A.dead, .string ⟨A.text.toArray⟩, vp, vm, .int .u64 (A.flags.toNat : Int)]) (knows_new (V := isVal (.agg #[.int .i64 A.kind, .int .i64 A.time, .int .i64 A.node, .bool A.dead, .string ⟨A.text.toArray⟩, vp, vm, .int .u64 (A.flags.toNat : Int)])) 23 11 (by kernel_rfl) (by kernel_rfl) (by kernel_rfl))) (knows_new (V := isVal (.iface 104 (.agg #[]))) 22 10 (by kernel_rfl) (by kernel_rfl) (by kernel_rfl)) (fun w => by kernel_rfl) (by intro w hb; exact call_flagsOnly A _ w (va_grow hX hb) hF), ?_⟩
  refine ⟨isVal (.bool (decide (A = onlyFlags A))), step_callP 33 #[.tmp 21, .tmp 24] #[25, 25] (by kernel_rfl) (wanted_some 8 20 false (by kernel_rfl) (by kernel_rfl) (by kernel_rfl) (by kernel_rfl)) (stable_val _) (enters_of Tryz.func33 (by kernel_rfl) rfl) (fun vs w => ∃ u v, vs = #[u, v] ∧ isVal (.agg #[.int .i64 A.kind, .int .i64 A.time, .int .i64 A.node, .bool A.dead, .string ⟨A.text.toArray⟩, vp, vm, .int .u64 (A.flags.toNat : Int)]) u w ∧ isVa (onlyFlags A) v w) (pre2 (knows_new (V := isVal (.agg #[.int .i64 A.kind, .int .i64 A.time, .int .i64 A.node, .bool A.dead, .string ⟨A.text.toArray⟩, vp, vm, .int .u64 (A.flags.toNat : Int)])) 21 9 (by kernel_rfl) (by kernel_rfl) (by kernel_rfl)) (knows_new (V := (isVa (onlyFlags A))) 24 12 (by kernel_rfl) (by kernel_rfl) (by kernel_rfl))) (by rintro vs w hb ⟨u, v, rfl, rfl, hv⟩; exact call_same A (onlyFlags A) _ v w (va_grow hX hb) hv hF (same_self A hF).2.2.2.2.1 (same_self A hF).2.2.2.2.2), ?_⟩
  refine ⟨isVal (.bool (!decide (A = onlyFlags A))), step_un .not 4 (.tmp 25) (.bool (decide (A = onlyFlags A))) (.bool (!decide (A = onlyFlags A))) (by kernel_rfl) (wanted_some 8 20 false (by kernel_rfl) (by kernel_rfl) (by kernel_rfl) (by kernel_rfl)) (knows_new (V := isVal (.bool (decide (A = onlyFlags A)))) 25 13 (by kernel_rfl) (by kernel_rfl) (by kernel_rfl)) (fun _ => rfl), ?_⟩
  refine ⟨isVal (.bool (!decide (A = onlyFlags A))), step_pick (.tmp 20) (.const (.bool true)) (.tmp 26) false (by kernel_rfl) (wanted_none (by kernel_rfl)) (stable_val _) (knows_new (V := isVal (.bool false)) 20 8 (by kernel_rfl) (by kernel_rfl) (by kernel_rfl)) (knows_new (V := isVal (.bool (!decide (A = onlyFlags A)))) 26 14 (by kernel_rfl) (by kernel_rfl) (by kernel_rfl)), ?_⟩
  intro a w hkp hb hd
  rw [kept_of hkp [some 12, some 13, some 14, some 15, some 16, some 17, some 18, some 19, some 20, some 21, some 22, some 23, some 24, some 25, some 26, some 27] [12, 13, 14, 15, 16, 17, 18, 19, 20, 21, 22, 23, 24, 25, 26, 27] (by kernel_rfl) (by decide)]
  have d27 := fdone_of (hd 15 (by rw [show kv_flags1Ops.size = 16 by kernel_rfl]; decide)) (t := 27) (V := isVal (.bool (!decide (A = onlyFlags A)))) (by kernel_rfl) (by kernel_rfl)
  exact hQ (fun s => a.tmps.getD s undef) w d27 hb
set_option maxRecDepth 20000 in
set_option maxHeartbeats 1000000 in
theorem kv_flags1_any (A : Va) (v : Value) (w : World) (hv : isVa A v w) (hF : Fit A) (hk : A.kind = 3) (z : Bool) (hz : decide (A = onlyFlags A) = z) :
    Calls Tryz.prog 48 #[v] w fun e w' => e = .returned (.tuple #[ifaceK (if z = true then 3 else 0), .bool z]) ∧ Below w.heap.size w w' := by
  obtain ⟨vp, vm, rfl, hp, hm⟩ := hv
  obtain ⟨hB, hV⟩ := vbox w A vp vm hp hm w.heap.size rfl
  have hX := Kept.mk (show isVa A (.agg #[.int .i64 A.kind, .int .i64 A.time, .int .i64 A.node, .bool A.dead, .string ⟨A.text.toArray⟩, vp, vm, .int .u64 (A.flags.toNat : Int)]) (w.alloc (.cells #[.int .i64 A.kind, .int .i64 A.time, .int .i64 A.node, .bool A.dead, .string ⟨A.text.toArray⟩, vp, vm, .int .u64 (A.flags.toNat : Int)] 25)) from ⟨vp, vm, rfl, stable_cells _ _ _ _ hp hB.out, stable_cells _ _ _ _ hm hB.out⟩)
  have HC := Kept.mk (cellsN_at w 25 [.int .i64 A.kind, .int .i64 A.time, .int .i64 A.node, .bool A.dead, .string ⟨A.text.toArray⟩, vp, vm, .int .u64 (A.flags.toNat : Int)] w.heap.size rfl)
  have HK := Kept.mk (show kOf A.kind = 3 by rw [hk]; rfl)
  have HK2 := Kept.mk hk
  clear hp hm hV hk
  have HZ := Kept.mk hz
  clear hz
  go_enter Tryz.func48, Tryz.ntmps48
  go_wp2_with fail
  refine (kindOf_any A.kind _).mono ?_; rintro e w' ⟨rfl, rfl⟩
  rewrite [HK.out]
  go_wp2_with fail
  refine kv_flags1_region _ _ _ rfl A w.heap.size vp vm rfl rfl rfl HC.out hX.out hF rfl ?_
  intro f9 W9 d27 hb9
  simp only [List.foldl_cons, List.foldl_nil, d27]
  generalize f9 12 = y12
  generalize f9 13 = y13
  generalize f9 14 = y14
  generalize f9 15 = y15
  generalize f9 16 = y16
  generalize f9 17 = y17
  generalize f9 18 = y18
  generalize f9 19 = y19
  generalize f9 20 = y20
  generalize f9 21 = y21
  generalize f9 22 = y22
  generalize f9 23 = y23
  generalize f9 24 = y24
  generalize f9 25 = y25
  generalize f9 26 = y26
  clear d27
  simp only [List.setIfInBounds_toArray, List.set_cons_succ, List.set_cons_zero]
  replace hB := Kept.mk (hB.out.trans (hb9.mono hB.out.size))
  clear hb9 hX HC
  rw [HZ.out]
  cases z
  · go_wp2
    go_ret2
    exact ⟨rfl, hB.out⟩
  · go_wp2
    go_ret2
    exact ⟨rfl, hB.out⟩
end Go.Proofs.YtebjljiklacolaaGreat
end
section
namespace Go.Proofs.YtebjljiklacolaaGreat
open Go.RowKit
set_option linter.unusedVariables false
set_option linter.unusedSimpArgs false
attribute [local irreducible] setN

theorem kv_any (A : Va) (v : Value) (w : World) (hv : isVa A v w) (hF : Fit A) :
    Calls Tryz.prog 48 #[v] w fun e w' => e = .returned (.tuple #[ifaceK (kindN A), .bool (okV A)]) ∧ Below w.heap.size w w' := by
  unfold okV
  by_cases h1 : A.kind = 1
  · have hk : kindN A = if (inReg A && decide (A = onlyReg A)) = true then 1 else 0 := by unfold kindN; rw [if_pos h1]
    cases hI : inReg A with
    | false => rw [hk, hI]; exact kv_reg0_any A v w hv hF h1 hI
    | true =>
      have := kv_reg1_any A v w hv hF h1 hI _ rfl
      rw [hk, hI, Bool.true_and]
      cases hz : decide (A = onlyReg A) with
      | false => rw [hz] at this; exact this
      | true => rw [hz] at this; exact this
  · by_cases h2 : A.kind = 2
    · have hk : kindN A = if (inCount A && decide (A = onlyCount A)) = true then 2 else 0 := by unfold kindN; rw [if_neg h1, if_pos h2]
      cases hI : inCount A with
      | false => rw [hk, hI]; exact kv_count0_any A v w hv hF h2 hI
      | true =>
        have := kv_count1_any A v w hv hF h2 hI _ rfl
        rw [hk, hI, Bool.true_and]
        cases hz : decide (A = onlyCount A) with
        | false => rw [hz] at this; exact this
        | true => rw [hz] at this; exact this
    · by_cases h3 : A.kind = 3
      · have hk : kindN A = if decide (A = onlyFlags A) = true then 3 else 0 := by unfold kindN; rw [if_neg h1, if_neg h2, if_pos h3]
        have := kv_flags1_any A v w hv hF h3 _ rfl
        rw [hk]
        cases hz : decide (A = onlyFlags A) with
        | false => rw [hz] at this; exact this
        | true => rw [hz] at this; exact this
      · have hk : kindN A = 0 := by unfold kindN; rw [if_neg h1, if_neg h2, if_neg h3]
        rw [hk]
        exact kv_none_any A v w hv hF (by unfold kOf; rw [if_neg h1, if_neg h2, if_neg h3])
def checkV (A : Va) : Int := if okV A = true then 0 else 2
set_option maxRecDepth 20000 in
set_option maxHeartbeats 1000000 in
theorem vcheck_any (A : Va) (v : Value) (w : World) (hv : isVa A v w) (hF : Fit A) :
    Calls Tryz.prog 32 #[v] w fun e w' => e = .returned (.int .i64 (checkV A)) ∧ Below w.heap.size w w' := by
  obtain ⟨vp, vm, rfl, hp, hm⟩ := hv
  obtain ⟨hB, hV⟩ := vbox w A vp vm hp hm w.heap.size rfl
  have hX := Kept.mk (show isVa A (.agg #[.int .i64 A.kind, .int .i64 A.time, .int .i64 A.node, .bool A.dead, .string ⟨A.text.toArray⟩, vp, vm, .int .u64 (A.flags.toNat : Int)]) (w.alloc (.cells #[.int .i64 A.kind, .int .i64 A.time, .int .i64 A.node, .bool A.dead, .string ⟨A.text.toArray⟩, vp, vm, .int .u64 (A.flags.toNat : Int)] 25)) from ⟨vp, vm, rfl, stable_cells _ _ _ _ hp hB.out, stable_cells _ _ _ _ hm hB.out⟩)
  clear hp hm
  have HC := Kept.mk (show checkV A = if okV A = true then 0 else 2 from rfl)
  go_enter Tryz.func32, Tryz.ntmps32
  go_wp2_with fail
  refine (kv_any A _ _ hX.out hF).mono ?_
  rintro e w1 ⟨rfl, hb1⟩
  replace hB := Kept.mk (hB.out.trans (hb1.mono hB.out.size))
  clear hb1 hX hV
  generalize kindN A = kn
  cases hz : okV A with
  | false =>
    rw [hz] at HC
    go_wp2
    go_ret
    exact ⟨by rw [HC.out]; rfl, hB.out⟩
  | true =>
    rw [hz] at HC
    go_wp2
    go_ret
    exact ⟨by rw [HC.out]; rfl, hB.out⟩
theorem leastF_rows (k : Int) : (leastF k).plus.length ≤ 8 ∧ (leastF k).minus.length ≤ 8 := by
  unfold leastF
  split
  · exact ⟨by simp, by simp⟩
  · split
    · exact ⟨by simp, by simp⟩
    · split <;> exact ⟨by simp [zeroV], by simp [zeroV]⟩
end Go.Proofs.YtebjljiklacolaaGreat
end
section
namespace Go.Proofs.YtebjljiklacolaaGreat
open Go.RowKit
set_option linter.unusedVariables false
set_option linter.unusedSimpArgs false
attribute [local irreducible] setN

theorem kindN_two {A : Va} (h : kindN A = 2) : okV A = true ∧ A.kind = 2 ∧ okRow A.plus = true ∧ okRow A.minus = true := by
  have ho : okV A = true := by unfold okV; rw [h]; rfl
  have hk : A.kind = 2 := by have := kindN_ok ho; rw [h] at this; omega
  have := (ok_count ho hk).1
  unfold inCount at this
  rw [Bool.and_eq_true] at this
  exact ⟨ho, hk, this⟩
theorem okRow_all {l : List Int} (h : okRow l = true) : l.all okNum = true := by unfold okRow at h; rw [Bool.and_eq_true] at h; exact h.2
theorem kindN_le (A : Va) : kindN A = 0 ∨ kindN A = 1 ∨ kindN A = 2 ∨ kindN A = 3 := by
  unfold kindN
  split
  · split <;> simp
  · split
    · split <;> simp
    · split
      · split <;> simp
      · simp
set_option maxRecDepth 20000 in
set_option maxHeartbeats 1000000 in
theorem vjoin_no1 (A B : Va) (v u : Value) (w : World) (hv : isVa A v w) (hu : isVa B u w) (hA : Fit A) (hB0 : Fit B) (h : okV A = false) :
    Calls Tryz.prog 28 #[v, u] w fun e w' => ∃ v', e = .returned (.tuple #[v', .int .i64 2]) ∧ isVaN w.heap.size zeroV v' w' ∧ Below w.heap.size w w' := by
  obtain ⟨vp, vm, rfl, hp, hm⟩ := hv
  obtain ⟨up, um, rfl, gp, gm⟩ := hu
  obtain ⟨hB1, hV⟩ := vbox w A vp vm hp hm w.heap.size rfl
  obtain ⟨hB2, hU⟩ := vbox (w.alloc (.cells #[.int .i64 A.kind, .int .i64 A.time, .int .i64 A.node, .bool A.dead, .string ⟨A.text.toArray⟩, vp, vm, .int .u64 (A.flags.toNat : Int)] 25)) B up um (stable_cells _ _ _ _ gp hB1.out) (stable_cells _ _ _ _ gm hB1.out) (w.heap.size + 1) (by simp)
  have hB3 := lit_below ((w.alloc (.cells #[.int .i64 A.kind, .int .i64 A.time, .int .i64 A.node, .bool A.dead, .string ⟨A.text.toArray⟩, vp, vm, .int .u64 (A.flags.toNat : Int)] 25)).alloc (.cells #[.int .i64 B.kind, .int .i64 B.time, .int .i64 B.node, .bool B.dead, .string ⟨B.text.toArray⟩, up, um, .int .u64 (B.flags.toNat : Int)] 25)) (.cells #[.int .i64 0, .int .i64 0, .int .i64 0, .bool false, .string ⟨#[]⟩, .slice none 0 0, .slice none 0 0, .int .u64 0] 25)
  have HZ := Kept.mk (cellsN_at ((w.alloc (.cells #[.int .i64 A.kind, .int .i64 A.time, .int .i64 A.node, .bool A.dead, .string ⟨A.text.toArray⟩, vp, vm, .int .u64 (A.flags.toNat : Int)] 25)).alloc (.cells #[.int .i64 B.kind, .int .i64 B.time, .int .i64 B.node, .bool B.dead, .string ⟨B.text.toArray⟩, up, um, .int .u64 (B.flags.toNat : Int)] 25)) 25 [.int .i64 0, .int .i64 0, .int .i64 0, .bool false, .string ⟨#[]⟩, .slice none 0 0, .slice none 0 0, .int .u64 0] (w.heap.size + 2) (by simp))
  have HF := Kept.mk (free5_at ((w.alloc (.cells #[.int .i64 A.kind, .int .i64 A.time, .int .i64 A.node, .bool A.dead, .string ⟨A.text.toArray⟩, vp, vm, .int .u64 (A.flags.toNat : Int)] 25)).alloc (.cells #[.int .i64 B.kind, .int .i64 B.time, .int .i64 B.node, .bool B.dead, .string ⟨B.text.toArray⟩, up, um, .int .u64 (B.flags.toNat : Int)] 25)) #[.int .i64 0, .int .i64 0, .int .i64 0, .bool false, .string ⟨#[]⟩, .slice none 0 0, .slice none 0 0, .int .u64 0] 25 (w.heap.size + 2) (by simp))
  replace hV := Kept.mk ((hV.out.keep hB2.out).keep hB3)
  replace hU := Kept.mk (hU.out.keep hB3)
  have hB := Kept.mk ((hB1.out.trans (hB2.out.mono hB1.out.size)).trans (hB3.mono (hB1.out.trans (hB2.out.mono hB1.out.size)).size))
  have hX := Kept.mk (show isVa A (.agg #[.int .i64 A.kind, .int .i64 A.time, .int .i64 A.node, .bool A.dead, .string ⟨A.text.toArray⟩, vp, vm, .int .u64 (A.flags.toNat : Int)]) (((w.alloc (.cells #[.int .i64 A.kind, .int .i64 A.time, .int .i64 A.node, .bool A.dead, .string ⟨A.text.toArray⟩, vp, vm, .int .u64 (A.flags.toNat : Int)] 25)).alloc (.cells #[.int .i64 B.kind, .int .i64 B.time, .int .i64 B.node, .bool B.dead, .string ⟨B.text.toArray⟩, up, um, .int .u64 (B.flags.toNat : Int)] 25)).alloc (.cells #[.int .i64 0, .int .i64 0, .int .i64 0, .bool false, .string ⟨#[]⟩, .slice none 0 0, .slice none 0 0, .int .u64 0] 25)) from ⟨vp, vm, rfl, stable_cells _ _ _ _ hp hB.out, stable_cells _ _ _ _ hm hB.out⟩)
  have hs : (((w.alloc (.cells #[.int .i64 A.kind, .int .i64 A.time, .int .i64 A.node, .bool A.dead, .string ⟨A.text.toArray⟩, vp, vm, .int .u64 (A.flags.toNat : Int)] 25)).alloc (.cells #[.int .i64 B.kind, .int .i64 B.time, .int .i64 B.node, .bool B.dead, .string ⟨B.text.toArray⟩, up, um, .int .u64 (B.flags.toNat : Int)] 25)).alloc (.cells #[.int .i64 0, .int .i64 0, .int .i64 0, .bool false, .string ⟨#[]⟩, .slice none 0 0, .slice none 0 0, .int .u64 0] 25)).heap.size = w.heap.size + 3 := by simp
  clear hp hm gp gm hB1 hB2 hB3
  have HO := Kept.mk h
  clear h
  go_enter Tryz.func28, Tryz.ntmps28
  go_wp2_with fail
  generalize ((w.alloc (.cells #[.int .i64 A.kind, .int .i64 A.time, .int .i64 A.node, .bool A.dead, .string ⟨A.text.toArray⟩, vp, vm, .int .u64 (A.flags.toNat : Int)] 25)).alloc (.cells #[.int .i64 B.kind, .int .i64 B.time, .int .i64 B.node, .bool B.dead, .string ⟨B.text.toArray⟩, up, um, .int .u64 (B.flags.toNat : Int)] 25)).alloc (.cells #[.int .i64 0, .int .i64 0, .int .i64 0, .bool false, .string ⟨#[]⟩, .slice none 0 0, .slice none 0 0, .int .u64 0] 25) = W0 at *
  refine (kv_any A _ _ hX.out hA).mono ?_
  rintro e w1 ⟨rfl, hb1⟩
  replace hV := Kept.mk (hV.out.keep hb1)
  replace hU := Kept.mk (hU.out.keep hb1)
  replace HF := Kept.mk (HF.out.keep hb1 HZ.out.1)
  replace HZ := Kept.mk (HZ.out.keep hb1 HZ.out.1)
  replace hB := Kept.mk (hB.out.trans (hb1.mono hB.out.size))
  have hs1 := hb1.size
  clear hb1 hX
  rewrite [HO.out]
  generalize ifaceK (kindN A) = ik
  obtain ⟨hBK, K4, K5⟩ := vset zeroV (.slice none 0 0) (.slice none 0 0) (g := w.heap.size + 2) (by omega) hB.out HZ.out rfl (.inl ⟨rfl, rfl⟩) (.inl ⟨rfl, rfl⟩) (by intro h; cases h) (by intro h; cases h)
  obtain ⟨hc', hp', hm'⟩ := K4.out
  clear K4
  go_wp2_with (refine wpList_storeN 25 rfl (.tmp 4) (.tmp 20) rfl (w.heap.size + 2) [.int .i64 0, .int .i64 0, .int .i64 0, .bool false, .string ⟨#[]⟩, .slice none 0 0, .slice none 0 0, .int .u64 0] size_va rfl rfl HZ.out rfl HF.out K5.out ?_)
  exact bodyPost_ret (resultsN2 rfl _ _ (w.heap.size + 2) _ (.int .i64 2) size_va agg_va rfl rfl hc') rfl ⟨_, rfl, ⟨_, _, rfl, hp', hm', newB_nil _, newB_nil _⟩, hBK.out⟩
set_option maxRecDepth 20000 in
set_option maxHeartbeats 1000000 in
theorem vjoin_no2 (A B : Va) (v u : Value) (w : World) (hv : isVa A v w) (hu : isVa B u w) (hA : Fit A) (hB0 : Fit B) (h : okV A = true) (h2 : okV B = false) :
    Calls Tryz.prog 28 #[v, u] w fun e w' => ∃ v', e = .returned (.tuple #[v', .int .i64 2]) ∧ isVaN w.heap.size zeroV v' w' ∧ Below w.heap.size w w' := by
  obtain ⟨vp, vm, rfl, hp, hm⟩ := hv
  obtain ⟨up, um, rfl, gp, gm⟩ := hu
  obtain ⟨hB1, hV⟩ := vbox w A vp vm hp hm w.heap.size rfl
  obtain ⟨hB2, hU⟩ := vbox (w.alloc (.cells #[.int .i64 A.kind, .int .i64 A.time, .int .i64 A.node, .bool A.dead, .string ⟨A.text.toArray⟩, vp, vm, .int .u64 (A.flags.toNat : Int)] 25)) B up um (stable_cells _ _ _ _ gp hB1.out) (stable_cells _ _ _ _ gm hB1.out) (w.heap.size + 1) (by simp)
  have hB3 := lit_below ((w.alloc (.cells #[.int .i64 A.kind, .int .i64 A.time, .int .i64 A.node, .bool A.dead, .string ⟨A.text.toArray⟩, vp, vm, .int .u64 (A.flags.toNat : Int)] 25)).alloc (.cells #[.int .i64 B.kind, .int .i64 B.time, .int .i64 B.node, .bool B.dead, .string ⟨B.text.toArray⟩, up, um, .int .u64 (B.flags.toNat : Int)] 25)) (.cells #[.int .i64 0, .int .i64 0, .int .i64 0, .bool false, .string ⟨#[]⟩, .slice none 0 0, .slice none 0 0, .int .u64 0] 25)
  have HZ := Kept.mk (cellsN_at ((w.alloc (.cells #[.int .i64 A.kind, .int .i64 A.time, .int .i64 A.node, .bool A.dead, .string ⟨A.text.toArray⟩, vp, vm, .int .u64 (A.flags.toNat : Int)] 25)).alloc (.cells #[.int .i64 B.kind, .int .i64 B.time, .int .i64 B.node, .bool B.dead, .string ⟨B.text.toArray⟩, up, um, .int .u64 (B.flags.toNat : Int)] 25)) 25 [.int .i64 0, .int .i64 0, .int .i64 0, .bool false, .string ⟨#[]⟩, .slice none 0 0, .slice none 0 0, .int .u64 0] (w.heap.size + 2) (by simp))
  have HF := Kept.mk (free5_at ((w.alloc (.cells #[.int .i64 A.kind, .int .i64 A.time, .int .i64 A.node, .bool A.dead, .string ⟨A.text.toArray⟩, vp, vm, .int .u64 (A.flags.toNat : Int)] 25)).alloc (.cells #[.int .i64 B.kind, .int .i64 B.time, .int .i64 B.node, .bool B.dead, .string ⟨B.text.toArray⟩, up, um, .int .u64 (B.flags.toNat : Int)] 25)) #[.int .i64 0, .int .i64 0, .int .i64 0, .bool false, .string ⟨#[]⟩, .slice none 0 0, .slice none 0 0, .int .u64 0] 25 (w.heap.size + 2) (by simp))
  replace hV := Kept.mk ((hV.out.keep hB2.out).keep hB3)
  replace hU := Kept.mk (hU.out.keep hB3)
  have hB := Kept.mk ((hB1.out.trans (hB2.out.mono hB1.out.size)).trans (hB3.mono (hB1.out.trans (hB2.out.mono hB1.out.size)).size))
  have hX := Kept.mk (show isVa A (.agg #[.int .i64 A.kind, .int .i64 A.time, .int .i64 A.node, .bool A.dead, .string ⟨A.text.toArray⟩, vp, vm, .int .u64 (A.flags.toNat : Int)]) (((w.alloc (.cells #[.int .i64 A.kind, .int .i64 A.time, .int .i64 A.node, .bool A.dead, .string ⟨A.text.toArray⟩, vp, vm, .int .u64 (A.flags.toNat : Int)] 25)).alloc (.cells #[.int .i64 B.kind, .int .i64 B.time, .int .i64 B.node, .bool B.dead, .string ⟨B.text.toArray⟩, up, um, .int .u64 (B.flags.toNat : Int)] 25)).alloc (.cells #[.int .i64 0, .int .i64 0, .int .i64 0, .bool false, .string ⟨#[]⟩, .slice none 0 0, .slice none 0 0, .int .u64 0] 25)) from ⟨vp, vm, rfl, stable_cells _ _ _ _ hp hB.out, stable_cells _ _ _ _ hm hB.out⟩)
  have hs : (((w.alloc (.cells #[.int .i64 A.kind, .int .i64 A.time, .int .i64 A.node, .bool A.dead, .string ⟨A.text.toArray⟩, vp, vm, .int .u64 (A.flags.toNat : Int)] 25)).alloc (.cells #[.int .i64 B.kind, .int .i64 B.time, .int .i64 B.node, .bool B.dead, .string ⟨B.text.toArray⟩, up, um, .int .u64 (B.flags.toNat : Int)] 25)).alloc (.cells #[.int .i64 0, .int .i64 0, .int .i64 0, .bool false, .string ⟨#[]⟩, .slice none 0 0, .slice none 0 0, .int .u64 0] 25)).heap.size = w.heap.size + 3 := by simp
  clear hp hm gp gm hB1 hB2 hB3
  have HO := Kept.mk h
  have HC : Kept (checkV B = 2) := ⟨by unfold checkV; rw [h2]; rfl⟩
  clear h h2
  go_enter Tryz.func28, Tryz.ntmps28
  go_wp2_with fail
  generalize ((w.alloc (.cells #[.int .i64 A.kind, .int .i64 A.time, .int .i64 A.node, .bool A.dead, .string ⟨A.text.toArray⟩, vp, vm, .int .u64 (A.flags.toNat : Int)] 25)).alloc (.cells #[.int .i64 B.kind, .int .i64 B.time, .int .i64 B.node, .bool B.dead, .string ⟨B.text.toArray⟩, up, um, .int .u64 (B.flags.toNat : Int)] 25)).alloc (.cells #[.int .i64 0, .int .i64 0, .int .i64 0, .bool false, .string ⟨#[]⟩, .slice none 0 0, .slice none 0 0, .int .u64 0] 25) = W0 at *
  refine (kv_any A _ _ hX.out hA).mono ?_
  rintro e w1 ⟨rfl, hb1⟩
  replace hV := Kept.mk (hV.out.keep hb1)
  replace hU := Kept.mk (hU.out.keep hb1)
  replace HF := Kept.mk (HF.out.keep hb1 HZ.out.1)
  replace HZ := Kept.mk (HZ.out.keep hb1 HZ.out.1)
  replace hB := Kept.mk (hB.out.trans (hb1.mono hB.out.size))
  have hs1 := hb1.size
  clear hb1 hX
  rewrite [HO.out]
  generalize ifaceK (kindN A) = ik
  obtain ⟨qb, rb, xb, _, _, kb0, kb1, kb2, kb3, kb4, kb5, kb6, kb7⟩ := hU.out.open_
  have Xb := Kept.mk xb
  clear xb
  go_wp2_with fail
  refine (vcheck_any B _ _ Xb.out hB0).mono ?_
  rintro e w2 ⟨rfl, hb2⟩
  replace hV := Kept.mk (hV.out.keep hb2)
  replace hU := Kept.mk (hU.out.keep hb2)
  replace HF := Kept.mk (HF.out.keep hb2 HZ.out.1)
  replace HZ := Kept.mk (HZ.out.keep hb2 HZ.out.1)
  replace hB := Kept.mk (hB.out.trans (hb2.mono hB.out.size))
  have hs2 := hb2.size
  rewrite [HC.out]
  clear hb2
  clear Xb kb0 kb1 kb2 kb3 kb4 kb5 kb6 kb7
  obtain ⟨hBK, K4, K5⟩ := vset zeroV (.slice none 0 0) (.slice none 0 0) (g := w.heap.size + 2) (by omega) hB.out HZ.out rfl (.inl ⟨rfl, rfl⟩) (.inl ⟨rfl, rfl⟩) (by intro h; cases h) (by intro h; cases h)
  obtain ⟨hc', hp', hm'⟩ := K4.out
  clear K4
  go_wp2_with (refine wpList_storeN 25 rfl (.tmp 4) (.tmp 20) rfl (w.heap.size + 2) [.int .i64 0, .int .i64 0, .int .i64 0, .bool false, .string ⟨#[]⟩, .slice none 0 0, .slice none 0 0, .int .u64 0] size_va rfl rfl HZ.out rfl HF.out K5.out ?_)
  exact bodyPost_ret (resultsN2 rfl _ _ (w.heap.size + 2) _ (.int .i64 2) size_va agg_va rfl rfl hc') rfl ⟨_, rfl, ⟨_, _, rfl, hp', hm', newB_nil _, newB_nil _⟩, hBK.out⟩
set_option maxRecDepth 20000 in
set_option maxHeartbeats 1000000 in
theorem vjoin_no3 (A B : Va) (v u : Value) (w : World) (hv : isVa A v w) (hu : isVa B u w) (hA : Fit A) (hB0 : Fit B) (h : okV A = true) (h2 : okV B = true) (h3 : A.kind ≠ B.kind) :
    Calls Tryz.prog 28 #[v, u] w fun e w' => ∃ v', e = .returned (.tuple #[v', .int .i64 3]) ∧ isVaN w.heap.size zeroV v' w' ∧ Below w.heap.size w w' := by
  obtain ⟨vp, vm, rfl, hp, hm⟩ := hv
  obtain ⟨up, um, rfl, gp, gm⟩ := hu
  obtain ⟨hB1, hV⟩ := vbox w A vp vm hp hm w.heap.size rfl
  obtain ⟨hB2, hU⟩ := vbox (w.alloc (.cells #[.int .i64 A.kind, .int .i64 A.time, .int .i64 A.node, .bool A.dead, .string ⟨A.text.toArray⟩, vp, vm, .int .u64 (A.flags.toNat : Int)] 25)) B up um (stable_cells _ _ _ _ gp hB1.out) (stable_cells _ _ _ _ gm hB1.out) (w.heap.size + 1) (by simp)
  have hB3 := lit_below ((w.alloc (.cells #[.int .i64 A.kind, .int .i64 A.time, .int .i64 A.node, .bool A.dead, .string ⟨A.text.toArray⟩, vp, vm, .int .u64 (A.flags.toNat : Int)] 25)).alloc (.cells #[.int .i64 B.kind, .int .i64 B.time, .int .i64 B.node, .bool B.dead, .string ⟨B.text.toArray⟩, up, um, .int .u64 (B.flags.toNat : Int)] 25)) (.cells #[.int .i64 0, .int .i64 0, .int .i64 0, .bool false, .string ⟨#[]⟩, .slice none 0 0, .slice none 0 0, .int .u64 0] 25)
  have HZ := Kept.mk (cellsN_at ((w.alloc (.cells #[.int .i64 A.kind, .int .i64 A.time, .int .i64 A.node, .bool A.dead, .string ⟨A.text.toArray⟩, vp, vm, .int .u64 (A.flags.toNat : Int)] 25)).alloc (.cells #[.int .i64 B.kind, .int .i64 B.time, .int .i64 B.node, .bool B.dead, .string ⟨B.text.toArray⟩, up, um, .int .u64 (B.flags.toNat : Int)] 25)) 25 [.int .i64 0, .int .i64 0, .int .i64 0, .bool false, .string ⟨#[]⟩, .slice none 0 0, .slice none 0 0, .int .u64 0] (w.heap.size + 2) (by simp))
  have HF := Kept.mk (free5_at ((w.alloc (.cells #[.int .i64 A.kind, .int .i64 A.time, .int .i64 A.node, .bool A.dead, .string ⟨A.text.toArray⟩, vp, vm, .int .u64 (A.flags.toNat : Int)] 25)).alloc (.cells #[.int .i64 B.kind, .int .i64 B.time, .int .i64 B.node, .bool B.dead, .string ⟨B.text.toArray⟩, up, um, .int .u64 (B.flags.toNat : Int)] 25)) #[.int .i64 0, .int .i64 0, .int .i64 0, .bool false, .string ⟨#[]⟩, .slice none 0 0, .slice none 0 0, .int .u64 0] 25 (w.heap.size + 2) (by simp))
  replace hV := Kept.mk ((hV.out.keep hB2.out).keep hB3)
  replace hU := Kept.mk (hU.out.keep hB3)
  have hB := Kept.mk ((hB1.out.trans (hB2.out.mono hB1.out.size)).trans (hB3.mono (hB1.out.trans (hB2.out.mono hB1.out.size)).size))
  have hX := Kept.mk (show isVa A (.agg #[.int .i64 A.kind, .int .i64 A.time, .int .i64 A.node, .bool A.dead, .string ⟨A.text.toArray⟩, vp, vm, .int .u64 (A.flags.toNat : Int)]) (((w.alloc (.cells #[.int .i64 A.kind, .int .i64 A.time, .int .i64 A.node, .bool A.dead, .string ⟨A.text.toArray⟩, vp, vm, .int .u64 (A.flags.toNat : Int)] 25)).alloc (.cells #[.int .i64 B.kind, .int .i64 B.time, .int .i64 B.node, .bool B.dead, .string ⟨B.text.toArray⟩, up, um, .int .u64 (B.flags.toNat : Int)] 25)).alloc (.cells #[.int .i64 0, .int .i64 0, .int .i64 0, .bool false, .string ⟨#[]⟩, .slice none 0 0, .slice none 0 0, .int .u64 0] 25)) from ⟨vp, vm, rfl, stable_cells _ _ _ _ hp hB.out, stable_cells _ _ _ _ hm hB.out⟩)
  have hs : (((w.alloc (.cells #[.int .i64 A.kind, .int .i64 A.time, .int .i64 A.node, .bool A.dead, .string ⟨A.text.toArray⟩, vp, vm, .int .u64 (A.flags.toNat : Int)] 25)).alloc (.cells #[.int .i64 B.kind, .int .i64 B.time, .int .i64 B.node, .bool B.dead, .string ⟨B.text.toArray⟩, up, um, .int .u64 (B.flags.toNat : Int)] 25)).alloc (.cells #[.int .i64 0, .int .i64 0, .int .i64 0, .bool false, .string ⟨#[]⟩, .slice none 0 0, .slice none 0 0, .int .u64 0] 25)).heap.size = w.heap.size + 3 := by simp
  clear hp hm gp gm hB1 hB2 hB3
  have HO := Kept.mk h
  have HC : Kept (checkV B = 0) := ⟨by unfold checkV; rw [h2]; rfl⟩
  have d3 : (A.kind == B.kind) = false := by simpa using h3
  clear h h2 h3
  go_enter Tryz.func28, Tryz.ntmps28
  go_wp2_with fail
  generalize ((w.alloc (.cells #[.int .i64 A.kind, .int .i64 A.time, .int .i64 A.node, .bool A.dead, .string ⟨A.text.toArray⟩, vp, vm, .int .u64 (A.flags.toNat : Int)] 25)).alloc (.cells #[.int .i64 B.kind, .int .i64 B.time, .int .i64 B.node, .bool B.dead, .string ⟨B.text.toArray⟩, up, um, .int .u64 (B.flags.toNat : Int)] 25)).alloc (.cells #[.int .i64 0, .int .i64 0, .int .i64 0, .bool false, .string ⟨#[]⟩, .slice none 0 0, .slice none 0 0, .int .u64 0] 25) = W0 at *
  refine (kv_any A _ _ hX.out hA).mono ?_
  rintro e w1 ⟨rfl, hb1⟩
  replace hV := Kept.mk (hV.out.keep hb1)
  replace hU := Kept.mk (hU.out.keep hb1)
  replace HF := Kept.mk (HF.out.keep hb1 HZ.out.1)
  replace HZ := Kept.mk (HZ.out.keep hb1 HZ.out.1)
  replace hB := Kept.mk (hB.out.trans (hb1.mono hB.out.size))
  have hs1 := hb1.size
  clear hb1 hX
  rewrite [HO.out]
  generalize ifaceK (kindN A) = ik
  obtain ⟨qb, rb, xb, _, _, kb0, kb1, kb2, kb3, kb4, kb5, kb6, kb7⟩ := hU.out.open_
  have Xb := Kept.mk xb
  clear xb
  go_wp2_with fail
  refine (vcheck_any B _ _ Xb.out hB0).mono ?_
  rintro e w2 ⟨rfl, hb2⟩
  replace hV := Kept.mk (hV.out.keep hb2)
  replace hU := Kept.mk (hU.out.keep hb2)
  replace HF := Kept.mk (HF.out.keep hb2 HZ.out.1)
  replace HZ := Kept.mk (HZ.out.keep hb2 HZ.out.1)
  replace hB := Kept.mk (hB.out.trans (hb2.mono hB.out.size))
  have hs2 := hb2.size
  rewrite [HC.out]
  clear hb2
  clear Xb kb0 kb1 kb2 kb3 kb4 kb5 kb6 kb7
  obtain ⟨qa, ra, xa, _, _, ka0, ka1, ka2, ka3, ka4, ka5, ka6, ka7⟩ := hV.out.open_
  have Xa := Kept.mk xa
  clear xa
  obtain ⟨qb, rb, xb, _, _, kb0, kb1, kb2, kb3, kb4, kb5, kb6, kb7⟩ := hU.out.open_
  have Xb := Kept.mk xb
  clear xb
  obtain ⟨hBK, K4, K5⟩ := vset zeroV (.slice none 0 0) (.slice none 0 0) (g := w.heap.size + 2) (by omega) hB.out HZ.out rfl (.inl ⟨rfl, rfl⟩) (.inl ⟨rfl, rfl⟩) (by intro h; cases h) (by intro h; cases h)
  obtain ⟨hc', hp', hm'⟩ := K4.out
  clear K4
  go_wp2_with (refine wpList_storeN 25 rfl (.tmp 4) (.tmp 26) rfl (w.heap.size + 2) [.int .i64 0, .int .i64 0, .int .i64 0, .bool false, .string ⟨#[]⟩, .slice none 0 0, .slice none 0 0, .int .u64 0] size_va rfl rfl HZ.out rfl HF.out K5.out ?_)
  exact bodyPost_ret (resultsN2 rfl _ _ (w.heap.size + 2) _ (.int .i64 3) size_va agg_va rfl rfl hc') rfl ⟨_, rfl, ⟨_, _, rfl, hp', hm', newB_nil _, newB_nil _⟩, hBK.out⟩
set_option maxRecDepth 20000 in
set_option maxHeartbeats 1000000 in
theorem vjoin_reg (A B : Va) (v u : Value) (w : World) (hv : isVa A v w) (hu : isVa B u w) (hA : Fit A) (hB0 : Fit B) (h : kindN A = 1) (h2 : okV B = true) (h3 : A.kind = B.kind) :
    Calls Tryz.prog 28 #[v, u] w fun e w' => ∃ v', e = .returned (.tuple #[v', .int .i64 0]) ∧ isVaN w.heap.size (joinReg A B) v' w' ∧ Below w.heap.size w w' := by
  obtain ⟨vp, vm, rfl, hp, hm⟩ := hv
  obtain ⟨up, um, rfl, gp, gm⟩ := hu
  obtain ⟨hB1, hV⟩ := vbox w A vp vm hp hm w.heap.size rfl
  obtain ⟨hB2, hU⟩ := vbox (w.alloc (.cells #[.int .i64 A.kind, .int .i64 A.time, .int .i64 A.node, .bool A.dead, .string ⟨A.text.toArray⟩, vp, vm, .int .u64 (A.flags.toNat : Int)] 25)) B up um (stable_cells _ _ _ _ gp hB1.out) (stable_cells _ _ _ _ gm hB1.out) (w.heap.size + 1) (by simp)
  have hB3 := lit_below ((w.alloc (.cells #[.int .i64 A.kind, .int .i64 A.time, .int .i64 A.node, .bool A.dead, .string ⟨A.text.toArray⟩, vp, vm, .int .u64 (A.flags.toNat : Int)] 25)).alloc (.cells #[.int .i64 B.kind, .int .i64 B.time, .int .i64 B.node, .bool B.dead, .string ⟨B.text.toArray⟩, up, um, .int .u64 (B.flags.toNat : Int)] 25)) (.cells #[.int .i64 0, .int .i64 0, .int .i64 0, .bool false, .string ⟨#[]⟩, .slice none 0 0, .slice none 0 0, .int .u64 0] 25)
  have HZ := Kept.mk (cellsN_at ((w.alloc (.cells #[.int .i64 A.kind, .int .i64 A.time, .int .i64 A.node, .bool A.dead, .string ⟨A.text.toArray⟩, vp, vm, .int .u64 (A.flags.toNat : Int)] 25)).alloc (.cells #[.int .i64 B.kind, .int .i64 B.time, .int .i64 B.node, .bool B.dead, .string ⟨B.text.toArray⟩, up, um, .int .u64 (B.flags.toNat : Int)] 25)) 25 [.int .i64 0, .int .i64 0, .int .i64 0, .bool false, .string ⟨#[]⟩, .slice none 0 0, .slice none 0 0, .int .u64 0] (w.heap.size + 2) (by simp))
  have HF := Kept.mk (free5_at ((w.alloc (.cells #[.int .i64 A.kind, .int .i64 A.time, .int .i64 A.node, .bool A.dead, .string ⟨A.text.toArray⟩, vp, vm, .int .u64 (A.flags.toNat : Int)] 25)).alloc (.cells #[.int .i64 B.kind, .int .i64 B.time, .int .i64 B.node, .bool B.dead, .string ⟨B.text.toArray⟩, up, um, .int .u64 (B.flags.toNat : Int)] 25)) #[.int .i64 0, .int .i64 0, .int .i64 0, .bool false, .string ⟨#[]⟩, .slice none 0 0, .slice none 0 0, .int .u64 0] 25 (w.heap.size + 2) (by simp))
  replace hV := Kept.mk ((hV.out.keep hB2.out).keep hB3)
  replace hU := Kept.mk (hU.out.keep hB3)
  have hB := Kept.mk ((hB1.out.trans (hB2.out.mono hB1.out.size)).trans (hB3.mono (hB1.out.trans (hB2.out.mono hB1.out.size)).size))
  have hX := Kept.mk (show isVa A (.agg #[.int .i64 A.kind, .int .i64 A.time, .int .i64 A.node, .bool A.dead, .string ⟨A.text.toArray⟩, vp, vm, .int .u64 (A.flags.toNat : Int)]) (((w.alloc (.cells #[.int .i64 A.kind, .int .i64 A.time, .int .i64 A.node, .bool A.dead, .string ⟨A.text.toArray⟩, vp, vm, .int .u64 (A.flags.toNat : Int)] 25)).alloc (.cells #[.int .i64 B.kind, .int .i64 B.time, .int .i64 B.node, .bool B.dead, .string ⟨B.text.toArray⟩, up, um, .int .u64 (B.flags.toNat : Int)] 25)).alloc (.cells #[.int .i64 0, .int .i64 0, .int .i64 0, .bool false, .string ⟨#[]⟩, .slice none 0 0, .slice none 0 0, .int .u64 0] 25)) from ⟨vp, vm, rfl, stable_cells _ _ _ _ hp hB.out, stable_cells _ _ _ _ hm hB.out⟩)
  have hs : (((w.alloc (.cells #[.int .i64 A.kind, .int .i64 A.time, .int .i64 A.node, .bool A.dead, .string ⟨A.text.toArray⟩, vp, vm, .int .u64 (A.flags.toNat : Int)] 25)).alloc (.cells #[.int .i64 B.kind, .int .i64 B.time, .int .i64 B.node, .bool B.dead, .string ⟨B.text.toArray⟩, up, um, .int .u64 (B.flags.toNat : Int)] 25)).alloc (.cells #[.int .i64 0, .int .i64 0, .int .i64 0, .bool false, .string ⟨#[]⟩, .slice none 0 0, .slice none 0 0, .int .u64 0] 25)).heap.size = w.heap.size + 3 := by simp
  clear hp hm gp gm hB1 hB2 hB3
  have HO : Kept (okV A = true) := ⟨by unfold okV; rw [h]; rfl⟩
  have HC : Kept (checkV B = 0) := ⟨by unfold checkV; rw [h2]; rfl⟩
  have HK := Kept.mk h
  have HI : Kept (ifaceK 1 = .iface 102 (.agg #[])) := ⟨rfl⟩
  have d3 : (A.kind == B.kind) = true := by simpa using h3
  clear h h2 h3
  go_enter Tryz.func28, Tryz.ntmps28
  go_wp2_with fail
  generalize ((w.alloc (.cells #[.int .i64 A.kind, .int .i64 A.time, .int .i64 A.node, .bool A.dead, .string ⟨A.text.toArray⟩, vp, vm, .int .u64 (A.flags.toNat : Int)] 25)).alloc (.cells #[.int .i64 B.kind, .int .i64 B.time, .int .i64 B.node, .bool B.dead, .string ⟨B.text.toArray⟩, up, um, .int .u64 (B.flags.toNat : Int)] 25)).alloc (.cells #[.int .i64 0, .int .i64 0, .int .i64 0, .bool false, .string ⟨#[]⟩, .slice none 0 0, .slice none 0 0, .int .u64 0] 25) = W0 at *
  refine (kv_any A _ _ hX.out hA).mono ?_
  rintro e w1 ⟨rfl, hb1⟩
  replace hV := Kept.mk (hV.out.keep hb1)
  replace hU := Kept.mk (hU.out.keep hb1)
  replace HF := Kept.mk (HF.out.keep hb1 HZ.out.1)
  replace HZ := Kept.mk (HZ.out.keep hb1 HZ.out.1)
  replace hB := Kept.mk (hB.out.trans (hb1.mono hB.out.size))
  have hs1 := hb1.size
  clear hb1 hX
  rewrite [HO.out, HK.out, HI.out]
  obtain ⟨qb, rb, xb, _, _, kb0, kb1, kb2, kb3, kb4, kb5, kb6, kb7⟩ := hU.out.open_
  have Xb := Kept.mk xb
  clear xb
  go_wp2_with fail
  refine (vcheck_any B _ _ Xb.out hB0).mono ?_
  rintro e w2 ⟨rfl, hb2⟩
  replace hV := Kept.mk (hV.out.keep hb2)
  replace hU := Kept.mk (hU.out.keep hb2)
  replace HF := Kept.mk (HF.out.keep hb2 HZ.out.1)
  replace HZ := Kept.mk (HZ.out.keep hb2 HZ.out.1)
  replace hB := Kept.mk (hB.out.trans (hb2.mono hB.out.size))
  have hs2 := hb2.size
  rewrite [HC.out]
  clear hb2
  clear Xb kb0 kb1 kb2 kb3 kb4 kb5 kb6 kb7
  obtain ⟨qa, ra, xa, _, _, ka0, ka1, ka2, ka3, ka4, ka5, ka6, ka7⟩ := hV.out.open_
  have Xa := Kept.mk xa
  clear xa
  obtain ⟨qb, rb, xb, _, _, kb0, kb1, kb2, kb3, kb4, kb5, kb6, kb7⟩ := hU.out.open_
  have Xb := Kept.mk xb
  clear xb
  have hinv : ∀ W : World, (invoke (.fn (.method "ouroboros/value.join") #[]) #[.iface 102 (.agg #[]), .agg #[.int .i64 A.kind, .int .i64 A.time, .int .i64 A.node, .bool A.dead, .string ⟨A.text.toArray⟩, qa, ra, .int .u64 (A.flags.toNat : Int)], .agg #[.int .i64 B.kind, .int .i64 B.time, .int .i64 B.node, .bool B.dead, .string ⟨B.text.toArray⟩, qb, rb, .int .u64 (B.flags.toNat : Int)]]).run Tryz.prog W = .ok (.enter 105 #[.agg #[], .agg #[.int .i64 A.kind, .int .i64 A.time, .int .i64 A.node, .bool A.dead, .string ⟨A.text.toArray⟩, qa, ra, .int .u64 (A.flags.toNat : Int)], .agg #[.int .i64 B.kind, .int .i64 B.time, .int .i64 B.node, .bool B.dead, .string ⟨B.text.toArray⟩, qb, rb, .int .u64 (B.flags.toNat : Int)]]) W := fun W => by kernel_rfl
  go_wp2_with fail
  refine (regJoin_any A B _ _ _ Xa.out Xb.out).mono ?_
  rintro e w3 ⟨v', rfl, ⟨p', m', rfl, hp1, hm1, np, nm⟩, hb3⟩
  have hZ1 := HZ.out.keep hb3 HZ.out.1
  have K1 := Kept.mk hZ1
  have K2 := Kept.mk (HF.out.keep hb3 HZ.out.1)
  obtain ⟨hBK, K4, K5⟩ := vset (joinReg A B) p' m' (g := w.heap.size + 2) (by omega) (hB.out.trans (hb3.mono hB.out.size)) hZ1 rfl hp1 hm1 (np.ne (by omega)) (nm.ne (by omega))
  obtain ⟨hc', hp', hm'⟩ := K4.out
  replace np := np.low (B' := w.heap.size) (by omega)
  replace nm := nm.low (B' := w.heap.size) (by omega)
  clear K4 hp1 hm1 hZ1 hb3 hinv
  clear Xa ka0 ka1 ka2 ka3 ka4 ka5 ka6 ka7
  clear Xb kb0 kb1 kb2 kb3 kb4 kb5 kb6 kb7
  go_wp2_with (refine wpList_storeN 25 rfl (.tmp 4) (.tmp 30) rfl (w.heap.size + 2) [.int .i64 (joinReg A B).kind, .int .i64 (joinReg A B).time, .int .i64 (joinReg A B).node, .bool (joinReg A B).dead, .string ⟨(joinReg A B).text.toArray⟩, p', m', .int .u64 ((joinReg A B).flags.toNat : Int)] size_va rfl rfl K1.out rfl K2.out K5.out ?_)
  exact bodyPost_ret (resultsN2 rfl _ _ (w.heap.size + 2) _ (.int .i64 0) size_va agg_va rfl rfl hc') rfl ⟨_, rfl, ⟨_, _, rfl, hp', hm', np, nm⟩, hBK.out⟩
set_option maxRecDepth 20000 in
set_option maxHeartbeats 1000000 in
theorem vjoin_count (A B : Va) (v u : Value) (w : World) (hv : isVa A v w) (hu : isVa B u w) (hA : Fit A) (hB0 : Fit B) (h : kindN A = 2) (h2 : okV B = true) (h3 : A.kind = B.kind) (l1 : A.plus.length = 8) (l2 : A.minus.length = 8) (l3 : B.plus.length = 8) (l4 : B.minus.length = 8) :
    Calls Tryz.prog 28 #[v, u] w fun e w' => ∃ v', e = .returned (.tuple #[v', .int .i64 0]) ∧ isVaN w.heap.size (joinCount A B) v' w' ∧ Below w.heap.size w w' := by
  obtain ⟨vp, vm, rfl, hp, hm⟩ := hv
  obtain ⟨up, um, rfl, gp, gm⟩ := hu
  obtain ⟨hB1, hV⟩ := vbox w A vp vm hp hm w.heap.size rfl
  obtain ⟨hB2, hU⟩ := vbox (w.alloc (.cells #[.int .i64 A.kind, .int .i64 A.time, .int .i64 A.node, .bool A.dead, .string ⟨A.text.toArray⟩, vp, vm, .int .u64 (A.flags.toNat : Int)] 25)) B up um (stable_cells _ _ _ _ gp hB1.out) (stable_cells _ _ _ _ gm hB1.out) (w.heap.size + 1) (by simp)
  have hB3 := lit_below ((w.alloc (.cells #[.int .i64 A.kind, .int .i64 A.time, .int .i64 A.node, .bool A.dead, .string ⟨A.text.toArray⟩, vp, vm, .int .u64 (A.flags.toNat : Int)] 25)).alloc (.cells #[.int .i64 B.kind, .int .i64 B.time, .int .i64 B.node, .bool B.dead, .string ⟨B.text.toArray⟩, up, um, .int .u64 (B.flags.toNat : Int)] 25)) (.cells #[.int .i64 0, .int .i64 0, .int .i64 0, .bool false, .string ⟨#[]⟩, .slice none 0 0, .slice none 0 0, .int .u64 0] 25)
  have HZ := Kept.mk (cellsN_at ((w.alloc (.cells #[.int .i64 A.kind, .int .i64 A.time, .int .i64 A.node, .bool A.dead, .string ⟨A.text.toArray⟩, vp, vm, .int .u64 (A.flags.toNat : Int)] 25)).alloc (.cells #[.int .i64 B.kind, .int .i64 B.time, .int .i64 B.node, .bool B.dead, .string ⟨B.text.toArray⟩, up, um, .int .u64 (B.flags.toNat : Int)] 25)) 25 [.int .i64 0, .int .i64 0, .int .i64 0, .bool false, .string ⟨#[]⟩, .slice none 0 0, .slice none 0 0, .int .u64 0] (w.heap.size + 2) (by simp))
  have HF := Kept.mk (free5_at ((w.alloc (.cells #[.int .i64 A.kind, .int .i64 A.time, .int .i64 A.node, .bool A.dead, .string ⟨A.text.toArray⟩, vp, vm, .int .u64 (A.flags.toNat : Int)] 25)).alloc (.cells #[.int .i64 B.kind, .int .i64 B.time, .int .i64 B.node, .bool B.dead, .string ⟨B.text.toArray⟩, up, um, .int .u64 (B.flags.toNat : Int)] 25)) #[.int .i64 0, .int .i64 0, .int .i64 0, .bool false, .string ⟨#[]⟩, .slice none 0 0, .slice none 0 0, .int .u64 0] 25 (w.heap.size + 2) (by simp))
  replace hV := Kept.mk ((hV.out.keep hB2.out).keep hB3)
  replace hU := Kept.mk (hU.out.keep hB3)
  have hB := Kept.mk ((hB1.out.trans (hB2.out.mono hB1.out.size)).trans (hB3.mono (hB1.out.trans (hB2.out.mono hB1.out.size)).size))
  have hX := Kept.mk (show isVa A (.agg #[.int .i64 A.kind, .int .i64 A.time, .int .i64 A.node, .bool A.dead, .string ⟨A.text.toArray⟩, vp, vm, .int .u64 (A.flags.toNat : Int)]) (((w.alloc (.cells #[.int .i64 A.kind, .int .i64 A.time, .int .i64 A.node, .bool A.dead, .string ⟨A.text.toArray⟩, vp, vm, .int .u64 (A.flags.toNat : Int)] 25)).alloc (.cells #[.int .i64 B.kind, .int .i64 B.time, .int .i64 B.node, .bool B.dead, .string ⟨B.text.toArray⟩, up, um, .int .u64 (B.flags.toNat : Int)] 25)).alloc (.cells #[.int .i64 0, .int .i64 0, .int .i64 0, .bool false, .string ⟨#[]⟩, .slice none 0 0, .slice none 0 0, .int .u64 0] 25)) from ⟨vp, vm, rfl, stable_cells _ _ _ _ hp hB.out, stable_cells _ _ _ _ hm hB.out⟩)
  have hs : (((w.alloc (.cells #[.int .i64 A.kind, .int .i64 A.time, .int .i64 A.node, .bool A.dead, .string ⟨A.text.toArray⟩, vp, vm, .int .u64 (A.flags.toNat : Int)] 25)).alloc (.cells #[.int .i64 B.kind, .int .i64 B.time, .int .i64 B.node, .bool B.dead, .string ⟨B.text.toArray⟩, up, um, .int .u64 (B.flags.toNat : Int)] 25)).alloc (.cells #[.int .i64 0, .int .i64 0, .int .i64 0, .bool false, .string ⟨#[]⟩, .slice none 0 0, .slice none 0 0, .int .u64 0] 25)).heap.size = w.heap.size + 3 := by simp
  clear hp hm gp gm hB1 hB2 hB3
  have HO : Kept (okV A = true) := ⟨by unfold okV; rw [h]; rfl⟩
  have HC : Kept (checkV B = 0) := ⟨by unfold checkV; rw [h2]; rfl⟩
  have HK := Kept.mk h
  have HI : Kept (ifaceK 2 = .iface 103 (.agg #[])) := ⟨rfl⟩
  have d3 : (A.kind == B.kind) = true := by simpa using h3
  clear h h2 h3
  go_enter Tryz.func28, Tryz.ntmps28
  go_wp2_with fail
  generalize ((w.alloc (.cells #[.int .i64 A.kind, .int .i64 A.time, .int .i64 A.node, .bool A.dead, .string ⟨A.text.toArray⟩, vp, vm, .int .u64 (A.flags.toNat : Int)] 25)).alloc (.cells #[.int .i64 B.kind, .int .i64 B.time, .int .i64 B.node, .bool B.dead, .string ⟨B.text.toArray⟩, up, um, .int .u64 (B.flags.toNat : Int)] 25)).alloc (.cells #[.int .i64 0, .int .i64 0, .int .i64 0, .bool false, .string ⟨#[]⟩, .slice none 0 0, .slice none 0 0, .int .u64 0] 25) = W0 at *
  refine (kv_any A _ _ hX.out hA).mono ?_
  rintro e w1 ⟨rfl, hb1⟩
  replace hV := Kept.mk (hV.out.keep hb1)
  replace hU := Kept.mk (hU.out.keep hb1)
  replace HF := Kept.mk (HF.out.keep hb1 HZ.out.1)
  replace HZ := Kept.mk (HZ.out.keep hb1 HZ.out.1)
  replace hB := Kept.mk (hB.out.trans (hb1.mono hB.out.size))
  have hs1 := hb1.size
  clear hb1 hX
  rewrite [HO.out, HK.out, HI.out]
  obtain ⟨qb, rb, xb, _, _, kb0, kb1, kb2, kb3, kb4, kb5, kb6, kb7⟩ := hU.out.open_
  have Xb := Kept.mk xb
  clear xb
  go_wp2_with fail
  refine (vcheck_any B _ _ Xb.out hB0).mono ?_
  rintro e w2 ⟨rfl, hb2⟩
  replace hV := Kept.mk (hV.out.keep hb2)
  replace hU := Kept.mk (hU.out.keep hb2)
  replace HF := Kept.mk (HF.out.keep hb2 HZ.out.1)
  replace HZ := Kept.mk (HZ.out.keep hb2 HZ.out.1)
  replace hB := Kept.mk (hB.out.trans (hb2.mono hB.out.size))
  have hs2 := hb2.size
  rewrite [HC.out]
  clear hb2
  clear Xb kb0 kb1 kb2 kb3 kb4 kb5 kb6 kb7
  obtain ⟨qa, ra, xa, _, _, ka0, ka1, ka2, ka3, ka4, ka5, ka6, ka7⟩ := hV.out.open_
  have Xa := Kept.mk xa
  clear xa
  obtain ⟨qb, rb, xb, _, _, kb0, kb1, kb2, kb3, kb4, kb5, kb6, kb7⟩ := hU.out.open_
  have Xb := Kept.mk xb
  clear xb
  have hinv : ∀ W : World, (invoke (.fn (.method "ouroboros/value.join") #[]) #[.iface 103 (.agg #[]), .agg #[.int .i64 A.kind, .int .i64 A.time, .int .i64 A.node, .bool A.dead, .string ⟨A.text.toArray⟩, qa, ra, .int .u64 (A.flags.toNat : Int)], .agg #[.int .i64 B.kind, .int .i64 B.time, .int .i64 B.node, .bool B.dead, .string ⟨B.text.toArray⟩, qb, rb, .int .u64 (B.flags.toNat : Int)]]).run Tryz.prog W = .ok (.enter 117 #[.agg #[], .agg #[.int .i64 A.kind, .int .i64 A.time, .int .i64 A.node, .bool A.dead, .string ⟨A.text.toArray⟩, qa, ra, .int .u64 (A.flags.toNat : Int)], .agg #[.int .i64 B.kind, .int .i64 B.time, .int .i64 B.node, .bool B.dead, .string ⟨B.text.toArray⟩, qb, rb, .int .u64 (B.flags.toNat : Int)]]) W := fun W => by kernel_rfl
  go_wp2_with fail
  refine (countJoin_any A B _ _ _ Xa.out Xb.out l1 l2 l3 l4).mono ?_
  rintro e w3 ⟨v', rfl, ⟨p', m', rfl, hp1, hm1, np, nm⟩, hb3⟩
  have hZ1 := HZ.out.keep hb3 HZ.out.1
  have K1 := Kept.mk hZ1
  have K2 := Kept.mk (HF.out.keep hb3 HZ.out.1)
  obtain ⟨hBK, K4, K5⟩ := vset (joinCount A B) p' m' (g := w.heap.size + 2) (by omega) (hB.out.trans (hb3.mono hB.out.size)) hZ1 rfl hp1 hm1 (np.ne (by omega)) (nm.ne (by omega))
  obtain ⟨hc', hp', hm'⟩ := K4.out
  replace np := np.low (B' := w.heap.size) (by omega)
  replace nm := nm.low (B' := w.heap.size) (by omega)
  clear K4 hp1 hm1 hZ1 hb3 hinv
  clear Xa ka0 ka1 ka2 ka3 ka4 ka5 ka6 ka7
  clear Xb kb0 kb1 kb2 kb3 kb4 kb5 kb6 kb7
  go_wp2_with (refine wpList_storeN 25 rfl (.tmp 4) (.tmp 30) rfl (w.heap.size + 2) [.int .i64 (joinCount A B).kind, .int .i64 (joinCount A B).time, .int .i64 (joinCount A B).node, .bool (joinCount A B).dead, .string ⟨(joinCount A B).text.toArray⟩, p', m', .int .u64 ((joinCount A B).flags.toNat : Int)] size_va rfl rfl K1.out rfl K2.out K5.out ?_)
  exact bodyPost_ret (resultsN2 rfl _ _ (w.heap.size + 2) _ (.int .i64 0) size_va agg_va rfl rfl hc') rfl ⟨_, rfl, ⟨_, _, rfl, hp', hm', np, nm⟩, hBK.out⟩
set_option maxRecDepth 20000 in
set_option maxHeartbeats 1000000 in
theorem vjoin_flags (A B : Va) (v u : Value) (w : World) (hv : isVa A v w) (hu : isVa B u w) (hA : Fit A) (hB0 : Fit B) (h : kindN A = 3) (h2 : okV B = true) (h3 : A.kind = B.kind) :
    Calls Tryz.prog 28 #[v, u] w fun e w' => ∃ v', e = .returned (.tuple #[v', .int .i64 0]) ∧ isVaN w.heap.size (joinFlags A B) v' w' ∧ Below w.heap.size w w' := by
  obtain ⟨vp, vm, rfl, hp, hm⟩ := hv
  obtain ⟨up, um, rfl, gp, gm⟩ := hu
  obtain ⟨hB1, hV⟩ := vbox w A vp vm hp hm w.heap.size rfl
  obtain ⟨hB2, hU⟩ := vbox (w.alloc (.cells #[.int .i64 A.kind, .int .i64 A.time, .int .i64 A.node, .bool A.dead, .string ⟨A.text.toArray⟩, vp, vm, .int .u64 (A.flags.toNat : Int)] 25)) B up um (stable_cells _ _ _ _ gp hB1.out) (stable_cells _ _ _ _ gm hB1.out) (w.heap.size + 1) (by simp)
  have hB3 := lit_below ((w.alloc (.cells #[.int .i64 A.kind, .int .i64 A.time, .int .i64 A.node, .bool A.dead, .string ⟨A.text.toArray⟩, vp, vm, .int .u64 (A.flags.toNat : Int)] 25)).alloc (.cells #[.int .i64 B.kind, .int .i64 B.time, .int .i64 B.node, .bool B.dead, .string ⟨B.text.toArray⟩, up, um, .int .u64 (B.flags.toNat : Int)] 25)) (.cells #[.int .i64 0, .int .i64 0, .int .i64 0, .bool false, .string ⟨#[]⟩, .slice none 0 0, .slice none 0 0, .int .u64 0] 25)
  have HZ := Kept.mk (cellsN_at ((w.alloc (.cells #[.int .i64 A.kind, .int .i64 A.time, .int .i64 A.node, .bool A.dead, .string ⟨A.text.toArray⟩, vp, vm, .int .u64 (A.flags.toNat : Int)] 25)).alloc (.cells #[.int .i64 B.kind, .int .i64 B.time, .int .i64 B.node, .bool B.dead, .string ⟨B.text.toArray⟩, up, um, .int .u64 (B.flags.toNat : Int)] 25)) 25 [.int .i64 0, .int .i64 0, .int .i64 0, .bool false, .string ⟨#[]⟩, .slice none 0 0, .slice none 0 0, .int .u64 0] (w.heap.size + 2) (by simp))
  have HF := Kept.mk (free5_at ((w.alloc (.cells #[.int .i64 A.kind, .int .i64 A.time, .int .i64 A.node, .bool A.dead, .string ⟨A.text.toArray⟩, vp, vm, .int .u64 (A.flags.toNat : Int)] 25)).alloc (.cells #[.int .i64 B.kind, .int .i64 B.time, .int .i64 B.node, .bool B.dead, .string ⟨B.text.toArray⟩, up, um, .int .u64 (B.flags.toNat : Int)] 25)) #[.int .i64 0, .int .i64 0, .int .i64 0, .bool false, .string ⟨#[]⟩, .slice none 0 0, .slice none 0 0, .int .u64 0] 25 (w.heap.size + 2) (by simp))
  replace hV := Kept.mk ((hV.out.keep hB2.out).keep hB3)
  replace hU := Kept.mk (hU.out.keep hB3)
  have hB := Kept.mk ((hB1.out.trans (hB2.out.mono hB1.out.size)).trans (hB3.mono (hB1.out.trans (hB2.out.mono hB1.out.size)).size))
  have hX := Kept.mk (show isVa A (.agg #[.int .i64 A.kind, .int .i64 A.time, .int .i64 A.node, .bool A.dead, .string ⟨A.text.toArray⟩, vp, vm, .int .u64 (A.flags.toNat : Int)]) (((w.alloc (.cells #[.int .i64 A.kind, .int .i64 A.time, .int .i64 A.node, .bool A.dead, .string ⟨A.text.toArray⟩, vp, vm, .int .u64 (A.flags.toNat : Int)] 25)).alloc (.cells #[.int .i64 B.kind, .int .i64 B.time, .int .i64 B.node, .bool B.dead, .string ⟨B.text.toArray⟩, up, um, .int .u64 (B.flags.toNat : Int)] 25)).alloc (.cells #[.int .i64 0, .int .i64 0, .int .i64 0, .bool false, .string ⟨#[]⟩, .slice none 0 0, .slice none 0 0, .int .u64 0] 25)) from ⟨vp, vm, rfl, stable_cells _ _ _ _ hp hB.out, stable_cells _ _ _ _ hm hB.out⟩)
  have hs : (((w.alloc (.cells #[.int .i64 A.kind, .int .i64 A.time, .int .i64 A.node, .bool A.dead, .string ⟨A.text.toArray⟩, vp, vm, .int .u64 (A.flags.toNat : Int)] 25)).alloc (.cells #[.int .i64 B.kind, .int .i64 B.time, .int .i64 B.node, .bool B.dead, .string ⟨B.text.toArray⟩, up, um, .int .u64 (B.flags.toNat : Int)] 25)).alloc (.cells #[.int .i64 0, .int .i64 0, .int .i64 0, .bool false, .string ⟨#[]⟩, .slice none 0 0, .slice none 0 0, .int .u64 0] 25)).heap.size = w.heap.size + 3 := by simp
  clear hp hm gp gm hB1 hB2 hB3
  have HO : Kept (okV A = true) := ⟨by unfold okV; rw [h]; rfl⟩
  have HC : Kept (checkV B = 0) := ⟨by unfold checkV; rw [h2]; rfl⟩
  have HK := Kept.mk h
  have HI : Kept (ifaceK 3 = .iface 104 (.agg #[])) := ⟨rfl⟩
  have d3 : (A.kind == B.kind) = true := by simpa using h3
  clear h h2 h3
  go_enter Tryz.func28, Tryz.ntmps28
  go_wp2_with fail
  generalize ((w.alloc (.cells #[.int .i64 A.kind, .int .i64 A.time, .int .i64 A.node, .bool A.dead, .string ⟨A.text.toArray⟩, vp, vm, .int .u64 (A.flags.toNat : Int)] 25)).alloc (.cells #[.int .i64 B.kind, .int .i64 B.time, .int .i64 B.node, .bool B.dead, .string ⟨B.text.toArray⟩, up, um, .int .u64 (B.flags.toNat : Int)] 25)).alloc (.cells #[.int .i64 0, .int .i64 0, .int .i64 0, .bool false, .string ⟨#[]⟩, .slice none 0 0, .slice none 0 0, .int .u64 0] 25) = W0 at *
  refine (kv_any A _ _ hX.out hA).mono ?_
  rintro e w1 ⟨rfl, hb1⟩
  replace hV := Kept.mk (hV.out.keep hb1)
  replace hU := Kept.mk (hU.out.keep hb1)
  replace HF := Kept.mk (HF.out.keep hb1 HZ.out.1)
  replace HZ := Kept.mk (HZ.out.keep hb1 HZ.out.1)
  replace hB := Kept.mk (hB.out.trans (hb1.mono hB.out.size))
  have hs1 := hb1.size
  clear hb1 hX
  rewrite [HO.out, HK.out, HI.out]
  obtain ⟨qb, rb, xb, _, _, kb0, kb1, kb2, kb3, kb4, kb5, kb6, kb7⟩ := hU.out.open_
  have Xb := Kept.mk xb
  clear xb
  go_wp2_with fail
  refine (vcheck_any B _ _ Xb.out hB0).mono ?_
  rintro e w2 ⟨rfl, hb2⟩
  replace hV := Kept.mk (hV.out.keep hb2)
  replace hU := Kept.mk (hU.out.keep hb2)
  replace HF := Kept.mk (HF.out.keep hb2 HZ.out.1)
  replace HZ := Kept.mk (HZ.out.keep hb2 HZ.out.1)
  replace hB := Kept.mk (hB.out.trans (hb2.mono hB.out.size))
  have hs2 := hb2.size
  rewrite [HC.out]
  clear hb2
  clear Xb kb0 kb1 kb2 kb3 kb4 kb5 kb6 kb7
  obtain ⟨qa, ra, xa, _, _, ka0, ka1, ka2, ka3, ka4, ka5, ka6, ka7⟩ := hV.out.open_
  have Xa := Kept.mk xa
  clear xa
  obtain ⟨qb, rb, xb, _, _, kb0, kb1, kb2, kb3, kb4, kb5, kb6, kb7⟩ := hU.out.open_
  have Xb := Kept.mk xb
  clear xb
  have hinv : ∀ W : World, (invoke (.fn (.method "ouroboros/value.join") #[]) #[.iface 104 (.agg #[]), .agg #[.int .i64 A.kind, .int .i64 A.time, .int .i64 A.node, .bool A.dead, .string ⟨A.text.toArray⟩, qa, ra, .int .u64 (A.flags.toNat : Int)], .agg #[.int .i64 B.kind, .int .i64 B.time, .int .i64 B.node, .bool B.dead, .string ⟨B.text.toArray⟩, qb, rb, .int .u64 (B.flags.toNat : Int)]]).run Tryz.prog W = .ok (.enter 130 #[.agg #[], .agg #[.int .i64 A.kind, .int .i64 A.time, .int .i64 A.node, .bool A.dead, .string ⟨A.text.toArray⟩, qa, ra, .int .u64 (A.flags.toNat : Int)], .agg #[.int .i64 B.kind, .int .i64 B.time, .int .i64 B.node, .bool B.dead, .string ⟨B.text.toArray⟩, qb, rb, .int .u64 (B.flags.toNat : Int)]]) W := fun W => by kernel_rfl
  go_wp2_with fail
  refine (flagsJoin_any A B _ _ _ Xa.out Xb.out).mono ?_
  rintro e w3 ⟨v', rfl, ⟨p', m', rfl, hp1, hm1, np, nm⟩, hb3⟩
  have hZ1 := HZ.out.keep hb3 HZ.out.1
  have K1 := Kept.mk hZ1
  have K2 := Kept.mk (HF.out.keep hb3 HZ.out.1)
  obtain ⟨hBK, K4, K5⟩ := vset (joinFlags A B) p' m' (g := w.heap.size + 2) (by omega) (hB.out.trans (hb3.mono hB.out.size)) hZ1 rfl hp1 hm1 (np.ne (by omega)) (nm.ne (by omega))
  obtain ⟨hc', hp', hm'⟩ := K4.out
  replace np := np.low (B' := w.heap.size) (by omega)
  replace nm := nm.low (B' := w.heap.size) (by omega)
  clear K4 hp1 hm1 hZ1 hb3 hinv
  clear Xa ka0 ka1 ka2 ka3 ka4 ka5 ka6 ka7
  clear Xb kb0 kb1 kb2 kb3 kb4 kb5 kb6 kb7
  go_wp2_with (refine wpList_storeN 25 rfl (.tmp 4) (.tmp 30) rfl (w.heap.size + 2) [.int .i64 (joinFlags A B).kind, .int .i64 (joinFlags A B).time, .int .i64 (joinFlags A B).node, .bool (joinFlags A B).dead, .string ⟨(joinFlags A B).text.toArray⟩, p', m', .int .u64 ((joinFlags A B).flags.toNat : Int)] size_va rfl rfl K1.out rfl K2.out K5.out ?_)
  exact bodyPost_ret (resultsN2 rfl _ _ (w.heap.size + 2) _ (.int .i64 0) size_va agg_va rfl rfl hc') rfl ⟨_, rfl, ⟨_, _, rfl, hp', hm', np, nm⟩, hBK.out⟩
theorem vjoin_any (A B : Va) (v u : Value) (w : World) (hv : isVa A v w) (hu : isVa B u w) (hA : Fit A) (hB0 : Fit B) :
    Calls Tryz.prog 28 #[v, u] w fun e w' => ∃ v', e = .returned (.tuple #[v', .int .i64 (joinE A B)]) ∧ isVaN w.heap.size (joinF A B) v' w' ∧ Below w.heap.size w w' := by
  cases h1 : okV A with
  | false =>
    have e : joinE A B = 2 := by unfold joinE; rw [h1]; rfl
    rw [show joinF A B = zeroV by unfold joinF; rw [e]; rfl, e]
    exact vjoin_no1 A B v u w hv hu hA hB0 h1
  | true =>
    cases h2 : okV B with
    | false =>
      have e : joinE A B = 2 := by unfold joinE; rw [h1, h2]; rfl
      rw [show joinF A B = zeroV by unfold joinF; rw [e]; rfl, e]
      exact vjoin_no2 A B v u w hv hu hA hB0 h1 h2
    | true =>
      by_cases h3 : A.kind = B.kind
      · have e : joinE A B = 0 := joinE_zero.2 ⟨h1, h2, h3⟩
        have hk := kindN_ok h1
        rw [joinF_ok e, e]
        rcases ok_kind h1 with k | k | k
        · rw [joinV_reg k]; exact vjoin_reg A B v u w hv hu hA hB0 (by omega) h2 h3
        · have r1 := kindN_two (show kindN A = 2 by omega)
          have r2 := kindN_two (show kindN B = 2 by have := kindN_ok h2; omega)
          rw [joinV_count k]; exact vjoin_count A B v u w hv hu hA hB0 (by omega) h2 h3 (okRow_len r1.2.2.1) (okRow_len r1.2.2.2) (okRow_len r2.2.2.1) (okRow_len r2.2.2.2)
        · rw [joinV_flags k]; exact vjoin_flags A B v u w hv hu hA hB0 (by omega) h2 h3
      · have e : joinE A B = 3 := by unfold joinE; rw [h1, h2]; simp [h3]
        rw [show joinF A B = zeroV by unfold joinF; rw [e]; rfl, e]
        exact vjoin_no3 A B v u w hv hu hA hB0 h1 h2 h3
end Go.Proofs.YtebjljiklacolaaGreat
end
section
namespace Go.Proofs.YtebjljiklacolaaGreat
open Go.RowKit
set_option linter.unusedVariables false
set_option linter.unusedSimpArgs false
attribute [local irreducible] setN

theorem fit_zero : Fit zeroV := ⟨by decide, by decide, by decide⟩
theorem zip_len (l m : List Int) (h : l.length ≤ 1000000) : (List.zipWith maxI l m).length ≤ 1000000 := by rw [List.length_zipWith]; omega
theorem fit_join {A B : Va} (h1 : Fit A) (h2 : Fit B) : Fit (joinF A B) := by
  unfold joinF
  split
  · unfold joinV
    split
    · unfold joinReg
      split
      · exact ⟨h1.text, Nat.zero_le _, Nat.zero_le _⟩
      · exact ⟨h2.text, Nat.zero_le _, Nat.zero_le _⟩
    · split
      · exact ⟨Nat.zero_le _, zip_len _ _ h1.plus, zip_len _ _ h1.minus⟩
      · exact ⟨Nat.zero_le _, Nat.zero_le _, Nat.zero_le _⟩
  · exact fit_zero
theorem fit_least (k : Int) : Fit (leastF k) := by
  have := leastF_rows k
  refine ⟨?_, by omega, by omega⟩
  unfold leastF
  split
  · exact Nat.zero_le _
  · split
    · exact Nat.zero_le _
    · split <;> exact Nat.zero_le _
theorem vsame_fit (A B : Va) (v u : Value) (w : World) (hv : isVa A v w) (hu : isVa B u w) (h1 : Fit A) (h2 : Fit B) :
    Calls Tryz.prog 33 #[v, u] w fun e w' => e = .returned (.bool (decide (A = B))) ∧ Below w.heap.size w w' :=
  vsame_any A B v u w hv hu (by have := h1.plus; omega) (by have := h1.minus; omega) (by have := h2.plus; omega) (by have := h2.minus; omega)
def fewV (A : Va) : Bool := decide ((A.text.length : Int) ≤ 100) && decide ((A.plus.length : Int) ≤ 40) && decide ((A.minus.length : Int) ≤ 40)
theorem few_fit {A : Va} (h : fewV A = true) : Fit A := by
  unfold fewV at h
  simp only [Bool.and_eq_true, decide_eq_true_eq] at h
  exact ⟨by omega, by omega, by omega⟩
set_option maxRecDepth 20000 in
set_option maxHeartbeats 1000000 in
theorem vfew_any (A : Va) (v : Value) (w : World) (hv : isVa A v w) :
    Calls Tryz.prog 19 #[v] w fun e w' => e = .returned (.bool (fewV A)) ∧ Below w.heap.size w w' := by
  obtain ⟨vp, vm, rfl, hp, hm⟩ := hv
  obtain ⟨hB, _⟩ := vbox w A vp vm hp hm w.heap.size rfl
  obtain ⟨a, cap, rfl⟩ := hp.len
  obtain ⟨a2, cap2, rfl⟩ := hm.len
  clear hp hm
  rw [List.length_map, List.length_map] at *
  have HS := Kept.mk (show fewV A = (decide ((A.text.length : Int) ≤ 100) && decide ((A.plus.length : Int) ≤ 40) && decide ((A.minus.length : Int) ≤ 40)) from rfl)
  have hsz : (⟨A.text.toArray⟩ : ByteArray).size = A.text.length := size_mk _
  cases d1 : decide ((A.text.length : Int) ≤ 100) with
  | false =>
    go_enter Tryz.func19, Tryz.ntmps19
    go_wp2
    go_ret
    exact ⟨by rw [HS.out, d1]; rfl, hB.out⟩
  | true =>
    cases d2 : decide ((A.plus.length : Int) ≤ 40) with
    | false =>
      go_enter Tryz.func19, Tryz.ntmps19
      go_wp2
      go_ret
      exact ⟨by rw [HS.out, d1, d2]; rfl, hB.out⟩
    | true =>
      go_enter Tryz.func19, Tryz.ntmps19
      go_wp2
      go_ret
      exact ⟨by rw [HS.out, d1, d2]; rfl, hB.out⟩
end Go.Proofs.YtebjljiklacolaaGreat
end
section
namespace Go.Proofs.YtebjljiklacolaaGreat
open Go.RowKit
set_option linter.unusedVariables false
set_option linter.unusedSimpArgs false

def isEn (E : En) : VP := fun v w => ∃ vp vm, v = .agg #[.string ⟨E.key.toArray⟩, .int .i64 E.val.kind, .int .i64 E.val.time, .int .i64 E.val.node, .bool E.val.dead, .string ⟨E.val.text.toArray⟩, vp, vm, .int .u64 (E.val.flags.toNat : Int)] ∧ isCells (E.val.plus.map intC) vp w ∧ isCells (E.val.minus.map intC) vm w
def isEnN (B : Nat) (E : En) : VP := fun v w => ∃ vp vm, v = .agg #[.string ⟨E.key.toArray⟩, .int .i64 E.val.kind, .int .i64 E.val.time, .int .i64 E.val.node, .bool E.val.dead, .string ⟨E.val.text.toArray⟩, vp, vm, .int .u64 (E.val.flags.toNat : Int)] ∧ isCells (E.val.plus.map intC) vp w ∧ isCells (E.val.minus.map intC) vm w ∧ NewB B vp ∧ NewB B vm
theorem isEnN.en {B : Nat} {E : En} {v : Value} {w : World} (h : isEnN B E v w) : isEn E v w := by obtain ⟨vp, vm, e, hp, hm, _⟩ := h; exact ⟨vp, vm, e, hp, hm⟩
theorem stable_en (E : En) : Stable (isEn E) := fun v w w' ⟨vp, vm, e, hp, hm⟩ hb => ⟨vp, vm, e, stable_cells _ _ _ _ hp hb, stable_cells _ _ _ _ hm hb⟩
/-- Block g holds the entry E. -/
def VarN (w : World) (g : Nat) (E : En) : Prop := ∃ vp vm, CellsN w g [.string ⟨E.key.toArray⟩, .int .i64 E.val.kind, .int .i64 E.val.time, .int .i64 E.val.node, .bool E.val.dead, .string ⟨E.val.text.toArray⟩, vp, vm, .int .u64 (E.val.flags.toNat : Int)] ∧ isCells (E.val.plus.map intC) vp w ∧ isCells (E.val.minus.map intC) vm w
theorem VarN.keep {w w' : World} {g : Nat} {E : En} (h : VarN w g E) (hb : Below w.heap.size w w') : VarN w' g E := by
  obtain ⟨vp, vm, hc, hp, hm⟩ := h
  exact ⟨vp, vm, hc.keep hb hc.1, stable_cells _ _ _ _ hp hb, stable_cells _ _ _ _ hm hb⟩
theorem VarN.lt {w : World} {g : Nat} {E : En} (h : VarN w g E) : g < w.heap.size := by obtain ⟨_, _, hc, _⟩ := h; exact hc.1
theorem VarN.open_ {w : World} {g : Nat} {E : En} (h : VarN w g E) : ∃ vp vm, isEn E (.agg #[.string ⟨E.key.toArray⟩, .int .i64 E.val.kind, .int .i64 E.val.time, .int .i64 E.val.node, .bool E.val.dead, .string ⟨E.val.text.toArray⟩, vp, vm, .int .u64 (E.val.flags.toNat : Int)]) w ∧ isVa E.val (.agg #[.int .i64 E.val.kind, .int .i64 E.val.time, .int .i64 E.val.node, .bool E.val.dead, .string ⟨E.val.text.toArray⟩, vp, vm, .int .u64 (E.val.flags.toNat : Int)]) w ∧ w.cell? ⟨g, 0, none⟩ = some (.string ⟨E.key.toArray⟩) ∧ w.cell? ⟨g, 1, none⟩ = some (.int .i64 E.val.kind) ∧ w.cell? ⟨g, 2, none⟩ = some (.int .i64 E.val.time) ∧ w.cell? ⟨g, 3, none⟩ = some (.int .i64 E.val.node) ∧ w.cell? ⟨g, 4, none⟩ = some (.bool E.val.dead) ∧ w.cell? ⟨g, 5, none⟩ = some (.string ⟨E.val.text.toArray⟩) ∧ w.cell? ⟨g, 6, none⟩ = some (vp) ∧ w.cell? ⟨g, 7, none⟩ = some (vm) ∧ w.cell? ⟨g, 8, none⟩ = some (.int .u64 (E.val.flags.toNat : Int)) := by
  obtain ⟨vp, vm, hc, hp, hm⟩ := h
  exact ⟨vp, vm, ⟨vp, vm, rfl, hp, hm⟩, ⟨vp, vm, rfl, hp, hm⟩, hc.2 0 _ rfl, hc.2 1 _ rfl, hc.2 2 _ rfl, hc.2 3 _ rfl, hc.2 4 _ rfl, hc.2 5 _ rfl, hc.2 6 _ rfl, hc.2 7 _ rfl, hc.2 8 _ rfl⟩
theorem size_en : (Tryz.prog.info? 27).map (·.size) = some 9 := by kernel_rfl
theorem agg_en (w : World) : (isAgg 27).run Tryz.prog w = .ok true w := by simp [isAgg, run_underlying Tryz.underlying27]
theorem ebox (w : World) (E : En) (vp vm : Value) (hp : isCells (E.val.plus.map intC) vp w) (hm : isCells (E.val.minus.map intC) vm w) (n : Nat) (hn : n = w.heap.size) :
    Kept (Below w.heap.size w (w.alloc (.cells #[.string ⟨E.key.toArray⟩, .int .i64 E.val.kind, .int .i64 E.val.time, .int .i64 E.val.node, .bool E.val.dead, .string ⟨E.val.text.toArray⟩, vp, vm, .int .u64 (E.val.flags.toNat : Int)] 27))) ∧ Kept (VarN (w.alloc (.cells #[.string ⟨E.key.toArray⟩, .int .i64 E.val.kind, .int .i64 E.val.time, .int .i64 E.val.node, .bool E.val.dead, .string ⟨E.val.text.toArray⟩, vp, vm, .int .u64 (E.val.flags.toNat : Int)] 27)) n E) := by
  subst hn
  have hb : Below w.heap.size w (w.alloc (.cells #[.string ⟨E.key.toArray⟩, .int .i64 E.val.kind, .int .i64 E.val.time, .int .i64 E.val.node, .bool E.val.dead, .string ⟨E.val.text.toArray⟩, vp, vm, .int .u64 (E.val.flags.toNat : Int)] 27)) := (Below.refl _ _).alloc (Nat.le_refl _) _
  exact ⟨⟨hb⟩, ⟨⟨vp, vm, cellsN_new w 27 _, stable_cells _ _ _ _ hp hb, stable_cells _ _ _ _ hm hb⟩⟩⟩
theorem enew (w : World) (E : En) (vp vm : Value) (hp : isCells (E.val.plus.map intC) vp w) (hm : isCells (E.val.minus.map intC) vm w) (n : Nat) (hn : n = w.heap.size) :
    Kept (CellsN (w.alloc (.cells #[.string ⟨#[]⟩, .int .i64 0, .int .i64 0, .int .i64 0, .bool false, .string ⟨#[]⟩, .slice none 0 0, .slice none 0 0, .int .u64 0] 27)) n [.string ⟨#[]⟩, .int .i64 0, .int .i64 0, .int .i64 0, .bool false, .string ⟨#[]⟩, .slice none 0 0, .slice none 0 0, .int .u64 0]) ∧ Kept (Free5 (w.alloc (.cells #[.string ⟨#[]⟩, .int .i64 0, .int .i64 0, .int .i64 0, .bool false, .string ⟨#[]⟩, .slice none 0 0, .slice none 0 0, .int .u64 0] 27)) n) ∧ Kept (Below w.heap.size w (setN (w.alloc (.cells #[.string ⟨#[]⟩, .int .i64 0, .int .i64 0, .int .i64 0, .bool false, .string ⟨#[]⟩, .slice none 0 0, .slice none 0 0, .int .u64 0] 27)) n 0 [.string ⟨E.key.toArray⟩, .int .i64 E.val.kind, .int .i64 E.val.time, .int .i64 E.val.node, .bool E.val.dead, .string ⟨E.val.text.toArray⟩, vp, vm, .int .u64 (E.val.flags.toNat : Int)])) ∧
    Kept (CellsN (setN (w.alloc (.cells #[.string ⟨#[]⟩, .int .i64 0, .int .i64 0, .int .i64 0, .bool false, .string ⟨#[]⟩, .slice none 0 0, .slice none 0 0, .int .u64 0] 27)) n 0 [.string ⟨E.key.toArray⟩, .int .i64 E.val.kind, .int .i64 E.val.time, .int .i64 E.val.node, .bool E.val.dead, .string ⟨E.val.text.toArray⟩, vp, vm, .int .u64 (E.val.flags.toNat : Int)]) n [.string ⟨E.key.toArray⟩, .int .i64 E.val.kind, .int .i64 E.val.time, .int .i64 E.val.node, .bool E.val.dead, .string ⟨E.val.text.toArray⟩, vp, vm, .int .u64 (E.val.flags.toNat : Int)] ∧ isCells (E.val.plus.map intC) vp (setN (w.alloc (.cells #[.string ⟨#[]⟩, .int .i64 0, .int .i64 0, .int .i64 0, .bool false, .string ⟨#[]⟩, .slice none 0 0, .slice none 0 0, .int .u64 0] 27)) n 0 [.string ⟨E.key.toArray⟩, .int .i64 E.val.kind, .int .i64 E.val.time, .int .i64 E.val.node, .bool E.val.dead, .string ⟨E.val.text.toArray⟩, vp, vm, .int .u64 (E.val.flags.toNat : Int)]) ∧ isCells (E.val.minus.map intC) vm (setN (w.alloc (.cells #[.string ⟨#[]⟩, .int .i64 0, .int .i64 0, .int .i64 0, .bool false, .string ⟨#[]⟩, .slice none 0 0, .slice none 0 0, .int .u64 0] 27)) n 0 [.string ⟨E.key.toArray⟩, .int .i64 E.val.kind, .int .i64 E.val.time, .int .i64 E.val.node, .bool E.val.dead, .string ⟨E.val.text.toArray⟩, vp, vm, .int .u64 (E.val.flags.toNat : Int)])) ∧ Kept (Ones [.string ⟨E.key.toArray⟩, .int .i64 E.val.kind, .int .i64 E.val.time, .int .i64 E.val.node, .bool E.val.dead, .string ⟨E.val.text.toArray⟩, vp, vm, .int .u64 (E.val.flags.toNat : Int)]) := by
  subst hn
  have hb := lit_below w (.cells #[.string ⟨#[]⟩, .int .i64 0, .int .i64 0, .int .i64 0, .bool false, .string ⟨#[]⟩, .slice none 0 0, .slice none 0 0, .int .u64 0] 27)
  have hc := cellsN_new w 27 [.string ⟨#[]⟩, .int .i64 0, .int .i64 0, .int .i64 0, .bool false, .string ⟨#[]⟩, .slice none 0 0, .slice none 0 0, .int .u64 0]
  have hb5 := below_setN (Nat.le_refl _) [.string ⟨E.key.toArray⟩, .int .i64 E.val.kind, .int .i64 E.val.time, .int .i64 E.val.node, .bool E.val.dead, .string ⟨E.val.text.toArray⟩, vp, vm, .int .u64 (E.val.flags.toNat : Int)] 0 _ hb
  exact ⟨⟨hc⟩, ⟨free5_new w _ _⟩, ⟨hb5⟩, ⟨⟨hc.setN_ _ rfl, stable_cells _ _ _ _ hp hb5, stable_cells _ _ _ _ hm hb5⟩⟩, ⟨⟨rfl, rfl, rfl, rfl, rfl, rfl, hp.one, hm.one, rfl, trivial⟩⟩⟩
/-- An entry laid down in a block that is there already. -/
theorem eset {B g : Nat} {w0 w : World} (E : En) (vp vm : Value) (hB : B ≤ g) (hb : Below B w0 w) {old : List Value} (hc : CellsN w g old) (h9 : old.length = 9) (hp : isCells (E.val.plus.map intC) vp w) (hm : isCells (E.val.minus.map intC) vm w) (np : blk vp ≠ some g) (nm : blk vm ≠ some g) :
    Kept (Below B w0 (setN w g 0 [.string ⟨E.key.toArray⟩, .int .i64 E.val.kind, .int .i64 E.val.time, .int .i64 E.val.node, .bool E.val.dead, .string ⟨E.val.text.toArray⟩, vp, vm, .int .u64 (E.val.flags.toNat : Int)])) ∧ Kept (CellsN (setN w g 0 [.string ⟨E.key.toArray⟩, .int .i64 E.val.kind, .int .i64 E.val.time, .int .i64 E.val.node, .bool E.val.dead, .string ⟨E.val.text.toArray⟩, vp, vm, .int .u64 (E.val.flags.toNat : Int)]) g [.string ⟨E.key.toArray⟩, .int .i64 E.val.kind, .int .i64 E.val.time, .int .i64 E.val.node, .bool E.val.dead, .string ⟨E.val.text.toArray⟩, vp, vm, .int .u64 (E.val.flags.toNat : Int)]) ∧ Kept (isCells (E.val.plus.map intC) vp (setN w g 0 [.string ⟨E.key.toArray⟩, .int .i64 E.val.kind, .int .i64 E.val.time, .int .i64 E.val.node, .bool E.val.dead, .string ⟨E.val.text.toArray⟩, vp, vm, .int .u64 (E.val.flags.toNat : Int)])) ∧ Kept (isCells (E.val.minus.map intC) vm (setN w g 0 [.string ⟨E.key.toArray⟩, .int .i64 E.val.kind, .int .i64 E.val.time, .int .i64 E.val.node, .bool E.val.dead, .string ⟨E.val.text.toArray⟩, vp, vm, .int .u64 (E.val.flags.toNat : Int)])) ∧ Kept (Ones [.string ⟨E.key.toArray⟩, .int .i64 E.val.kind, .int .i64 E.val.time, .int .i64 E.val.node, .bool E.val.dead, .string ⟨E.val.text.toArray⟩, vp, vm, .int .u64 (E.val.flags.toNat : Int)]) := by
  have ap : ∀ (v : Value) (cs : List Value), blk v ≠ some g → ∀ b off cap, v = .slice (some ⟨b, off, none⟩) cs.length cap → cs ≠ [] → b ≠ g := by
    rintro v cs h b off cap rfl _ rfl
    exact h rfl
  exact ⟨⟨below_setN hB _ 0 _ hb⟩, ⟨hc.setN_ _ h9⟩, ⟨cells_apart hp (ap vp _ np) _ _⟩, ⟨cells_apart hm (ap vm _ nm) _ _⟩, ⟨⟨rfl, rfl, rfl, rfl, rfl, rfl, hp.one, hm.one, rfl, trivial⟩⟩⟩
structure FitE (E : En) : Prop where
  key : E.key.length ≤ 1000000000
  val : Fit E.val
end Go.Proofs.YtebjljiklacolaaGreat
end
section
namespace Go.Proofs.YtebjljiklacolaaGreat
open Go.RowKit
set_option linter.unusedVariables false
set_option linter.unusedSimpArgs false

theorem field_wr (g k : Nat) (hk : k < 1) (w : World) : (Instr.fieldAt 44 (.pointer (some ⟨g, 0, none⟩)) k).run Tryz.prog w = .ok (.pointer (some ⟨g, k, none⟩)) w := by
  obtain rfl : k = 0 := by omega
  simp [Instr.fieldAt, run_underlying Tryz.underlying44, Instr.sureAddr, fieldPlace, Addr.add]
theorem field_en (g k : Nat) (hk : k < 2) (w : World) : (Instr.fieldAt 27 (.pointer (some ⟨g, 0, none⟩)) k).run Tryz.prog w = .ok (.pointer (some ⟨g, k, none⟩)) w := by
  have h : k = 0 ∨ k = 1 := by omega
  rcases h with rfl | rfl <;> simp [Instr.fieldAt, run_underlying Tryz.underlying27, Instr.sureAddr, fieldPlace, Addr.add]
theorem field_va1 (g k : Nat) (hk : k < 8) (w : World) : (Instr.fieldAt 25 (.pointer (some ⟨g, 1, none⟩)) k).run Tryz.prog w = .ok (.pointer (some ⟨g, k + 1, none⟩)) w := by
  have h : k = 0 ∨ k = 1 ∨ k = 2 ∨ k = 3 ∨ k = 4 ∨ k = 5 ∨ k = 6 ∨ k = 7 := by omega
  rcases h with rfl | rfl | rfl | rfl | rfl | rfl | rfl | rfl <;> simp [Instr.fieldAt, run_underlying Tryz.underlying25, Instr.sureAddr, fieldPlace, Addr.add]
theorem loadCellsO {P : Program} (g o : Nat) (w : World) : ∀ (l : List Value) (k : Nat) (acc : Array Value), (∀ j x, l[j]? = some x → w.cell? ⟨g, o + (k + j), none⟩ = some x) → (loadCellsFrom ⟨g, o, none⟩ k l.length acc).run P w = .ok (acc ++ l.toArray) w
  | [], k, acc, _ => by simp [loadCellsFrom]
  | v :: r, k, acc, h => by
    have ea : (⟨g, o, none⟩ : Addr).add k = ⟨g, o + k, none⟩ := by
      by_cases e : k = 0
      · subst e; simp [Addr.add]
      · simp [Addr.add, e]
    have h0 : w.cell? ⟨g, o + k, none⟩ = some v := h 0 v rfl
    rw [List.length_cons]
    unfold loadCellsFrom
    rw [Sem.run_bind, ea]
    have hl : (load ⟨g, o + k, none⟩).run P w = .ok v w := by simp [h0]
    rw [hl, Result.andThen_ok, loadCellsO g o w r (k + 1) (acc.push v) (fun j x hx => by rw [show k + 1 + j = k + (j + 1) by omega]; exact h (j + 1) x (by simpa using hx))]
    simp
theorem loadO {P : Program} (t : TypeId) (g o : Nat) (w : World) (l : List Value) (hs : (P.info? t).map (·.size) = some l.length) (ha : ∀ w, (isAgg t).run P w = .ok true w) (h : ∀ (j : Nat) (x : Value), l[j]? = some x → w.cell? ⟨g, o + j, none⟩ = some x) : (loadVar t ⟨g, o, none⟩).run P w = .ok (.agg l.toArray) w := by
  obtain ⟨ie, hie, hz⟩ := Option.map_eq_some_iff.1 hs
  have hsz : (sizeOf t).run P w = .ok l.length w := by simp [sizeOf, typeInfo, hie, hz]
  have hc := loadCellsO (P := P) g o w l 0 #[] (fun j x hx => by rw [Nat.zero_add]; exact h j x hx)
  simp only [loadVar, Sem.run_bind, ha, Result.andThen_ok, if_true, hsz, loadCells, hc, Sem.run_pure]
  simp
section
variable {P : Program} {ops : Array Oper} {base : World} {a0 : Act} {Q : Exit → Act → World → Prop} {kn : Nat → VP} {i : Nat} {V : VP}
theorem step_nilP (x : Operand) (p : Addr) (hop : (ops[i]?).map (·.op) = some (.nilCheck x)) (hw : Wanted ops a0 kn i) (hx : Knows ops a0 kn i x (isVal (.pointer (some p)))) : FStep P ops base a0 Q kn i (isVal (.pointer (some p))) :=
  step_pure _ hop hw fun o a w ho hk' hd => by
    have e1 : a.eval x = _ := hx a w hk' hd
    unfold execOp
    rw [ho]
    simp [e1]
theorem step_loadO (t : TypeId) (x : Operand) (g : Nat) (y : Value) (l : List Value) (hop : (ops[i]?).map (·.op) = some (.load t x)) (hw : Wanted ops a0 kn i) (hx : Knows ops a0 kn i x (isVal (.pointer (some ⟨g, 1, none⟩))))
    (hs : (P.info? t).map (·.size) = some l.length) (ha : ∀ w, (isAgg t).run P w = .ok true w) (hc : CellsN base g (y :: l)) : FStep P ops base a0 Q kn i (isVal (.agg l.toArray)) :=
  step_mk (stable_val _) hw fun o ho a w hk hb hd => by
    have e1 : a.eval x = .pointer (some ⟨g, 1, none⟩) := hx a w hk hd
    have hc' := hc.keep hb hc.1
    have e2 := loadO (P := P) t g 1 w l hs ha (fun j x hx => by rw [Nat.add_comm]; exact hc'.2 (j + 1) x (by simpa using hx))
    unfold Oper.wp execOp
    rw [op_of hop ho]
    simp only [e1, Instr.loadAt, Instr.sureAddr, Sem.run_bind, Sem.run_pure, Result.andThen_ok, e2, Oper.upon]
    exact ⟨_, rfl, rfl, Below.refl _ _⟩
theorem step_find (t : TypeId) (x y : Operand) (g : Nat) (k : Int) (f : Value) (hop : (ops[i]?).map (·.op) = some (.lookup t x y false)) (hw : Wanted ops a0 kn i) (hx : Knows ops a0 kn i x (isKinds g)) (hy : Knows ops a0 kn i y (isVal (.int .i64 k)))
    (hr : ∀ v w, isKinds g v w → (Instr.lookup t v (.int .i64 k) false).run P w = .ok f w) : FStep P ops base a0 Q kn i (isVal f) :=
  step_mk (stable_val _) hw fun o ho a w hk hb hd => by
    have e1 : isKinds g (a.eval x) w := hx a w hk hd
    have e2 : a.eval y = .int .i64 k := hy a w hk hd
    unfold Oper.wp execOp
    rw [op_of hop ho]
    simp only [e2, Sem.run_bind, hr _ _ e1, Result.andThen_ok, Sem.run_pure, Oper.upon]
    exact ⟨_, rfl, rfl, Below.refl _ _⟩
end
theorem kind_at (g : Nat) (k : Int) (f : Value) (i : Nat) (hf : Instr.findNow (.int .i64) (.int .i64 k) (kindsA g).toList 0 = some (some (i, f))) : ∀ v w, isKinds g v w → (Instr.lookup 49 v (.int .i64 k) false).run Tryz.prog w = .ok f w := by
  rintro v w ⟨n, rfl, hn, hb⟩
  exact run_find w 49 3 _ n 3 i (kindsA g) k f Tryz.underlying49 Tryz.underlying3 hb hf
end Go.Proofs.YtebjljiklacolaaGreat
end
section
namespace Go.Proofs.YtebjljiklacolaaGreat
open Go.RowKit
set_option linter.unusedVariables false
set_option linter.unusedSimpArgs false
attribute [local irreducible] setN

theorem putS_nat (n : Int) (wd : Nat) (h0 : 0 ≤ n) (h1 : 1 ≤ wd) (h7 : wd ≤ 7) (hn : n.toNat < 256 ^ wd) : putS n (wd : Int) = putL n.toNat wd := by
  unfold putS okPut
  rw [if_pos, Int.toNat_natCast]
  simp only [isWidthB, Bool.and_eq_true, decide_eq_true_eq, Int.toNat_natCast]
  refine ⟨⟨⟨by omega, by omega⟩, h0⟩, ?_⟩
  have := Int.ofNat_lt.2 hn
  rw [Int.toNat_of_nonneg h0] at this
  simpa using this
theorem number_z (g : Nat) (t : List UInt8) (n : Int) (wd : Nat) (w : World) (h : At w g (txt t)) (ht : t.length ≤ 900) (h0 : 0 ≤ n) (hm : n ≤ 9223372036854775807) (h1 : 1 ≤ wd) (h7 : wd ≤ 7) (hn : n.toNat < 256 ^ wd) :
    Calls Tryz.prog 21 #[ptr g, .int .i64 n, .int .i64 (wd : Int)] w fun e w' => e = .returned unitV ∧ Wr g (txt (t ++ putL n.toNat wd)) w w' := by
  have e := putS_nat n wd h0 h1 h7 hn
  have := number_any g t n wd w h (by omega) hm (by rw [e, length_putL]; omega)
  rwa [e] at this
def bitI (b : Bool) : Int := (bitN b : Int)
set_option maxHeartbeats 400000 in
theorem digit_any (b : Bool) (w : World) : Calls Tryz.prog 62 #[.bool b] w fun e w' => e = .returned (.int .i64 (bitI b)) ∧ w = w' := by
  cases b with
  | true =>
    go_enter Tryz.func62, Tryz.ntmps62
    go_wp2
    go_ret
    exact ⟨rfl, rfl⟩
  | false =>
    go_enter Tryz.func62, Tryz.ntmps62
    go_wp2
    go_ret
    exact ⟨rfl, rfl⟩
theorem call_digit (b : Bool) (w : World) : Calls Tryz.prog 62 #[.bool b] w fun e w' => ∃ x, e = .returned x ∧ isVal (.int .i64 (bitI b)) x w' ∧ Below w.heap.size w w' :=
  (digit_any b w).mono (by rintro e w' ⟨rfl, rfl⟩; exact ⟨_, rfl, rfl, Below.refl _ _⟩)
noncomputable def wr1Ops : Array Oper := regionOf Tryz.f42 1
set_option maxRecDepth 100000 in
set_option maxHeartbeats 2000000 in
theorem wr1_region (Q : Exit → Act → World → Prop) (a0 : Act) (w0 : World) (hsz : a0.tmps.size = 36) (A : Va) (g b : Nat) (vp vm : Value) (e0 : a0.tmps.getD 0 undef = .pointer (some ⟨g, 0, none⟩)) (e3 : a0.tmps.getD 3 undef = .pointer (some ⟨b, 0, none⟩)) (hc : CellsN w0 b [.int .i64 A.kind, .int .i64 A.time, .int .i64 A.node, .bool A.dead, .string ⟨A.text.toArray⟩, vp, vm, .int .u64 (A.flags.toNat : Int)])
    (hC : ∀ (y : Nat → Value) (w : World), Below w0.heap.size w0 w → Calls Tryz.prog 21 #[.pointer (some ⟨g, 0, none⟩), .int .i64 A.time, .int .i64 4] w fun e w' => ∃ v, e = .returned v ∧ Q .normal { tmps := ([4, 5, 6, 7, 8, 9].foldl (fun t s => t.setIfInBounds s (y s)) a0.tmps).setIfInBounds 9 v, defers := a0.defers } w') :
    (Code.region 1 wr1Ops true).wp Tryz.prog Q a0 w0 := by
  refine wp_region_cov 5 mixed (by rw [hsz]; kernel_rfl) (by kernel_rfl) ?_
  rw [show wr1Ops.size - 5 = 1 by kernel_rfl]
  refine ⟨isVal (.pointer (some ⟨g, 0, none⟩)), step_move (.tmp 0) (by kernel_rfl) (wanted_none (by kernel_rfl)) (stable_val _) (knows_old 0 (.pointer (some ⟨g, 0, none⟩)) (by kernel_rfl) e0), ?_⟩
  refine ⟨isVal (.pointer (some ⟨g, 0, none⟩)), step_nilP (.tmp 4) ⟨g, 0, none⟩ (by kernel_rfl) (wanted_none (by kernel_rfl)) (knows_new (V := isVal (.pointer (some ⟨g, 0, none⟩))) 4 0 (by kernel_rfl) (by kernel_rfl) (by kernel_rfl)), ?_⟩
  refine ⟨isVal (.pointer (some ⟨g, 0, none⟩)), step_field 44 (.tmp 5) 0 ⟨g, 0, none⟩ ⟨g, 0, none⟩ (by kernel_rfl) (wanted_none (by kernel_rfl)) (knows_new (V := isVal (.pointer (some ⟨g, 0, none⟩))) 5 1 (by kernel_rfl) (by kernel_rfl) (by kernel_rfl)) (field_wr g 0 (by omega)), ?_⟩
  refine ⟨isVal (.pointer (some ⟨b, 1, none⟩)), step_field 25 (.tmp 3) 1 ⟨b, 0, none⟩ ⟨b, 1, none⟩ (by kernel_rfl) (wanted_none (by kernel_rfl)) (knows_old 3 (.pointer (some ⟨b, 0, none⟩)) (by kernel_rfl) e3) (field_va b 1 (by omega)), ?_⟩
  refine ⟨isVal (.int .i64 A.time), step_read 3 (.tmp 7) ⟨b, 1, none⟩ (.int .i64 A.time) (by kernel_rfl) (wanted_none (by kernel_rfl)) (knows_new (V := isVal (.pointer (some ⟨b, 1, none⟩))) 7 3 (by kernel_rfl) (by kernel_rfl) (by kernel_rfl)) (hc.2 1 _ rfl) hc.1 agg_int, ?_⟩
  intro a w hkp hb hd
  have d6 : a.eval (.tmp 6) = _ := fdone_of (hd 2 (by decide)) (t := 6) (V := isVal (.pointer (some ⟨g, 0, none⟩))) (by kernel_rfl) (by kernel_rfl)
  have d8 : a.eval (.tmp 8) = _ := fdone_of (hd 4 (by decide)) (t := 8) (V := isVal (.int .i64 A.time)) (by kernel_rfl) (by kernel_rfl)
  refine tail_call 21 #[.tmp 6, .tmp 8, .const (.int .i64 4)] #[42, 3, 3] #[.pointer (some ⟨g, 0, none⟩), .int .i64 A.time, .int .i64 4] 9 (by kernel_rfl) (by kernel_rfl) (by simp only [List.map_toArray, List.map_cons, List.map_nil, d6, d8]; try rfl) (enters_of Tryz.func21 (by kernel_rfl) rfl) ?_
  obtain ⟨y, ey⟩ := kept_ex hkp [some 4, some 5, some 6, some 7, some 8, some 9] [4, 5, 6, 7, 8, 9] (by kernel_rfl) (by decide)
  refine (hC y w hb).mono ?_
  rintro e w' ⟨v, rfl, hq⟩
  exact ⟨v, rfl, put_kept ey hq⟩
noncomputable def wr2Ops : Array Oper := regionOf Tryz.f42 2
set_option maxRecDepth 100000 in
set_option maxHeartbeats 2000000 in
theorem wr2_region (Q : Exit → Act → World → Prop) (a0 : Act) (w0 : World) (hsz : a0.tmps.size = 36) (A : Va) (g b : Nat) (vp vm : Value) (e0 : a0.tmps.getD 0 undef = .pointer (some ⟨g, 0, none⟩)) (e3 : a0.tmps.getD 3 undef = .pointer (some ⟨b, 0, none⟩)) (hc : CellsN w0 b [.int .i64 A.kind, .int .i64 A.time, .int .i64 A.node, .bool A.dead, .string ⟨A.text.toArray⟩, vp, vm, .int .u64 (A.flags.toNat : Int)])
    (hC : ∀ (y : Nat → Value) (w : World), Below w0.heap.size w0 w → Calls Tryz.prog 21 #[.pointer (some ⟨g, 0, none⟩), .int .i64 A.node, .int .i64 1] w fun e w' => ∃ v, e = .returned v ∧ Q .normal { tmps := ([10, 11, 12, 13, 14, 15].foldl (fun t s => t.setIfInBounds s (y s)) a0.tmps).setIfInBounds 15 v, defers := a0.defers } w') :
    (Code.region 2 wr2Ops true).wp Tryz.prog Q a0 w0 := by
  refine wp_region_cov 5 mixed (by rw [hsz]; kernel_rfl) (by kernel_rfl) ?_
  rw [show wr2Ops.size - 5 = 1 by kernel_rfl]
  refine ⟨isVal (.pointer (some ⟨g, 0, none⟩)), step_move (.tmp 0) (by kernel_rfl) (wanted_none (by kernel_rfl)) (stable_val _) (knows_old 0 (.pointer (some ⟨g, 0, none⟩)) (by kernel_rfl) e0), ?_⟩
  refine ⟨isVal (.pointer (some ⟨g, 0, none⟩)), step_nilP (.tmp 10) ⟨g, 0, none⟩ (by kernel_rfl) (wanted_none (by kernel_rfl)) (knows_new (V := isVal (.pointer (some ⟨g, 0, none⟩))) 10 0 (by kernel_rfl) (by kernel_rfl) (by kernel_rfl)), ?_⟩
  refine ⟨isVal (.pointer (some ⟨g, 0, none⟩)), step_field 44 (.tmp 11) 0 ⟨g, 0, none⟩ ⟨g, 0, none⟩ (by kernel_rfl) (wanted_none (by kernel_rfl)) (knows_new (V := isVal (.pointer (some ⟨g, 0, none⟩))) 11 1 (by kernel_rfl) (by kernel_rfl) (by kernel_rfl)) (field_wr g 0 (by omega)), ?_⟩
  refine ⟨isVal (.pointer (some ⟨b, 2, none⟩)), step_field 25 (.tmp 3) 2 ⟨b, 0, none⟩ ⟨b, 2, none⟩ (by kernel_rfl) (wanted_none (by kernel_rfl)) (knows_old 3 (.pointer (some ⟨b, 0, none⟩)) (by kernel_rfl) e3) (field_va b 2 (by omega)), ?_⟩
  refine ⟨isVal (.int .i64 A.node), step_read 3 (.tmp 13) ⟨b, 2, none⟩ (.int .i64 A.node) (by kernel_rfl) (wanted_none (by kernel_rfl)) (knows_new (V := isVal (.pointer (some ⟨b, 2, none⟩))) 13 3 (by kernel_rfl) (by kernel_rfl) (by kernel_rfl)) (hc.2 2 _ rfl) hc.1 agg_int, ?_⟩
  intro a w hkp hb hd
  have d12 : a.eval (.tmp 12) = _ := fdone_of (hd 2 (by decide)) (t := 12) (V := isVal (.pointer (some ⟨g, 0, none⟩))) (by kernel_rfl) (by kernel_rfl)
  have d14 : a.eval (.tmp 14) = _ := fdone_of (hd 4 (by decide)) (t := 14) (V := isVal (.int .i64 A.node)) (by kernel_rfl) (by kernel_rfl)
  refine tail_call 21 #[.tmp 12, .tmp 14, .const (.int .i64 1)] #[42, 3, 3] #[.pointer (some ⟨g, 0, none⟩), .int .i64 A.node, .int .i64 1] 15 (by kernel_rfl) (by kernel_rfl) (by simp only [List.map_toArray, List.map_cons, List.map_nil, d12, d14]; try rfl) (enters_of Tryz.func21 (by kernel_rfl) rfl) ?_
  obtain ⟨y, ey⟩ := kept_ex hkp [some 10, some 11, some 12, some 13, some 14, some 15] [10, 11, 12, 13, 14, 15] (by kernel_rfl) (by decide)
  refine (hC y w hb).mono ?_
  rintro e w' ⟨v, rfl, hq⟩
  exact ⟨v, rfl, put_kept ey hq⟩
noncomputable def wr3Ops : Array Oper := regionOf Tryz.f42 3
set_option maxRecDepth 100000 in
set_option maxHeartbeats 2000000 in
theorem wr3_region (Q : Exit → Act → World → Prop) (a0 : Act) (w0 : World) (hsz : a0.tmps.size = 36) (A : Va) (g b : Nat) (vp vm : Value) (e0 : a0.tmps.getD 0 undef = .pointer (some ⟨g, 0, none⟩)) (e3 : a0.tmps.getD 3 undef = .pointer (some ⟨b, 0, none⟩)) (hc : CellsN w0 b [.int .i64 A.kind, .int .i64 A.time, .int .i64 A.node, .bool A.dead, .string ⟨A.text.toArray⟩, vp, vm, .int .u64 (A.flags.toNat : Int)])
    (hC : ∀ (y : Nat → Value) (w : World), Below w0.heap.size w0 w → Calls Tryz.prog 21 #[.pointer (some ⟨g, 0, none⟩), .int .i64 (bitI A.dead), .int .i64 1] w fun e w' => ∃ v, e = .returned v ∧ Q .normal { tmps := ([16, 17, 18, 19, 20, 21, 22].foldl (fun t s => t.setIfInBounds s (y s)) a0.tmps).setIfInBounds 22 v, defers := a0.defers } w') :
    (Code.region 3 wr3Ops true).wp Tryz.prog Q a0 w0 := by
  refine wp_region_cov 6 mixed (by rw [hsz]; kernel_rfl) (by kernel_rfl) ?_
  rw [show wr3Ops.size - 6 = 1 by kernel_rfl]
  refine ⟨isVal (.pointer (some ⟨g, 0, none⟩)), step_move (.tmp 0) (by kernel_rfl) (wanted_none (by kernel_rfl)) (stable_val _) (knows_old 0 (.pointer (some ⟨g, 0, none⟩)) (by kernel_rfl) e0), ?_⟩
  refine ⟨isVal (.pointer (some ⟨g, 0, none⟩)), step_nilP (.tmp 16) ⟨g, 0, none⟩ (by kernel_rfl) (wanted_none (by kernel_rfl)) (knows_new (V := isVal (.pointer (some ⟨g, 0, none⟩))) 16 0 (by kernel_rfl) (by kernel_rfl) (by kernel_rfl)), ?_⟩
  refine ⟨isVal (.pointer (some ⟨g, 0, none⟩)), step_field 44 (.tmp 17) 0 ⟨g, 0, none⟩ ⟨g, 0, none⟩ (by kernel_rfl) (wanted_none (by kernel_rfl)) (knows_new (V := isVal (.pointer (some ⟨g, 0, none⟩))) 17 1 (by kernel_rfl) (by kernel_rfl) (by kernel_rfl)) (field_wr g 0 (by omega)), ?_⟩
  refine ⟨isVal (.pointer (some ⟨b, 3, none⟩)), step_field 25 (.tmp 3) 3 ⟨b, 0, none⟩ ⟨b, 3, none⟩ (by kernel_rfl) (wanted_none (by kernel_rfl)) (knows_old 3 (.pointer (some ⟨b, 0, none⟩)) (by kernel_rfl) e3) (field_va b 3 (by omega)), ?_⟩
  refine ⟨isVal (.bool A.dead), step_read 4 (.tmp 19) ⟨b, 3, none⟩ (.bool A.dead) (by kernel_rfl) (wanted_none (by kernel_rfl)) (knows_new (V := isVal (.pointer (some ⟨b, 3, none⟩))) 19 3 (by kernel_rfl) (by kernel_rfl) (by kernel_rfl)) (hc.2 3 _ rfl) hc.1 agg_bool, ?_⟩
  refine ⟨isVal (.int .i64 (bitI A.dead)), step_call 62 #[.tmp 20] #[4] #[.bool A.dead] (by kernel_rfl) (wanted_none (by kernel_rfl)) (stable_val _) (args1 (.tmp 20) (.bool A.dead) (knows_new (V := isVal (.bool A.dead)) 20 4 (by kernel_rfl) (by kernel_rfl) (by kernel_rfl))) (enters_of Tryz.func62 (by kernel_rfl) rfl) (by intro w hb; exact call_digit A.dead w), ?_⟩
  intro a w hkp hb hd
  have d18 : a.eval (.tmp 18) = _ := fdone_of (hd 2 (by decide)) (t := 18) (V := isVal (.pointer (some ⟨g, 0, none⟩))) (by kernel_rfl) (by kernel_rfl)
  have d21 : a.eval (.tmp 21) = _ := fdone_of (hd 5 (by decide)) (t := 21) (V := isVal (.int .i64 (bitI A.dead))) (by kernel_rfl) (by kernel_rfl)
  refine tail_call 21 #[.tmp 18, .tmp 21, .const (.int .i64 1)] #[42, 3, 3] #[.pointer (some ⟨g, 0, none⟩), .int .i64 (bitI A.dead), .int .i64 1] 22 (by kernel_rfl) (by kernel_rfl) (by simp only [List.map_toArray, List.map_cons, List.map_nil, d18, d21]; try rfl) (enters_of Tryz.func21 (by kernel_rfl) rfl) ?_
  obtain ⟨y, ey⟩ := kept_ex hkp [some 16, some 17, some 18, some 19, some 20, some 21, some 22] [16, 17, 18, 19, 20, 21, 22] (by kernel_rfl) (by decide)
  refine (hC y w hb).mono ?_
  rintro e w' ⟨v, rfl, hq⟩
  exact ⟨v, rfl, put_kept ey hq⟩
noncomputable def wr4Ops : Array Oper := regionOf Tryz.f42 4
set_option maxRecDepth 100000 in
set_option maxHeartbeats 2000000 in
theorem wr4_region (Q : Exit → Act → World → Prop) (a0 : Act) (w0 : World) (hsz : a0.tmps.size = 36) (A : Va) (g b : Nat) (vp vm : Value) (e0 : a0.tmps.getD 0 undef = .pointer (some ⟨g, 0, none⟩)) (e3 : a0.tmps.getD 3 undef = .pointer (some ⟨b, 0, none⟩)) (hc : CellsN w0 b [.int .i64 A.kind, .int .i64 A.time, .int .i64 A.node, .bool A.dead, .string ⟨A.text.toArray⟩, vp, vm, .int .u64 (A.flags.toNat : Int)])
    (hC : ∀ (y : Nat → Value) (w : World), Below w0.heap.size w0 w → Calls Tryz.prog 21 #[.pointer (some ⟨g, 0, none⟩), .int .i64 (A.text.length : Int), .int .i64 1] w fun e w' => ∃ v, e = .returned v ∧ Q .normal { tmps := ([23, 24, 25, 26, 27, 28, 29].foldl (fun t s => t.setIfInBounds s (y s)) a0.tmps).setIfInBounds 29 v, defers := a0.defers } w') :
    (Code.region 4 wr4Ops true).wp Tryz.prog Q a0 w0 := by
  refine wp_region_cov 6 mixed (by rw [hsz]; kernel_rfl) (by kernel_rfl) ?_
  rw [show wr4Ops.size - 6 = 1 by kernel_rfl]
  refine ⟨isVal (.pointer (some ⟨g, 0, none⟩)), step_move (.tmp 0) (by kernel_rfl) (wanted_none (by kernel_rfl)) (stable_val _) (knows_old 0 (.pointer (some ⟨g, 0, none⟩)) (by kernel_rfl) e0), ?_⟩
  refine ⟨isVal (.pointer (some ⟨g, 0, none⟩)), step_nilP (.tmp 23) ⟨g, 0, none⟩ (by kernel_rfl) (wanted_none (by kernel_rfl)) (knows_new (V := isVal (.pointer (some ⟨g, 0, none⟩))) 23 0 (by kernel_rfl) (by kernel_rfl) (by kernel_rfl)), ?_⟩
  refine ⟨isVal (.pointer (some ⟨g, 0, none⟩)), step_field 44 (.tmp 24) 0 ⟨g, 0, none⟩ ⟨g, 0, none⟩ (by kernel_rfl) (wanted_none (by kernel_rfl)) (knows_new (V := isVal (.pointer (some ⟨g, 0, none⟩))) 24 1 (by kernel_rfl) (by kernel_rfl) (by kernel_rfl)) (field_wr g 0 (by omega)), ?_⟩
  refine ⟨isVal (.pointer (some ⟨b, 4, none⟩)), step_field 25 (.tmp 3) 4 ⟨b, 0, none⟩ ⟨b, 4, none⟩ (by kernel_rfl) (wanted_none (by kernel_rfl)) (knows_old 3 (.pointer (some ⟨b, 0, none⟩)) (by kernel_rfl) e3) (field_va b 4 (by omega)), ?_⟩
  refine ⟨isVal (.string ⟨A.text.toArray⟩), step_read 9 (.tmp 26) ⟨b, 4, none⟩ (.string ⟨A.text.toArray⟩) (by kernel_rfl) (wanted_none (by kernel_rfl)) (knows_new (V := isVal (.pointer (some ⟨b, 4, none⟩))) 26 3 (by kernel_rfl) (by kernel_rfl) (by kernel_rfl)) (hc.2 4 _ rfl) hc.1 agg_str, ?_⟩
  refine ⟨isVal (.int .i64 (A.text.length : Int)), step_len 9 (.tmp 27) (.string ⟨A.text.toArray⟩) (.int .i64 (A.text.length : Int)) (by kernel_rfl) (wanted_none (by kernel_rfl)) (knows_new (V := isVal (.string ⟨A.text.toArray⟩)) 27 4 (by kernel_rfl) (by kernel_rfl) (by kernel_rfl)) (len_str A.text), ?_⟩
  intro a w hkp hb hd
  have d25 : a.eval (.tmp 25) = _ := fdone_of (hd 2 (by decide)) (t := 25) (V := isVal (.pointer (some ⟨g, 0, none⟩))) (by kernel_rfl) (by kernel_rfl)
  have d28 : a.eval (.tmp 28) = _ := fdone_of (hd 5 (by decide)) (t := 28) (V := isVal (.int .i64 (A.text.length : Int))) (by kernel_rfl) (by kernel_rfl)
  refine tail_call 21 #[.tmp 25, .tmp 28, .const (.int .i64 1)] #[42, 3, 3] #[.pointer (some ⟨g, 0, none⟩), .int .i64 (A.text.length : Int), .int .i64 1] 29 (by kernel_rfl) (by kernel_rfl) (by simp only [List.map_toArray, List.map_cons, List.map_nil, d25, d28]; try rfl) (enters_of Tryz.func21 (by kernel_rfl) rfl) ?_
  obtain ⟨y, ey⟩ := kept_ex hkp [some 23, some 24, some 25, some 26, some 27, some 28, some 29] [23, 24, 25, 26, 27, 28, 29] (by kernel_rfl) (by decide)
  refine (hC y w hb).mono ?_
  rintro e w' ⟨v, rfl, hq⟩
  exact ⟨v, rfl, put_kept ey hq⟩
noncomputable def wr5Ops : Array Oper := regionOf Tryz.f42 5
set_option maxRecDepth 100000 in
set_option maxHeartbeats 2000000 in
theorem wr5_region (Q : Exit → Act → World → Prop) (a0 : Act) (w0 : World) (hsz : a0.tmps.size = 36) (A : Va) (g b : Nat) (vp vm : Value) (e0 : a0.tmps.getD 0 undef = .pointer (some ⟨g, 0, none⟩)) (e3 : a0.tmps.getD 3 undef = .pointer (some ⟨b, 0, none⟩)) (hc : CellsN w0 b [.int .i64 A.kind, .int .i64 A.time, .int .i64 A.node, .bool A.dead, .string ⟨A.text.toArray⟩, vp, vm, .int .u64 (A.flags.toNat : Int)])
    (hC : ∀ (y : Nat → Value) (w : World), Below w0.heap.size w0 w → Calls Tryz.prog 22 #[.pointer (some ⟨g, 0, none⟩), .string ⟨A.text.toArray⟩] w fun e w' => ∃ v, e = .returned v ∧ Q .normal { tmps := ([30, 31, 32, 33, 34, 35].foldl (fun t s => t.setIfInBounds s (y s)) a0.tmps).setIfInBounds 35 v, defers := a0.defers } w') :
    (Code.region 5 wr5Ops true).wp Tryz.prog Q a0 w0 := by
  refine wp_region_cov 5 mixed (by rw [hsz]; kernel_rfl) (by kernel_rfl) ?_
  rw [show wr5Ops.size - 5 = 1 by kernel_rfl]
  refine ⟨isVal (.pointer (some ⟨g, 0, none⟩)), step_move (.tmp 0) (by kernel_rfl) (wanted_none (by kernel_rfl)) (stable_val _) (knows_old 0 (.pointer (some ⟨g, 0, none⟩)) (by kernel_rfl) e0), ?_⟩
  refine ⟨isVal (.pointer (some ⟨g, 0, none⟩)), step_nilP (.tmp 30) ⟨g, 0, none⟩ (by kernel_rfl) (wanted_none (by kernel_rfl)) (knows_new (V := isVal (.pointer (some ⟨g, 0, none⟩))) 30 0 (by kernel_rfl) (by kernel_rfl) (by kernel_rfl)), ?_⟩
  refine ⟨isVal (.pointer (some ⟨g, 0, none⟩)), step_field 44 (.tmp 31) 0 ⟨g, 0, none⟩ ⟨g, 0, none⟩ (by kernel_rfl) (wanted_none (by kernel_rfl)) (knows_new (V := isVal (.pointer (some ⟨g, 0, none⟩))) 31 1 (by kernel_rfl) (by kernel_rfl) (by kernel_rfl)) (field_wr g 0 (by omega)), ?_⟩
  refine ⟨isVal (.pointer (some ⟨b, 4, none⟩)), step_field 25 (.tmp 3) 4 ⟨b, 0, none⟩ ⟨b, 4, none⟩ (by kernel_rfl) (wanted_none (by kernel_rfl)) (knows_old 3 (.pointer (some ⟨b, 0, none⟩)) (by kernel_rfl) e3) (field_va b 4 (by omega)), ?_⟩
  refine ⟨isVal (.string ⟨A.text.toArray⟩), step_read 9 (.tmp 33) ⟨b, 4, none⟩ (.string ⟨A.text.toArray⟩) (by kernel_rfl) (wanted_none (by kernel_rfl)) (knows_new (V := isVal (.pointer (some ⟨b, 4, none⟩))) 33 3 (by kernel_rfl) (by kernel_rfl) (by kernel_rfl)) (hc.2 4 _ rfl) hc.1 agg_str, ?_⟩
  intro a w hkp hb hd
  have d32 : a.eval (.tmp 32) = _ := fdone_of (hd 2 (by decide)) (t := 32) (V := isVal (.pointer (some ⟨g, 0, none⟩))) (by kernel_rfl) (by kernel_rfl)
  have d34 : a.eval (.tmp 34) = _ := fdone_of (hd 4 (by decide)) (t := 34) (V := isVal (.string ⟨A.text.toArray⟩)) (by kernel_rfl) (by kernel_rfl)
  refine tail_call 22 #[.tmp 32, .tmp 34] #[42, 9] #[.pointer (some ⟨g, 0, none⟩), .string ⟨A.text.toArray⟩] 35 (by kernel_rfl) (by kernel_rfl) (by simp only [List.map_toArray, List.map_cons, List.map_nil, d32, d34]; try rfl) (enters_of Tryz.func22 (by kernel_rfl) rfl) ?_
  obtain ⟨y, ey⟩ := kept_ex hkp [some 30, some 31, some 32, some 33, some 34, some 35] [30, 31, 32, 33, 34, 35] (by kernel_rfl) (by decide)
  refine (hC y w hb).mono ?_
  rintro e w' ⟨v, rfl, hq⟩
  exact ⟨v, rfl, put_kept ey hq⟩
set_option maxRecDepth 100000 in
set_option maxHeartbeats 4000000 in
theorem wreg_any (A : Va) (g : Nat) (t : List UInt8) (v : Value) (w : World) (hv : isVa A v w) (h : At w g (txt t)) (ht : t.length ≤ 500) (hk : A.kind = 1) (hI : inReg A = true) :
    Calls Tryz.prog 42 #[ptr g, v] w fun e w' => e = .returned unitV ∧ Wr g (txt (t ++ dataL A)) w w' := by
  have HD := Kept.mk (data_reg hk)
  simp only [inReg, Bool.and_eq_true, decide_eq_true_eq] at hI
  obtain ⟨⟨⟨⟨t0, t1⟩, ⟨n0, n1⟩⟩, x8⟩, -⟩ := hI
  have hb2 : bitN A.dead ≤ 1 := by unfold bitN; split <;> omega
  have l1 := length_putL 4 A.time.toNat
  have l2 := length_putL 1 A.node.toNat
  have l3 := length_putL 1 (bitI A.dead).toNat
  have l4 := length_putL 1 (A.text.length : Int).toNat
  clear hk
  obtain ⟨vp, vm, rfl, hp, hm⟩ := hv
  have hg := h.lt
  have HW := Kept.mk ((Wr.refl h).alloc (.cells #[.int .i64 A.kind, .int .i64 A.time, .int .i64 A.node, .bool A.dead, .string ⟨A.text.toArray⟩, vp, vm, .int .u64 (A.flags.toNat : Int)] 25))
  have HV := Kept.mk (Blk.new w 25 [.int .i64 A.kind, .int .i64 A.time, .int .i64 A.node, .bool A.dead, .string ⟨A.text.toArray⟩, vp, vm, .int .u64 (A.flags.toNat : Int)] w.heap.size rfl)
  go_enter Tryz.func42, Tryz.ntmps42
  go_wp2_with fail
  generalize w.alloc (.cells #[.int .i64 A.kind, .int .i64 A.time, .int .i64 A.node, .bool A.dead, .string ⟨A.text.toArray⟩, vp, vm, .int .u64 (A.flags.toNat : Int)] 25) = W0 at *
  refine wr1_region _ _ _ rfl A g w.heap.size vp vm rfl rfl HV.out.cells ?_
  intro y9 W9 hb9
  replace HW := Kept.mk (HW.out.then_ hb9)
  replace HV := Kept.mk (HV.out.keep hb9)
  clear hb9
  refine (number_z g (t) A.time 4 W9 HW.out.at_ (by first | omega | (simp only [List.length_append]; omega)) (by omega) (by omega) (by omega) (by omega) (by show _ < 4294967296; omega)).mono ?_
  rintro e W1 ⟨rfl, hw⟩
  replace HW := Kept.mk (HW.out.trans hw)
  replace HV := Kept.mk (HV.out.wr hw (by omega))
  clear hw
  refine ⟨_, rfl, ?_⟩
  simp only [List.foldl_cons, List.foldl_nil]
  generalize y9 4 = z4
  generalize y9 5 = z5
  generalize y9 6 = z6
  generalize y9 7 = z7
  generalize y9 8 = z8
  generalize y9 9 = z9
  simp only [List.setIfInBounds_toArray, List.set_cons_succ, List.set_cons_zero]
  clear y9
  go_wp2_with fail
  refine wr2_region _ _ _ rfl A g w.heap.size vp vm rfl rfl HV.out.cells ?_
  intro y9 W9 hb9
  replace HW := Kept.mk (HW.out.then_ hb9)
  replace HV := Kept.mk (HV.out.keep hb9)
  clear hb9
  refine (number_z g (t ++ putL A.time.toNat 4) A.node 1 W9 HW.out.at_ (by first | omega | (simp only [List.length_append]; omega)) (by omega) (by omega) (by omega) (by omega) (by show _ < 256; omega)).mono ?_
  rintro e W2 ⟨rfl, hw⟩
  replace HW := Kept.mk (HW.out.trans hw)
  replace HV := Kept.mk (HV.out.wr hw (by omega))
  clear hw
  refine ⟨_, rfl, ?_⟩
  simp only [List.foldl_cons, List.foldl_nil]
  generalize y9 10 = z10
  generalize y9 11 = z11
  generalize y9 12 = z12
  generalize y9 13 = z13
  generalize y9 14 = z14
  generalize y9 15 = z15
  simp only [List.setIfInBounds_toArray, List.set_cons_succ, List.set_cons_zero]
  clear y9
  go_wp2_with fail
  refine wr3_region _ _ _ rfl A g w.heap.size vp vm rfl rfl HV.out.cells ?_
  intro y9 W9 hb9
  replace HW := Kept.mk (HW.out.then_ hb9)
  replace HV := Kept.mk (HV.out.keep hb9)
  clear hb9
  refine (number_z g ((t ++ putL A.time.toNat 4) ++ putL A.node.toNat 1) (bitI A.dead) 1 W9 HW.out.at_ (by first | omega | (simp only [List.length_append]; omega)) (by unfold bitI; omega) (by unfold bitI; omega) (by omega) (by omega) (by show (bitN A.dead) < 256; omega)).mono ?_
  rintro e W3 ⟨rfl, hw⟩
  replace HW := Kept.mk (HW.out.trans hw)
  replace HV := Kept.mk (HV.out.wr hw (by omega))
  clear hw
  refine ⟨_, rfl, ?_⟩
  simp only [List.foldl_cons, List.foldl_nil]
  generalize y9 16 = z16
  generalize y9 17 = z17
  generalize y9 18 = z18
  generalize y9 19 = z19
  generalize y9 20 = z20
  generalize y9 21 = z21
  generalize y9 22 = z22
  simp only [List.setIfInBounds_toArray, List.set_cons_succ, List.set_cons_zero]
  clear y9
  go_wp2_with fail
  refine wr4_region _ _ _ rfl A g w.heap.size vp vm rfl rfl HV.out.cells ?_
  intro y9 W9 hb9
  replace HW := Kept.mk (HW.out.then_ hb9)
  replace HV := Kept.mk (HV.out.keep hb9)
  clear hb9
  refine (number_z g (((t ++ putL A.time.toNat 4) ++ putL A.node.toNat 1) ++ putL (bitI A.dead).toNat 1) (A.text.length : Int) 1 W9 HW.out.at_ (by first | omega | (simp only [List.length_append]; omega)) (by omega) (by omega) (by omega) (by omega) (by show _ < 256; omega)).mono ?_
  rintro e W4 ⟨rfl, hw⟩
  replace HW := Kept.mk (HW.out.trans hw)
  replace HV := Kept.mk (HV.out.wr hw (by omega))
  clear hw
  refine ⟨_, rfl, ?_⟩
  simp only [List.foldl_cons, List.foldl_nil]
  generalize y9 23 = z23
  generalize y9 24 = z24
  generalize y9 25 = z25
  generalize y9 26 = z26
  generalize y9 27 = z27
  generalize y9 28 = z28
  generalize y9 29 = z29
  simp only [List.setIfInBounds_toArray, List.set_cons_succ, List.set_cons_zero]
  clear y9
  go_wp2_with fail
  refine wr5_region _ _ _ rfl A g w.heap.size vp vm rfl rfl HV.out.cells ?_
  intro y9 W9 hb9
  replace HW := Kept.mk (HW.out.then_ hb9)
  replace HV := Kept.mk (HV.out.keep hb9)
  clear hb9
  refine (add_any g ((((t ++ putL A.time.toNat 4) ++ putL A.node.toNat 1) ++ putL (bitI A.dead).toNat 1) ++ putL (A.text.length : Int).toNat 1) A.text W9 HW.out.at_ (by simp only [List.length_append]; omega) (by omega)).mono ?_
  rintro e W5 ⟨rfl, hw⟩
  replace HW := Kept.mk (HW.out.trans hw)
  replace HV := Kept.mk (HV.out.wr hw (by omega))
  clear hw
  refine ⟨_, rfl, ?_⟩
  simp only [List.foldl_cons, List.foldl_nil]
  generalize y9 30 = z30
  generalize y9 31 = z31
  generalize y9 32 = z32
  generalize y9 33 = z33
  generalize y9 34 = z34
  generalize y9 35 = z35
  simp only [List.setIfInBounds_toArray, List.set_cons_succ, List.set_cons_zero]
  clear y9
  go_wp2
  go_end0
  refine ⟨rfl, ?_⟩
  have := HW.out
  rw [HD.out]
  simpa only [List.append_assoc, bitI, Int.toNat_natCast] using this
theorem nums_app : ∀ (a b : List Int), numsL (a ++ b) = numsL a ++ numsL b
  | [], b => rfl
  | x :: r, b => by rw [List.cons_append, numsL, nums_app r b, numsL, List.append_assoc]
theorem nums_take (l : List Int) (k : Nat) (h : k < l.length) : numsL (l.take (k + 1)) = numsL (l.take k) ++ putL l[k].toNat 2 := by
  rw [List.take_succ_eq_append_getElem h, nums_app, numsL, numsL, List.append_nil]
set_option maxRecDepth 100000 in
set_option maxHeartbeats 4000000 in
theorem wrow_any (l : List Int) (g : Nat) (t : List UInt8) (v : Value) (w : World) (hv : isCells (l.map intC) v w) (hne : blk v ≠ some g) (h : At w g (txt t)) (ht : t.length ≤ 500) (hl : l.length ≤ 40) (hn : l.all okNum = true) :
    Calls Tryz.prog 63 #[ptr g, v] w fun e w' => e = .returned unitV ∧ Wr g (txt (t ++ numsL l)) w w' := by
  obtain ⟨a, cap, hva⟩ := hv.len
  rw [List.length_map] at hva
  subst hva
  have HV := Kept.mk hv
  have HN := Kept.mk hn
  have HG := Kept.mk hne
  have HW := Kept.mk (Wr.refl h)
  have hg := h.lt
  clear hv hn hne
  go_enter Tryz.func63, Tryz.ntmps63
  go_wp2
  go_loopw [8] (fun i wr => ∃ k : Nat, k ≤ l.length ∧ i = .int .i64 (k : Int) ∧ Kept (Wr g (txt (t ++ numsL (l.take k))) w wr)) (fun i _ => l.length - (intOf i).toNat)
  case atStart => exact ⟨0, Nat.zero_le _, rfl, ⟨by rw [List.take_zero, numsL, List.append_nil]; exact HW.out⟩⟩
  case round =>
    clear HW
    obtain ⟨k, hk, rfl, HW⟩ := hrel
    by_cases hlt : k < l.length
    · have HV1 := HV.out.wr HW.out HG.out
      obtain ⟨b, off, cap', hs, hb, hc⟩ := HV1.some_ (by rw [List.length_map]; omega)
      rw [List.length_map] at hs
      injection hs with h1 h2 h3
      subst h1 h3
      have hcell := hc k _ (get_map intC l k hlt)
      have hx2 : okNum l[k] = true := List.all_eq_true.1 HN.out _ (List.getElem_mem hlt)
      unfold okNum at hx2
      simp only [Bool.and_eq_true, decide_eq_true_eq] at hx2
      have HS := Kept.mk (nums_take l k hlt)
      obtain ⟨x, hx⟩ : ∃ x, x = l[k] := ⟨_, rfl⟩
      rw [← hx] at hcell HS hx2
      unfold intC at hcell
      clear hc hx HV1
      obtain ⟨b3, b4⟩ := hx2
      have hlen := length_nums (l.take k)
      have hlk : (l.take k).length ≤ 40 := by rw [List.length_take]; omega
      have d1 : decide ((k : Int) < (l.length : Int)) = true := by simpa using hlt
      go_wp2_with fail
      refine (number_z g (t ++ numsL (l.take k)) x 2 _ HW.out.at_ (by rw [List.length_append]; omega) b3 (by omega) (by omega) (by omega) (by show _ < 65536; omega)).mono ?_
      rintro e w2 ⟨rfl, hw⟩
      replace HW := Kept.mk (HW.out.trans hw)
      clear hw
      go_wp2
      go_roundw
      case rel => exact ⟨k + 1, by omega, by go_num, ⟨by rw [HS.out, ← List.append_assoc]; exact HW.out⟩⟩
      case measure => simp [intOf]; omega
    · have d1 : decide ((k : Int) < (l.length : Int)) = false := by simpa using hlt
      go_wp2
      go_end0
      refine ⟨rfl, ?_⟩
      have := HW.out
      rwa [List.take_of_length_le (by omega)] at this
set_option maxRecDepth 100000 in
set_option maxHeartbeats 4000000 in
theorem wcount_any (A : Va) (g : Nat) (t : List UInt8) (vp vm : Value) (w : World) (hp : isCells (A.plus.map intC) vp w) (hm : isCells (A.minus.map intC) vm w) (np : blk vp ≠ some g) (nm : blk vm ≠ some g) (h : At w g (txt t)) (ht : t.length ≤ 300) (hk : A.kind = 2) (hI : inCount A = true) :
    Calls Tryz.prog 43 #[ptr g, .agg #[.int .i64 A.kind, .int .i64 A.time, .int .i64 A.node, .bool A.dead, .string ⟨A.text.toArray⟩, vp, vm, .int .u64 (A.flags.toNat : Int)]] w fun e w' => e = .returned unitV ∧ Wr g (txt (t ++ dataL A)) w w' := by
  have HD := Kept.mk (data_count hk)
  simp only [inCount, okRow, Bool.and_eq_true, decide_eq_true_eq] at hI
  obtain ⟨⟨l1, a1⟩, ⟨l2, a2⟩⟩ := hI
  have hlen := length_nums A.plus
  clear hk
  have hg := h.lt
  have HW := Kept.mk ((Wr.refl h).alloc (.cells #[.int .i64 A.kind, .int .i64 A.time, .int .i64 A.node, .bool A.dead, .string ⟨A.text.toArray⟩, vp, vm, .int .u64 (A.flags.toNat : Int)] 25))
  have HV := Kept.mk (Blk.new w 25 [.int .i64 A.kind, .int .i64 A.time, .int .i64 A.node, .bool A.dead, .string ⟨A.text.toArray⟩, vp, vm, .int .u64 (A.flags.toNat : Int)] w.heap.size rfl)
  have HP := Kept.mk (stable_cells _ _ _ _ hp (lit_below w (.cells #[.int .i64 A.kind, .int .i64 A.time, .int .i64 A.node, .bool A.dead, .string ⟨A.text.toArray⟩, vp, vm, .int .u64 (A.flags.toNat : Int)] 25)))
  have HM := Kept.mk (stable_cells _ _ _ _ hm (lit_below w (.cells #[.int .i64 A.kind, .int .i64 A.time, .int .i64 A.node, .bool A.dead, .string ⟨A.text.toArray⟩, vp, vm, .int .u64 (A.flags.toNat : Int)] 25)))
  have NP := Kept.mk np
  have NM := Kept.mk nm
  clear hp hm np nm
  have kv5 := HV.out.cells.2 5 _ rfl
  go_enter Tryz.func43, Tryz.ntmps43
  go_wp2_with fail
  clear kv5
  generalize w.alloc (.cells #[.int .i64 A.kind, .int .i64 A.time, .int .i64 A.node, .bool A.dead, .string ⟨A.text.toArray⟩, vp, vm, .int .u64 (A.flags.toNat : Int)] 25) = W0 at *
  refine (wrow_any A.plus g t vp W0 HP.out NP.out HW.out.at_ (by omega) (by omega) a1).mono ?_
  rintro e W1 ⟨rfl, hw⟩
  replace HM := Kept.mk (HM.out.wr hw NM.out)
  replace HV := Kept.mk (HV.out.wr hw (by omega))
  replace HW := Kept.mk (HW.out.trans hw)
  clear hw HP
  have kv6 := HV.out.cells.2 6 _ rfl
  go_wp2_with fail
  clear kv6
  refine (wrow_any A.minus g (t ++ numsL A.plus) vm W1 HM.out NM.out HW.out.at_ (by rw [List.length_append]; omega) (by omega) a2).mono ?_
  rintro e W2 ⟨rfl, hw⟩
  replace HW := Kept.mk (HW.out.trans hw)
  clear hw HM HV
  go_wp2
  go_end0
  refine ⟨rfl, ?_⟩
  rw [HD.out, ← List.append_assoc]
  exact HW.out
theorem and_low (F : Nat) (h : F < 18446744073709551616) (t : TypeId) (w : World) : (binOp .and t (.int .u64 (F : Int)) (.int .u64 4294967295)).run Tryz.prog w = .ok (.int .u64 ((F % 4294967296 : Nat) : Int)) w := by
  have e : bits .and .u64 (F : Int) ((4294967295 : Nat) : Int) = ((F &&& 4294967295 : Nat) : Int) := u64_and_nat _ _ h (by omega)
  have e2 : F &&& 4294967295 = F % 4294967296 := Nat.and_two_pow_sub_one_eq_mod F 32
  rw [e2] at e
  simp [go_sem]
  exact e
theorem shr_half (F : Nat) (h : F < 18446744073709551616) (w : World) : (binOp .shr 23 (.int .u64 (F : Int)) (.int .u64 32)).run Tryz.prog w = .ok (.int .u64 ((F / 4294967296 : Nat) : Int)) w := by
  simp [go_sem]
theorem conv_int (F : Nat) (h : F < 4294967296) (w : World) : (convert 23 3 (.int .u64 (F : Int))).run Tryz.prog w = .ok (.int .i64 (F : Int)) w := by
  simp [convert, run_underlying Tryz.underlying23, run_underlying Tryz.underlying3, go_sem]
  exact IntWalk.i64_in _ (by omega)
noncomputable def wf1Ops : Array Oper := regionOf Tryz.f44 1
set_option maxRecDepth 100000 in
set_option maxHeartbeats 2000000 in
theorem wf1_region (Q : Exit → Act → World → Prop) (a0 : Act) (w0 : World) (hsz : a0.tmps.size = 20) (A : Va) (g b : Nat) (vp vm : Value) (e0 : a0.tmps.getD 0 undef = .pointer (some ⟨g, 0, none⟩)) (e3 : a0.tmps.getD 3 undef = .pointer (some ⟨b, 0, none⟩)) (hc : CellsN w0 b [.int .i64 A.kind, .int .i64 A.time, .int .i64 A.node, .bool A.dead, .string ⟨A.text.toArray⟩, vp, vm, .int .u64 (A.flags.toNat : Int)])
    (hC : ∀ (y : Nat → Value) (w : World), Below w0.heap.size w0 w → Calls Tryz.prog 21 #[.pointer (some ⟨g, 0, none⟩), .int .i64 ((A.flags.toNat % 4294967296 : Nat) : Int), .int .i64 4] w fun e w' => ∃ v, e = .returned v ∧ Q .normal { tmps := ([4, 5, 6, 7, 8, 9, 10, 11].foldl (fun t s => t.setIfInBounds s (y s)) a0.tmps).setIfInBounds 11 v, defers := a0.defers } w') :
    (Code.region 1 wf1Ops true).wp Tryz.prog Q a0 w0 := by
  refine wp_region_cov 7 mixed (by rw [hsz]; kernel_rfl) (by kernel_rfl) ?_
  rw [show wf1Ops.size - 7 = 1 by kernel_rfl]
  refine ⟨isVal (.pointer (some ⟨g, 0, none⟩)), step_move (.tmp 0) (by kernel_rfl) (wanted_none (by kernel_rfl)) (stable_val _) (knows_old 0 (.pointer (some ⟨g, 0, none⟩)) (by kernel_rfl) e0), ?_⟩
  refine ⟨isVal (.pointer (some ⟨g, 0, none⟩)), step_nilP (.tmp 4) ⟨g, 0, none⟩ (by kernel_rfl) (wanted_none (by kernel_rfl)) (knows_new (V := isVal (.pointer (some ⟨g, 0, none⟩))) 4 0 (by kernel_rfl) (by kernel_rfl) (by kernel_rfl)), ?_⟩
  refine ⟨isVal (.pointer (some ⟨g, 0, none⟩)), step_field 44 (.tmp 5) 0 ⟨g, 0, none⟩ ⟨g, 0, none⟩ (by kernel_rfl) (wanted_none (by kernel_rfl)) (knows_new (V := isVal (.pointer (some ⟨g, 0, none⟩))) 5 1 (by kernel_rfl) (by kernel_rfl) (by kernel_rfl)) (field_wr g 0 (by omega)), ?_⟩
  refine ⟨isVal (.pointer (some ⟨b, 7, none⟩)), step_field 25 (.tmp 3) 7 ⟨b, 0, none⟩ ⟨b, 7, none⟩ (by kernel_rfl) (wanted_none (by kernel_rfl)) (knows_old 3 (.pointer (some ⟨b, 0, none⟩)) (by kernel_rfl) e3) (field_va b 7 (by omega)), ?_⟩
  refine ⟨isVal (.int .u64 (A.flags.toNat : Int)), step_read 23 (.tmp 7) ⟨b, 7, none⟩ (.int .u64 (A.flags.toNat : Int)) (by kernel_rfl) (wanted_none (by kernel_rfl)) (knows_new (V := isVal (.pointer (some ⟨b, 7, none⟩))) 7 3 (by kernel_rfl) (by kernel_rfl) (by kernel_rfl)) (hc.2 7 _ rfl) hc.1 agg_u64, ?_⟩
  refine ⟨isVal (.int .u64 ((A.flags.toNat % 4294967296 : Nat) : Int)), step_bin .and 23 23 (.tmp 8) (.const (.int .u64 4294967295)) (.int .u64 (A.flags.toNat : Int)) (.int .u64 4294967295) (.int .u64 ((A.flags.toNat % 4294967296 : Nat) : Int)) (by kernel_rfl) (wanted_none (by kernel_rfl)) (knows_new (V := isVal (.int .u64 (A.flags.toNat : Int))) 8 4 (by kernel_rfl) (by kernel_rfl) (by kernel_rfl)) (knows_const _) (fun _ => rfl) (and_low _ A.flags.toNat_lt _), ?_⟩
  refine ⟨isVal (.int .i64 ((A.flags.toNat % 4294967296 : Nat) : Int)), step_conv 23 3 (.tmp 9) (.int .u64 ((A.flags.toNat % 4294967296 : Nat) : Int)) (.int .i64 ((A.flags.toNat % 4294967296 : Nat) : Int)) (by kernel_rfl) (wanted_none (by kernel_rfl)) (knows_new (V := isVal (.int .u64 ((A.flags.toNat % 4294967296 : Nat) : Int))) 9 5 (by kernel_rfl) (by kernel_rfl) (by kernel_rfl)) (conv_int _ (Nat.mod_lt _ (by omega))), ?_⟩
  intro a w hkp hb hd
  have d6 : a.eval (.tmp 6) = _ := fdone_of (hd 2 (by decide)) (t := 6) (V := isVal (.pointer (some ⟨g, 0, none⟩))) (by kernel_rfl) (by kernel_rfl)
  have d10 : a.eval (.tmp 10) = _ := fdone_of (hd 6 (by decide)) (t := 10) (V := isVal (.int .i64 ((A.flags.toNat % 4294967296 : Nat) : Int))) (by kernel_rfl) (by kernel_rfl)
  refine tail_call 21 #[.tmp 6, .tmp 10, .const (.int .i64 4)] #[42, 3, 3] #[.pointer (some ⟨g, 0, none⟩), .int .i64 ((A.flags.toNat % 4294967296 : Nat) : Int), .int .i64 4] 11 (by kernel_rfl) (by kernel_rfl) (by simp only [List.map_toArray, List.map_cons, List.map_nil, d6, d10]; try rfl) (enters_of Tryz.func21 (by kernel_rfl) rfl) ?_
  obtain ⟨y, ey⟩ := kept_ex hkp [some 4, some 5, some 6, some 7, some 8, some 9, some 10, some 11] [4, 5, 6, 7, 8, 9, 10, 11] (by kernel_rfl) (by decide)
  refine (hC y w hb).mono ?_
  rintro e w' ⟨v, rfl, hq⟩
  exact ⟨v, rfl, put_kept ey hq⟩
noncomputable def wf2Ops : Array Oper := regionOf Tryz.f44 2
set_option maxRecDepth 100000 in
set_option maxHeartbeats 2000000 in
theorem wf2_region (Q : Exit → Act → World → Prop) (a0 : Act) (w0 : World) (hsz : a0.tmps.size = 20) (A : Va) (g b : Nat) (vp vm : Value) (e0 : a0.tmps.getD 0 undef = .pointer (some ⟨g, 0, none⟩)) (e3 : a0.tmps.getD 3 undef = .pointer (some ⟨b, 0, none⟩)) (hc : CellsN w0 b [.int .i64 A.kind, .int .i64 A.time, .int .i64 A.node, .bool A.dead, .string ⟨A.text.toArray⟩, vp, vm, .int .u64 (A.flags.toNat : Int)])
    (hC : ∀ (y : Nat → Value) (w : World), Below w0.heap.size w0 w → Calls Tryz.prog 21 #[.pointer (some ⟨g, 0, none⟩), .int .i64 ((A.flags.toNat / 4294967296 : Nat) : Int), .int .i64 4] w fun e w' => ∃ v, e = .returned v ∧ Q .normal { tmps := ([12, 13, 14, 15, 16, 17, 18, 19].foldl (fun t s => t.setIfInBounds s (y s)) a0.tmps).setIfInBounds 19 v, defers := a0.defers } w') :
    (Code.region 2 wf2Ops true).wp Tryz.prog Q a0 w0 := by
  refine wp_region_cov 7 mixed (by rw [hsz]; kernel_rfl) (by kernel_rfl) ?_
  rw [show wf2Ops.size - 7 = 1 by kernel_rfl]
  refine ⟨isVal (.pointer (some ⟨g, 0, none⟩)), step_move (.tmp 0) (by kernel_rfl) (wanted_none (by kernel_rfl)) (stable_val _) (knows_old 0 (.pointer (some ⟨g, 0, none⟩)) (by kernel_rfl) e0), ?_⟩
  refine ⟨isVal (.pointer (some ⟨g, 0, none⟩)), step_nilP (.tmp 12) ⟨g, 0, none⟩ (by kernel_rfl) (wanted_none (by kernel_rfl)) (knows_new (V := isVal (.pointer (some ⟨g, 0, none⟩))) 12 0 (by kernel_rfl) (by kernel_rfl) (by kernel_rfl)), ?_⟩
  refine ⟨isVal (.pointer (some ⟨g, 0, none⟩)), step_field 44 (.tmp 13) 0 ⟨g, 0, none⟩ ⟨g, 0, none⟩ (by kernel_rfl) (wanted_none (by kernel_rfl)) (knows_new (V := isVal (.pointer (some ⟨g, 0, none⟩))) 13 1 (by kernel_rfl) (by kernel_rfl) (by kernel_rfl)) (field_wr g 0 (by omega)), ?_⟩
  refine ⟨isVal (.pointer (some ⟨b, 7, none⟩)), step_field 25 (.tmp 3) 7 ⟨b, 0, none⟩ ⟨b, 7, none⟩ (by kernel_rfl) (wanted_none (by kernel_rfl)) (knows_old 3 (.pointer (some ⟨b, 0, none⟩)) (by kernel_rfl) e3) (field_va b 7 (by omega)), ?_⟩
  refine ⟨isVal (.int .u64 (A.flags.toNat : Int)), step_read 23 (.tmp 15) ⟨b, 7, none⟩ (.int .u64 (A.flags.toNat : Int)) (by kernel_rfl) (wanted_none (by kernel_rfl)) (knows_new (V := isVal (.pointer (some ⟨b, 7, none⟩))) 15 3 (by kernel_rfl) (by kernel_rfl) (by kernel_rfl)) (hc.2 7 _ rfl) hc.1 agg_u64, ?_⟩
  refine ⟨isVal (.int .u64 ((A.flags.toNat / 4294967296 : Nat) : Int)), step_bin .shr 23 83 (.tmp 16) (.const (.int .u64 32)) (.int .u64 (A.flags.toNat : Int)) (.int .u64 32) (.int .u64 ((A.flags.toNat / 4294967296 : Nat) : Int)) (by kernel_rfl) (wanted_none (by kernel_rfl)) (knows_new (V := isVal (.int .u64 (A.flags.toNat : Int))) 16 4 (by kernel_rfl) (by kernel_rfl) (by kernel_rfl)) (knows_const _) (fun _ => rfl) (shr_half _ A.flags.toNat_lt), ?_⟩
  refine ⟨isVal (.int .i64 ((A.flags.toNat / 4294967296 : Nat) : Int)), step_conv 23 3 (.tmp 17) (.int .u64 ((A.flags.toNat / 4294967296 : Nat) : Int)) (.int .i64 ((A.flags.toNat / 4294967296 : Nat) : Int)) (by kernel_rfl) (wanted_none (by kernel_rfl)) (knows_new (V := isVal (.int .u64 ((A.flags.toNat / 4294967296 : Nat) : Int))) 17 5 (by kernel_rfl) (by kernel_rfl) (by kernel_rfl)) (conv_int _ (by have := A.flags.toNat_lt; omega)), ?_⟩
  intro a w hkp hb hd
  have d14 : a.eval (.tmp 14) = _ := fdone_of (hd 2 (by decide)) (t := 14) (V := isVal (.pointer (some ⟨g, 0, none⟩))) (by kernel_rfl) (by kernel_rfl)
  have d18 : a.eval (.tmp 18) = _ := fdone_of (hd 6 (by decide)) (t := 18) (V := isVal (.int .i64 ((A.flags.toNat / 4294967296 : Nat) : Int))) (by kernel_rfl) (by kernel_rfl)
  refine tail_call 21 #[.tmp 14, .tmp 18, .const (.int .i64 4)] #[42, 3, 3] #[.pointer (some ⟨g, 0, none⟩), .int .i64 ((A.flags.toNat / 4294967296 : Nat) : Int), .int .i64 4] 19 (by kernel_rfl) (by kernel_rfl) (by simp only [List.map_toArray, List.map_cons, List.map_nil, d14, d18]; try rfl) (enters_of Tryz.func21 (by kernel_rfl) rfl) ?_
  obtain ⟨y, ey⟩ := kept_ex hkp [some 12, some 13, some 14, some 15, some 16, some 17, some 18, some 19] [12, 13, 14, 15, 16, 17, 18, 19] (by kernel_rfl) (by decide)
  refine (hC y w hb).mono ?_
  rintro e w' ⟨v, rfl, hq⟩
  exact ⟨v, rfl, put_kept ey hq⟩
set_option maxRecDepth 100000 in
set_option maxHeartbeats 4000000 in
theorem wflags_any (A : Va) (g : Nat) (t : List UInt8) (v : Value) (w : World) (hv : isVa A v w) (h : At w g (txt t)) (ht : t.length ≤ 500) (hk : A.kind = 3) :
    Calls Tryz.prog 44 #[ptr g, v] w fun e w' => e = .returned unitV ∧ Wr g (txt (t ++ dataL A)) w w' := by
  have HD := Kept.mk (data_flags hk)
  have hF := A.flags.toNat_lt
  have l1 := length_putL 4 ((A.flags.toNat % 4294967296 : Nat) : Int).toNat
  clear hk
  obtain ⟨vp, vm, rfl, hp, hm⟩ := hv
  have hg := h.lt
  have HW := Kept.mk ((Wr.refl h).alloc (.cells #[.int .i64 A.kind, .int .i64 A.time, .int .i64 A.node, .bool A.dead, .string ⟨A.text.toArray⟩, vp, vm, .int .u64 (A.flags.toNat : Int)] 25))
  have HV := Kept.mk (Blk.new w 25 [.int .i64 A.kind, .int .i64 A.time, .int .i64 A.node, .bool A.dead, .string ⟨A.text.toArray⟩, vp, vm, .int .u64 (A.flags.toNat : Int)] w.heap.size rfl)
  go_enter Tryz.func44, Tryz.ntmps44
  go_wp2_with fail
  generalize w.alloc (.cells #[.int .i64 A.kind, .int .i64 A.time, .int .i64 A.node, .bool A.dead, .string ⟨A.text.toArray⟩, vp, vm, .int .u64 (A.flags.toNat : Int)] 25) = W0 at *
  refine wf1_region _ _ _ rfl A g w.heap.size vp vm rfl rfl HV.out.cells ?_
  intro y9 W9 hb9
  replace HW := Kept.mk (HW.out.then_ hb9)
  replace HV := Kept.mk (HV.out.keep hb9)
  clear hb9
  refine (number_z g (t) ((A.flags.toNat % 4294967296 : Nat) : Int) 4 W9 HW.out.at_ (by first | omega | (simp only [List.length_append]; omega)) (by omega) (by omega) (by omega) (by omega) (by show _ < 4294967296; omega)).mono ?_
  rintro e W1 ⟨rfl, hw⟩
  replace HW := Kept.mk (HW.out.trans hw)
  replace HV := Kept.mk (HV.out.wr hw (by omega))
  clear hw
  refine ⟨_, rfl, ?_⟩
  simp only [List.foldl_cons, List.foldl_nil]
  generalize y9 4 = z4
  generalize y9 5 = z5
  generalize y9 6 = z6
  generalize y9 7 = z7
  generalize y9 8 = z8
  generalize y9 9 = z9
  generalize y9 10 = z10
  generalize y9 11 = z11
  simp only [List.setIfInBounds_toArray, List.set_cons_succ, List.set_cons_zero]
  clear y9
  go_wp2_with fail
  refine wf2_region _ _ _ rfl A g w.heap.size vp vm rfl rfl HV.out.cells ?_
  intro y9 W9 hb9
  replace HW := Kept.mk (HW.out.then_ hb9)
  replace HV := Kept.mk (HV.out.keep hb9)
  clear hb9
  refine (number_z g (t ++ putL ((A.flags.toNat % 4294967296 : Nat) : Int).toNat 4) ((A.flags.toNat / 4294967296 : Nat) : Int) 4 W9 HW.out.at_ (by first | omega | (simp only [List.length_append]; omega)) (by omega) (by omega) (by omega) (by omega) (by show _ < 4294967296; omega)).mono ?_
  rintro e W2 ⟨rfl, hw⟩
  replace HW := Kept.mk (HW.out.trans hw)
  replace HV := Kept.mk (HV.out.wr hw (by omega))
  clear hw
  refine ⟨_, rfl, ?_⟩
  simp only [List.foldl_cons, List.foldl_nil]
  generalize y9 12 = z12
  generalize y9 13 = z13
  generalize y9 14 = z14
  generalize y9 15 = z15
  generalize y9 16 = z16
  generalize y9 17 = z17
  generalize y9 18 = z18
  generalize y9 19 = z19
  simp only [List.setIfInBounds_toArray, List.set_cons_succ, List.set_cons_zero]
  clear y9
  go_wp2
  go_end0
  refine ⟨rfl, ?_⟩
  have := HW.out
  rw [HD.out]
  simpa only [List.append_assoc, Int.toNat_natCast] using this
end Go.Proofs.YtebjljiklacolaaGreat
end
section
namespace Go.Proofs.YtebjljiklacolaaGreat
open Go.RowKit
set_option linter.unusedVariables false
set_option linter.unusedSimpArgs false
attribute [local irreducible] setN

theorem checkV_chk (E : En) (h1 : 1 ≤ E.key.length) (h8 : E.key.length ≤ 8) : chkE E = checkV E.val := by
  unfold chkE checkV okE
  simp only [h1, h8, decide_true, Bool.true_and]
theorem chk_bad (E : En) (h : ¬ (1 ≤ E.key.length ∧ E.key.length ≤ 8)) : chkE E = 2 := by
  unfold chkE
  rw [if_neg]
  simp only [okE, Bool.and_eq_true, decide_eq_true_eq]
  rintro ⟨⟨h1, h2⟩, _⟩
  exact h ⟨h1, h2⟩
set_option maxRecDepth 100000 in
set_option maxHeartbeats 2000000 in
theorem echeck_any (E : En) (v : Value) (w : World) (hv : isEn E v w) (hF : FitE E) : Calls Tryz.prog 14 #[v] w fun e w' => e = .returned (.int .i64 (chkE E)) ∧ Below w.heap.size w w' := by
  have hk := hF.key
  have hs : (⟨E.key.toArray⟩ : ByteArray).size = E.key.length := by simp [ByteArray.size]
  obtain ⟨pe, me, rfl, hpe, hme⟩ := hv
  obtain ⟨hB, Ve⟩ := ebox w E pe me hpe hme (w.heap.size) (by simp)
  clear hpe hme
  obtain ⟨qe, re, xe, ye, ke0, ke1, ke2, ke3, ke4, ke5, ke6, ke7, ke8⟩ := Ve.out.open_
  have Xe := Kept.mk xe
  have Ye := Kept.mk ye
  clear xe ye
  by_cases h1 : (E.key.length : Int) < 1
  · have HC := Kept.mk (chk_bad E (by omega))
    go_enter Tryz.func14, Tryz.ntmps14
    go_wp2
    go_ret
    exact ⟨by rw [HC.out]; rfl, hB.out⟩
  · have d1 : decide ((E.key.length : Int) < 1) = false := by simpa using h1
    by_cases h8 : (8 : Int) < E.key.length
    · have HC := Kept.mk (chk_bad E (by omega))
      have d8 : decide ((8 : Int) < E.key.length) = true := by simpa using h8
      go_enter Tryz.func14, Tryz.ntmps14
      go_wp2
      go_ret
      exact ⟨by rw [HC.out]; rfl, hB.out⟩
    · have HC := Kept.mk (checkV_chk E (by omega) (by omega))
      have d8 : decide ((8 : Int) < E.key.length) = false := by simpa using h8
      go_enter Tryz.func14, Tryz.ntmps14
      go_wp2_with fail
      refine (vcheck_any E.val _ _ Ye.out hF.val).mono ?_
      rintro e W1 ⟨rfl, hb1⟩
      replace hB := Kept.mk (hB.out.trans (hb1.mono hB.out.size))
      clear hb1 Xe Ye ke0 ke1 ke2 ke3 ke4 ke5 ke6 ke7 ke8 Ve
      generalize hcv : checkV E.val = cv
      have HV := Kept.mk hcv
      clear hcv
      go_wp2
      go_ret
      exact ⟨by rw [HC.out, HV.out]; rfl, hB.out⟩
set_option maxRecDepth 100000 in
set_option maxHeartbeats 2000000 in
theorem eless_any (A B : En) (v u : Value) (w : World) (hv : isEn A v w) (hu : isEn B u w) : Calls Tryz.prog 15 #[v, u] w fun e w' => e = .returned (.bool (lessE A B)) ∧ Below w.heap.size w w' := by
  obtain ⟨pa, ma, rfl, hpa, hma⟩ := hv
  obtain ⟨pb, mb, rfl, hpb, hmb⟩ := hu
  obtain ⟨hB, Va⟩ := ebox w A pa ma hpa hma (w.heap.size) (by simp)
  obtain ⟨hBn, Vb⟩ := ebox (w.alloc (.cells #[.string ⟨A.key.toArray⟩, .int .i64 A.val.kind, .int .i64 A.val.time, .int .i64 A.val.node, .bool A.val.dead, .string ⟨A.val.text.toArray⟩, pa, ma, .int .u64 (A.val.flags.toNat : Int)] 27)) B pb mb (stable_cells _ _ _ _ hpb hB.out) (stable_cells _ _ _ _ hmb hB.out) (w.heap.size + 1) (by simp)
  replace Va := Kept.mk (Va.out.keep hBn.out)
  replace hB := Kept.mk (hB.out.trans (hBn.out.mono hB.out.size))
  clear hBn
  clear hpa hma hpb hmb
  obtain ⟨qa, ra, xa, ya, ka0, ka1, ka2, ka3, ka4, ka5, ka6, ka7, ka8⟩ := Va.out.open_
  have Xa := Kept.mk xa
  have Ya := Kept.mk ya
  clear xa ya
  obtain ⟨qb, rb, xb, yb, kb0, kb1, kb2, kb3, kb4, kb5, kb6, kb7, kb8⟩ := Vb.out.open_
  have Xb := Kept.mk xb
  have Yb := Kept.mk yb
  clear xb yb
  cases hk : (A.val.kind == B.val.kind) with
  | true =>
    have HC := Kept.mk (show lessE A B = Op.bytesLess A.key B.key by unfold lessE; rw [if_pos (by simpa using hk)])
    go_enter Tryz.func15, Tryz.ntmps15
    go_wp2
    go_ret
    exact ⟨by rw [HC.out]; rfl, hB.out⟩
  | false =>
    have HC := Kept.mk (show lessE A B = decide (A.val.kind < B.val.kind) by unfold lessE; rw [if_neg (by simpa using hk)])
    go_enter Tryz.func15, Tryz.ntmps15
    go_wp2
    go_ret
    exact ⟨by rw [HC.out]; rfl, hB.out⟩
theorem same_en (A B : En) : decide (A = B) = ((A.key == B.key) && decide (A.val = B.val)) := by
  obtain ⟨a, x⟩ := A
  obtain ⟨b, y⟩ := B
  rw [Bool.eq_iff_iff]
  simp only [decide_eq_true_eq, Bool.and_eq_true, beq_iff_eq, En.mk.injEq]
set_option maxRecDepth 100000 in
set_option maxHeartbeats 2000000 in
theorem esame_any (A B : En) (v u : Value) (w : World) (hv : isEn A v w) (hu : isEn B u w) (hA : Fit A.val) (hF : Fit B.val) : Calls Tryz.prog 16 #[v, u] w fun e w' => e = .returned (.bool (decide (A = B))) ∧ Below w.heap.size w w' := by
  have HS := Kept.mk (same_en A B)
  obtain ⟨pa, ma, rfl, hpa, hma⟩ := hv
  obtain ⟨pb, mb, rfl, hpb, hmb⟩ := hu
  obtain ⟨hB, Va⟩ := ebox w A pa ma hpa hma (w.heap.size) (by simp)
  obtain ⟨hBn, Vb⟩ := ebox (w.alloc (.cells #[.string ⟨A.key.toArray⟩, .int .i64 A.val.kind, .int .i64 A.val.time, .int .i64 A.val.node, .bool A.val.dead, .string ⟨A.val.text.toArray⟩, pa, ma, .int .u64 (A.val.flags.toNat : Int)] 27)) B pb mb (stable_cells _ _ _ _ hpb hB.out) (stable_cells _ _ _ _ hmb hB.out) (w.heap.size + 1) (by simp)
  replace Va := Kept.mk (Va.out.keep hBn.out)
  replace hB := Kept.mk (hB.out.trans (hBn.out.mono hB.out.size))
  clear hBn
  clear hpa hma hpb hmb
  obtain ⟨qa, ra, xa, ya, ka0, ka1, ka2, ka3, ka4, ka5, ka6, ka7, ka8⟩ := Va.out.open_
  have Xa := Kept.mk xa
  have Ya := Kept.mk ya
  clear xa ya
  obtain ⟨qb, rb, xb, yb, kb0, kb1, kb2, kb3, kb4, kb5, kb6, kb7, kb8⟩ := Vb.out.open_
  have Xb := Kept.mk xb
  have Yb := Kept.mk yb
  clear xb yb
  cases hk : (A.key == B.key) with
  | false =>
    go_enter Tryz.func16, Tryz.ntmps16
    go_wp2
    go_ret
    exact ⟨by rw [HS.out, hk]; rfl, hB.out⟩
  | true =>
    have HK := Kept.mk hk
    go_enter Tryz.func16, Tryz.ntmps16
    go_wp2_with fail
    refine (vsame_fit A.val B.val _ _ _ Ya.out Yb.out hA hF).mono ?_
    rintro e W1 ⟨rfl, hb1⟩
    replace hB := Kept.mk (hB.out.trans (hb1.mono hB.out.size))
    clear hb1 Xa Xb Ya Yb Va Vb ka0 ka1 ka2 ka3 ka4 ka5 ka6 ka7 ka8 kb0 kb1 kb2 kb3 kb4 kb5 kb6 kb7 kb8
    generalize hz : decide (A.val = B.val) = z
    have HV := Kept.mk hz
    clear hz
    go_wp2
    go_ret
    exact ⟨by rw [HS.out, HK.out, HV.out]; rfl, hB.out⟩
end Go.Proofs.YtebjljiklacolaaGreat
end
