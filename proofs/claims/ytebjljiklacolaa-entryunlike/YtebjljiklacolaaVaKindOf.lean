/- Contracts of value.kindOf, kindOfValue. -/
import Derived.Test.YtebjljiklacolaaVaOnly
import Derived.Test.YtebjljiklacolaaFlowMem
namespace Go.Proofs.Ytebjljiklacolaa
open Go.RowKit
set_option linter.unusedVariables false
set_option linter.unusedSimpArgs false
attribute [local irreducible] setN

/-- A kind, as the program has it. -/
def ifaceK : Nat → Value
  | 1 => .iface 85 (.agg #[])
  | 2 => .iface 86 (.agg #[])
  | 3 => .iface 87 (.agg #[])
  | _ => .nilIface
def kOf (n : Int) : Nat := if n = 1 then 1 else if n = 2 then 2 else if n = 3 then 3 else 0
theorem kindOf_any (n : Int) (w : World) : Calls Try.prog 37 #[.int .i64 n] w fun e w' => e = .returned (.tuple #[ifaceK (kOf n), .bool (decide (kOf n ≠ 0))]) ∧ w = w' := by
  by_cases h1 : n = 1
  · subst h1
    go_enter Try.func37, Try.ntmps37
    go_wp2
    go_ret2
    exact ⟨rfl, rfl⟩
  · have d1 : (n == 1) = false := by simpa using h1
    by_cases h2 : n = 2
    · subst h2
      go_enter Try.func37, Try.ntmps37
      go_wp2
      go_ret2
      exact ⟨rfl, rfl⟩
    · have d2 : (n == 2) = false := by simpa using h2
      by_cases h3 : n = 3
      · subst h3
        go_enter Try.func37, Try.ntmps37
        go_wp2
        go_ret2
        exact ⟨rfl, rfl⟩
      · have d3 : (n == 3) = false := by simpa using h3
        have HK := Kept.mk (show kOf n = 0 by unfold kOf; rw [if_neg h1, if_neg h2, if_neg h3])
        clear h1 h2 h3
        go_enter Try.func37, Try.ntmps37
        go_wp2
        go_ret2
        exact ⟨by rw [HK.out]; rfl, rfl⟩
/-- What is looked at is small enough. -/
structure Fit (A : Va) : Prop where
  text : A.text.length ≤ 1000000000
  plus : A.plus.length ≤ 1000000
  minus : A.minus.length ≤ 1000000
theorem call_regIn (A : Va) (b : Bool) (v : Value) (w : World) (hv : isVa A v w) (hf : Fit A) (hb : inReg A = b) : Calls Try.prog 79 #[.agg #[], v] w fun e w' => ∃ x, e = .returned x ∧ isVal (.bool b) x w' ∧ Below w.heap.size w w' :=
  (regIn_any A v w hv hf.text).mono (by rintro e w' ⟨rfl, h⟩; exact ⟨_, rfl, by rw [hb]; rfl, h⟩)
theorem call_countIn (A : Va) (b : Bool) (v : Value) (w : World) (hv : isVa A v w) (hf : Fit A) (hb : inCount A = b) : Calls Try.prog 91 #[.agg #[], v] w fun e w' => ∃ x, e = .returned x ∧ isVal (.bool b) x w' ∧ Below w.heap.size w w' :=
  (countIn_any A v w hv (by have := hf.plus; omega) (by have := hf.minus; omega)).mono (by rintro e w' ⟨rfl, h⟩; exact ⟨_, rfl, by rw [hb]; rfl, h⟩)
theorem call_flagsIn (A : Va) (b : Bool) (v : Value) (w : World) (hv : isVa A v w) (hf : Fit A) (hb : true = b) : Calls Try.prog 104 #[.agg #[], v] w fun e w' => ∃ x, e = .returned x ∧ isVal (.bool b) x w' ∧ Below w.heap.size w w' :=
  (flagsInrange_any A v w hv).mono (by rintro e w' ⟨rfl, h⟩; exact ⟨_, rfl, by rw [hb]; rfl, h⟩)
theorem call_regOnly (A : Va) (v : Value) (w : World) (hv : isVa A v w) (hf : Fit A) : Calls Try.prog 82 #[.agg #[], v] w fun e w' => ∃ x, e = .returned x ∧ isVa (onlyReg A) x w' ∧ Below w.heap.size w w' :=
  (regOnly_any A v w hv).mono (by rintro e w' ⟨x, rfl, h, hb⟩; exact ⟨_, rfl, h.va, hb⟩)
theorem call_countOnly (A : Va) (v : Value) (w : World) (hv : isVa A v w) (hf : Fit A) : Calls Try.prog 94 #[.agg #[], v] w fun e w' => ∃ x, e = .returned x ∧ isVa (onlyCount A) x w' ∧ Below w.heap.size w w' :=
  (countOnly_any A v w hv (by have := hf.plus; omega) (by have := hf.minus; omega)).mono (by rintro e w' ⟨x, rfl, h, hb⟩; exact ⟨_, rfl, h.va, hb⟩)
theorem call_flagsOnly (A : Va) (v : Value) (w : World) (hv : isVa A v w) (hf : Fit A) : Calls Try.prog 107 #[.agg #[], v] w fun e w' => ∃ x, e = .returned x ∧ isVa (onlyFlags A) x w' ∧ Below w.heap.size w w' :=
  (flagsOnly_any A v w hv).mono (by rintro e w' ⟨x, rfl, h, hb⟩; exact ⟨_, rfl, h.va, hb⟩)
theorem call_same (A B : Va) (v u : Value) (w : World) (hv : isVa A v w) (hu : isVa B u w) (h1 : Fit A) (h2 : B.plus.length ≤ 1000000) (h3 : B.minus.length ≤ 1000000) :
    Calls Try.prog 16 #[v, u] w fun e w' => ∃ x, e = .returned x ∧ isVal (.bool (decide (A = B))) x w' ∧ Below w.heap.size w w' :=
  (vsame_any A B v u w hv hu (by have := h1.plus; omega) (by have := h1.minus; omega) (by omega) (by omega)).mono (by rintro e w' ⟨rfl, h⟩; exact ⟨_, rfl, rfl, h⟩)
theorem same_self (B : Va) (h : Fit B) : (onlyReg B).plus.length ≤ 1000000 ∧ (onlyReg B).minus.length ≤ 1000000 ∧ (onlyCount B).plus.length ≤ 1000000 ∧ (onlyCount B).minus.length ≤ 1000000 ∧ (onlyFlags B).plus.length ≤ 1000000 ∧ (onlyFlags B).minus.length ≤ 1000000 :=
  ⟨Nat.zero_le _, Nat.zero_le _, h.plus, h.minus, Nat.zero_le _, Nat.zero_le _⟩
noncomputable def kv_noneOps : Array Oper := regionOf Try.f25 2
set_option maxRecDepth 100000 in
set_option maxHeartbeats 2000000 in
theorem kv_none_region (Q : Exit → Act → World → Prop) (a0 : Act) (w0 : World) (hsz : a0.tmps.size = 29) (A : Va) (g : Nat) (vp vm : Value) (e1 : a0.tmps.getD 1 undef = .pointer (some ⟨g, 0, none⟩)) (e4 : a0.tmps.getD 4 undef = .nilIface) (e5 : a0.tmps.getD 5 undef = .bool false) (hc : CellsN w0 g [.int .i64 A.kind, .int .i64 A.time, .int .i64 A.node, .bool A.dead, .string ⟨A.text.toArray⟩, vp, vm, .int .u64 (A.flags.toNat : Int)]) (hX : isVa A (.agg #[.int .i64 A.kind, .int .i64 A.time, .int .i64 A.node, .bool A.dead, .string ⟨A.text.toArray⟩, vp, vm, .int .u64 (A.flags.toNat : Int)]) w0) (hF : Fit A)
    (hQ : ∀ (g : Nat → Value) (w : World), g 27 = .bool true → Below w0.heap.size w0 w → Q .normal { tmps := [12, 13, 14, 15, 16, 17, 18, 19, 20, 21, 22, 23, 24, 25, 26, 27].foldl (fun t s => t.setIfInBounds s (g s)) a0.tmps, defers := a0.defers } w) :
    (Code.region 2 kv_noneOps true).wp Try.prog Q a0 w0 := by
  refine wp_region_flow mixed (by rw [hsz]; kernel_rfl) ?_
  rw [show kv_noneOps.size = 16 by kernel_rfl]
  refine ⟨isVal (.bool false), step_move (.tmp 5) (by kernel_rfl) (wanted_none (by kernel_rfl)) (stable_val _) (knows_old 5 (.bool false) (by kernel_rfl) e5), ?_⟩
  refine ⟨isVal (.bool true), step_un .not 4 (.tmp 12) (.bool false) (.bool true) (by kernel_rfl) (wanted_none (by kernel_rfl)) (knows_new (V := isVal (.bool false)) 12 0 (by kernel_rfl) (by kernel_rfl) (by kernel_rfl)) (fun _ => rfl), ?_⟩
  refine ⟨isVal (.bool true), step_move (.tmp 13) (by kernel_rfl) (wanted_none (by kernel_rfl)) (stable_val _) (knows_new (V := isVal (.bool true)) 13 1 (by kernel_rfl) (by kernel_rfl) (by kernel_rfl)), ?_⟩
  refine ⟨_, step_skip 2 14 false true (by kernel_rfl) (by kernel_rfl) (by kernel_rfl) (by kernel_rfl) rfl, ?_⟩
  refine ⟨_, step_skip 2 14 false true (by kernel_rfl) (by kernel_rfl) (by kernel_rfl) (by kernel_rfl) rfl, ?_⟩
  refine ⟨_, step_skip 2 14 false true (by kernel_rfl) (by kernel_rfl) (by kernel_rfl) (by kernel_rfl) rfl, ?_⟩
  refine ⟨_, step_skip 2 14 false true (by kernel_rfl) (by kernel_rfl) (by kernel_rfl) (by kernel_rfl) rfl, ?_⟩
  refine ⟨isVal (.bool true), step_pick (.tmp 14) (.const (.bool true)) (.tmp 18) true (by kernel_rfl) (wanted_none (by kernel_rfl)) (stable_val _) (knows_new (V := isVal (.bool true)) 14 2 (by kernel_rfl) (by kernel_rfl) (by kernel_rfl)) (knows_const _), ?_⟩
  refine ⟨isVal (.bool true), step_move (.tmp 19) (by kernel_rfl) (wanted_none (by kernel_rfl)) (stable_val _) (knows_new (V := isVal (.bool true)) 19 7 (by kernel_rfl) (by kernel_rfl) (by kernel_rfl)), ?_⟩
  refine ⟨_, step_skip 8 20 false true (by kernel_rfl) (by kernel_rfl) (by kernel_rfl) (by kernel_rfl) rfl, ?_⟩
  refine ⟨_, step_skip 8 20 false true (by kernel_rfl) (by kernel_rfl) (by kernel_rfl) (by kernel_rfl) rfl, ?_⟩
  refine ⟨_, step_skip 8 20 false true (by kernel_rfl) (by kernel_rfl) (by kernel_rfl) (by kernel_rfl) rfl, ?_⟩
  refine ⟨_, step_skip 8 20 false true (by kernel_rfl) (by kernel_rfl) (by kernel_rfl) (by kernel_rfl) rfl, ?_⟩
  refine ⟨_, step_skip 8 20 false true (by kernel_rfl) (by kernel_rfl) (by kernel_rfl) (by kernel_rfl) rfl, ?_⟩
  refine ⟨_, step_skip 8 20 false true (by kernel_rfl) (by kernel_rfl) (by kernel_rfl) (by kernel_rfl) rfl, ?_⟩
  refine ⟨isVal (.bool true), step_pick (.tmp 20) (.const (.bool true)) (.tmp 26) true (by kernel_rfl) (wanted_none (by kernel_rfl)) (stable_val _) (knows_new (V := isVal (.bool true)) 20 8 (by kernel_rfl) (by kernel_rfl) (by kernel_rfl)) (knows_const _), ?_⟩
  intro a w hkp hb hd
  rw [kept_of hkp [some 12, some 13, some 14, some 15, some 16, some 17, some 18, some 19, some 20, some 21, some 22, some 23, some 24, some 25, some 26, some 27] [12, 13, 14, 15, 16, 17, 18, 19, 20, 21, 22, 23, 24, 25, 26, 27] (by kernel_rfl) (by decide)]
  have d27 := fdone_of (hd 15 (by rw [show kv_noneOps.size = 16 by kernel_rfl]; decide)) (t := 27) (V := isVal (.bool true)) (by kernel_rfl) (by kernel_rfl)
  exact hQ (fun s => a.tmps.getD s undef) w d27 hb
set_option maxRecDepth 20000 in
set_option maxHeartbeats 1000000 in
theorem kv_none_any (A : Va) (v : Value) (w : World) (hv : isVa A v w) (hF : Fit A) (hk : kOf A.kind = 0) :
    Calls Try.prog 25 #[v] w fun e w' => e = .returned (.tuple #[ifaceK 0, .bool false]) ∧ Below w.heap.size w w' := by
  obtain ⟨vp, vm, rfl, hp, hm⟩ := hv
  obtain ⟨hB, hV⟩ := vbox w A vp vm hp hm w.heap.size rfl
  have hX := Kept.mk (show isVa A (.agg #[.int .i64 A.kind, .int .i64 A.time, .int .i64 A.node, .bool A.dead, .string ⟨A.text.toArray⟩, vp, vm, .int .u64 (A.flags.toNat : Int)]) (w.alloc (.cells #[.int .i64 A.kind, .int .i64 A.time, .int .i64 A.node, .bool A.dead, .string ⟨A.text.toArray⟩, vp, vm, .int .u64 (A.flags.toNat : Int)] 25)) from ⟨vp, vm, rfl, stable_cells _ _ _ _ hp hB.out, stable_cells _ _ _ _ hm hB.out⟩)
  have HC := Kept.mk (cellsN_at w 25 [.int .i64 A.kind, .int .i64 A.time, .int .i64 A.node, .bool A.dead, .string ⟨A.text.toArray⟩, vp, vm, .int .u64 (A.flags.toNat : Int)] w.heap.size rfl)
  have HK := Kept.mk (show kOf A.kind = 0 by exact hk)
  have HK2 := Kept.mk hk
  clear hp hm hV hk
  go_enter Try.func25, Try.ntmps25
  go_wp2_with fail
  refine (kindOf_any A.kind _).mono ?_; rintro e w' ⟨rfl, rfl⟩
  rewrite [HK.out]
  go_wp2_with fail
  refine kv_none_region _ _ _ rfl A w.heap.size vp vm rfl rfl rfl HC.out hX.out hF ?_
  intro f9 W9 d27 hb9
  simp only [List.foldl_cons, List.foldl_nil, d27]
  generalize f9 12 = y12
  generalize f9 13 = y13
  generalize f9 14 = y14
  generalize f9 15 = y15
  generalize f9 16 = y16
  generalize f9 17 = y17
  generalize f9 18 = y18
  generalize f9 19 = y19
  generalize f9 20 = y20
  generalize f9 21 = y21
  generalize f9 22 = y22
  generalize f9 23 = y23
  generalize f9 24 = y24
  generalize f9 25 = y25
  generalize f9 26 = y26
  clear d27
  simp only [List.setIfInBounds_toArray, List.set_cons_succ, List.set_cons_zero]
  replace hB := Kept.mk (hB.out.trans (hb9.mono hB.out.size))
  clear hb9 hX HC
  go_wp2
  go_ret2
  exact ⟨rfl, hB.out⟩
noncomputable def kv_reg0Ops : Array Oper := regionOf Try.f25 2
set_option maxRecDepth 100000 in
set_option maxHeartbeats 2000000 in
theorem kv_reg0_region (Q : Exit → Act → World → Prop) (a0 : Act) (w0 : World) (hsz : a0.tmps.size = 29) (A : Va) (g : Nat) (vp vm : Value) (e1 : a0.tmps.getD 1 undef = .pointer (some ⟨g, 0, none⟩)) (e4 : a0.tmps.getD 4 undef = (.iface 85 (.agg #[]))) (e5 : a0.tmps.getD 5 undef = .bool true) (hc : CellsN w0 g [.int .i64 A.kind, .int .i64 A.time, .int .i64 A.node, .bool A.dead, .string ⟨A.text.toArray⟩, vp, vm, .int .u64 (A.flags.toNat : Int)]) (hX : isVa A (.agg #[.int .i64 A.kind, .int .i64 A.time, .int .i64 A.node, .bool A.dead, .string ⟨A.text.toArray⟩, vp, vm, .int .u64 (A.flags.toNat : Int)]) w0) (hF : Fit A) (hI : inReg A = false)
    (hQ : ∀ (g : Nat → Value) (w : World), g 27 = .bool true → Below w0.heap.size w0 w → Q .normal { tmps := [12, 13, 14, 15, 16, 17, 18, 19, 20, 21, 22, 23, 24, 25, 26, 27].foldl (fun t s => t.setIfInBounds s (g s)) a0.tmps, defers := a0.defers } w) :
    (Code.region 2 kv_reg0Ops true).wp Try.prog Q a0 w0 := by
  refine wp_region_flow mixed (by rw [hsz]; kernel_rfl) ?_
  rw [show kv_reg0Ops.size = 16 by kernel_rfl]
  refine ⟨isVal (.bool true), step_move (.tmp 5) (by kernel_rfl) (wanted_none (by kernel_rfl)) (stable_val _) (knows_old 5 (.bool true) (by kernel_rfl) e5), ?_⟩
  refine ⟨isVal (.bool false), step_un .not 4 (.tmp 12) (.bool true) (.bool false) (by kernel_rfl) (wanted_none (by kernel_rfl)) (knows_new (V := isVal (.bool true)) 12 0 (by kernel_rfl) (by kernel_rfl) (by kernel_rfl)) (fun _ => rfl), ?_⟩
  refine ⟨isVal (.bool false), step_move (.tmp 13) (by kernel_rfl) (wanted_none (by kernel_rfl)) (stable_val _) (knows_new (V := isVal (.bool false)) 13 1 (by kernel_rfl) (by kernel_rfl) (by kernel_rfl)), ?_⟩
  refine ⟨isVal (.iface 85 (.agg #[])), step_move (.tmp 4) (by kernel_rfl) (wanted_some 2 14 false (by kernel_rfl) (by kernel_rfl) (by kernel_rfl) (by kernel_rfl)) (stable_val _) (knows_old 4 (.iface 85 (.agg #[])) (by kernel_rfl) e4), ?_⟩
  refine ⟨isVal (.agg #[.int .i64 A.kind, .int .i64 A.time, .int .i64 A.node, .bool A.dead, .string ⟨A.text.toArray⟩, vp, vm, .int .u64 (A.flags.toNat : Int)]), step_loadN 25 (.tmp 1) (g) [.int .i64 A.kind, .int .i64 A.time, .int .i64 A.node, .bool A.dead, .string ⟨A.text.toArray⟩, vp, vm, .int .u64 (A.flags.toNat : Int)] (by kernel_rfl) (wanted_some 2 14 false (by kernel_rfl) (by kernel_rfl) (by kernel_rfl) (by kernel_rfl)) (knows_old 1 (.pointer (some ⟨g, 0, none⟩)) (by kernel_rfl) e1) size_va agg_va hc, ?_⟩
  refine ⟨isVal (.bool false), step_invoke "ouroboros/value.inRange" (.tmp 15) (.iface 85 (.agg #[])) 79 #[.tmp 16] #[25] #[.agg #[.int .i64 A.kind, .int .i64 A.time, .int .i64 A.node, .bool A.dead, .string ⟨A.text.toArray⟩, vp, vm, .int .u64 (A.flags.toNat : Int)]] #[.agg #[], .agg #[.int .i64 A.kind, .int .i64 A.time, .int .i64 A.node, .bool A.dead, .string ⟨A.text.toArray⟩, vp, vm, .int .u64 (A.flags.toNat : Int)]] (by kernel_rfl) (wanted_some 2 14 false (by kernel_rfl) (by kernel_rfl) (by kernel_rfl) (by kernel_rfl)) (stable_val _) (args1 (.tmp 16) (.agg #[.int .i64 A.kind, .int .i64 A.time, .int .i64 A.node, .bool A.dead, .string ⟨A.text.toArray⟩, vp, vm, .int .u64 (A.flags.toNat : Int)]) (knows_new (V := isVal (.agg #[.int .i64 A.kind, .int .i64 A.time, .int .i64 A.node, .bool A.dead, .string ⟨A.text.toArray⟩, vp, vm, .int .u64 (A.flags.toNat : Int)])) 16 4 (by kernel_rfl) (by kernel_rfl) (by kernel_rfl))) (knows_new (V := isVal (.iface 85 (.agg #[]))) 15 3 (by kernel_rfl) (by kernel_rfl) (by kernel_rfl)) (fun w => by kernel_rfl) (by intro w hb; exact call_regIn A false _ w (va_grow hX hb) hF hI), ?_⟩
  refine ⟨isVal (.bool true), step_un .not 4 (.tmp 17) (.bool false) (.bool true) (by kernel_rfl) (wanted_some 2 14 false (by kernel_rfl) (by kernel_rfl) (by kernel_rfl) (by kernel_rfl)) (knows_new (V := isVal (.bool false)) 17 5 (by kernel_rfl) (by kernel_rfl) (by kernel_rfl)) (fun _ => rfl), ?_⟩
  refine ⟨isVal (.bool true), step_pick (.tmp 14) (.const (.bool true)) (.tmp 18) false (by kernel_rfl) (wanted_none (by kernel_rfl)) (stable_val _) (knows_new (V := isVal (.bool false)) 14 2 (by kernel_rfl) (by kernel_rfl) (by kernel_rfl)) (knows_new (V := isVal (.bool true)) 18 6 (by kernel_rfl) (by kernel_rfl) (by kernel_rfl)), ?_⟩
  refine ⟨isVal (.bool true), step_move (.tmp 19) (by kernel_rfl) (wanted_none (by kernel_rfl)) (stable_val _) (knows_new (V := isVal (.bool true)) 19 7 (by kernel_rfl) (by kernel_rfl) (by kernel_rfl)), ?_⟩
  refine ⟨_, step_skip 8 20 false true (by kernel_rfl) (by kernel_rfl) (by kernel_rfl) (by kernel_rfl) rfl, ?_⟩
  refine ⟨_, step_skip 8 20 false true (by kernel_rfl) (by kernel_rfl) (by kernel_rfl) (by kernel_rfl) rfl, ?_⟩
  refine ⟨_, step_skip 8 20 false true (by kernel_rfl) (by kernel_rfl) (by kernel_rfl) (by kernel_rfl) rfl, ?_⟩
  refine ⟨_, step_skip 8 20 false true (by kernel_rfl) (by kernel_rfl) (by kernel_rfl) (by kernel_rfl) rfl, ?_⟩
  refine ⟨_, step_skip 8 20 false true (by kernel_rfl) (by kernel_rfl) (by kernel_rfl) (by kernel_rfl) rfl, ?_⟩
  refine ⟨_, step_skip 8 20 false true (by kernel_rfl) (by kernel_rfl) (by kernel_rfl) (by kernel_rfl) rfl, ?_⟩
  refine ⟨isVal (.bool true), step_pick (.tmp 20) (.const (.bool true)) (.tmp 26) true (by kernel_rfl) (wanted_none (by kernel_rfl)) (stable_val _) (knows_new (V := isVal (.bool true)) 20 8 (by kernel_rfl) (by kernel_rfl) (by kernel_rfl)) (knows_const _), ?_⟩
  intro a w hkp hb hd
  rw [kept_of hkp [some 12, some 13, some 14, some 15, some 16, some 17, some 18, some 19, some 20, some 21, some 22, some 23, some 24, some 25, some 26, some 27] [12, 13, 14, 15, 16, 17, 18, 19, 20, 21, 22, 23, 24, 25, 26, 27] (by kernel_rfl) (by decide)]
  have d27 := fdone_of (hd 15 (by rw [show kv_reg0Ops.size = 16 by kernel_rfl]; decide)) (t := 27) (V := isVal (.bool true)) (by kernel_rfl) (by kernel_rfl)
  exact hQ (fun s => a.tmps.getD s undef) w d27 hb
set_option maxRecDepth 20000 in
set_option maxHeartbeats 1000000 in
theorem kv_reg0_any (A : Va) (v : Value) (w : World) (hv : isVa A v w) (hF : Fit A) (hk : A.kind = 1) (hI : inReg A = false) :
    Calls Try.prog 25 #[v] w fun e w' => e = .returned (.tuple #[ifaceK 0, .bool false]) ∧ Below w.heap.size w w' := by
  obtain ⟨vp, vm, rfl, hp, hm⟩ := hv
  obtain ⟨hB, hV⟩ := vbox w A vp vm hp hm w.heap.size rfl
  have hX := Kept.mk (show isVa A (.agg #[.int .i64 A.kind, .int .i64 A.time, .int .i64 A.node, .bool A.dead, .string ⟨A.text.toArray⟩, vp, vm, .int .u64 (A.flags.toNat : Int)]) (w.alloc (.cells #[.int .i64 A.kind, .int .i64 A.time, .int .i64 A.node, .bool A.dead, .string ⟨A.text.toArray⟩, vp, vm, .int .u64 (A.flags.toNat : Int)] 25)) from ⟨vp, vm, rfl, stable_cells _ _ _ _ hp hB.out, stable_cells _ _ _ _ hm hB.out⟩)
  have HC := Kept.mk (cellsN_at w 25 [.int .i64 A.kind, .int .i64 A.time, .int .i64 A.node, .bool A.dead, .string ⟨A.text.toArray⟩, vp, vm, .int .u64 (A.flags.toNat : Int)] w.heap.size rfl)
  have HK := Kept.mk (show kOf A.kind = 1 by rw [hk]; rfl)
  have HK2 := Kept.mk hk
  clear hp hm hV hk
  have HI := Kept.mk hI
  clear hI
  go_enter Try.func25, Try.ntmps25
  go_wp2_with fail
  refine (kindOf_any A.kind _).mono ?_; rintro e w' ⟨rfl, rfl⟩
  rewrite [HK.out]
  go_wp2_with fail
  refine kv_reg0_region _ _ _ rfl A w.heap.size vp vm rfl rfl rfl HC.out hX.out hF HI.out ?_
  intro f9 W9 d27 hb9
  simp only [List.foldl_cons, List.foldl_nil, d27]
  generalize f9 12 = y12
  generalize f9 13 = y13
  generalize f9 14 = y14
  generalize f9 15 = y15
  generalize f9 16 = y16
  generalize f9 17 = y17
  generalize f9 18 = y18
  generalize f9 19 = y19
  generalize f9 20 = y20
  generalize f9 21 = y21
  generalize f9 22 = y22
  generalize f9 23 = y23
  generalize f9 24 = y24
  generalize f9 25 = y25
  generalize f9 26 = y26
  clear d27
  simp only [List.setIfInBounds_toArray, List.set_cons_succ, List.set_cons_zero]
  replace hB := Kept.mk (hB.out.trans (hb9.mono hB.out.size))
  clear hb9 hX HC
  go_wp2
  go_ret2
  exact ⟨rfl, hB.out⟩
noncomputable def kv_reg1Ops : Array Oper := regionOf Try.f25 2
set_option maxRecDepth 100000 in
set_option maxHeartbeats 2000000 in
theorem kv_reg1_region (Q : Exit → Act → World → Prop) (a0 : Act) (w0 : World) (hsz : a0.tmps.size = 29) (A : Va) (g : Nat) (vp vm : Value) (e1 : a0.tmps.getD 1 undef = .pointer (some ⟨g, 0, none⟩)) (e4 : a0.tmps.getD 4 undef = (.iface 85 (.agg #[]))) (e5 : a0.tmps.getD 5 undef = .bool true) (hc : CellsN w0 g [.int .i64 A.kind, .int .i64 A.time, .int .i64 A.node, .bool A.dead, .string ⟨A.text.toArray⟩, vp, vm, .int .u64 (A.flags.toNat : Int)]) (hX : isVa A (.agg #[.int .i64 A.kind, .int .i64 A.time, .int .i64 A.node, .bool A.dead, .string ⟨A.text.toArray⟩, vp, vm, .int .u64 (A.flags.toNat : Int)]) w0) (hF : Fit A) (hI : inReg A = true)
    (hQ : ∀ (g : Nat → Value) (w : World), g 27 = .bool (!decide (A = onlyReg A)) → Below w0.heap.size w0 w → Q .normal { tmps := [12, 13, 14, 15, 16, 17, 18, 19, 20, 21, 22, 23, 24, 25, 26, 27].foldl (fun t s => t.setIfInBounds s (g s)) a0.tmps, defers := a0.defers } w) :
    (Code.region 2 kv_reg1Ops true).wp Try.prog Q a0 w0 := by
  refine wp_region_flow mixed (by rw [hsz]; kernel_rfl) ?_
  rw [show kv_reg1Ops.size = 16 by kernel_rfl]
  refine ⟨isVal (.bool true), step_move (.tmp 5) (by kernel_rfl) (wanted_none (by kernel_rfl)) (stable_val _) (knows_old 5 (.bool true) (by kernel_rfl) e5), ?_⟩
  refine ⟨isVal (.bool false), step_un .not 4 (.tmp 12) (.bool true) (.bool false) (by kernel_rfl) (wanted_none (by kernel_rfl)) (knows_new (V := isVal (.bool true)) 12 0 (by kernel_rfl) (by kernel_rfl) (by kernel_rfl)) (fun _ => rfl), ?_⟩
  refine ⟨isVal (.bool false), step_move (.tmp 13) (by kernel_rfl) (wanted_none (by kernel_rfl)) (stable_val _) (knows_new (V := isVal (.bool false)) 13 1 (by kernel_rfl) (by kernel_rfl) (by kernel_rfl)), ?_⟩
  refine ⟨isVal (.iface 85 (.agg #[])), step_move (.tmp 4) (by kernel_rfl) (wanted_some 2 14 false (by kernel_rfl) (by kernel_rfl) (by kernel_rfl) (by kernel_rfl)) (stable_val _) (knows_old 4 (.iface 85 (.agg #[])) (by kernel_rfl) e4), ?_⟩
  refine ⟨isVal (.agg #[.int .i64 A.kind, .int .i64 A.time, .int .i64 A.node, .bool A.dead, .string ⟨A.text.toArray⟩, vp, vm, .int .u64 (A.flags.toNat : Int)]), step_loadN 25 (.tmp 1) (g) [.int .i64 A.kind, .int .i64 A.time, .int .i64 A.node, .bool A.dead, .string ⟨A.text.toArray⟩, vp, vm, .int .u64 (A.flags.toNat : Int)] (by kernel_rfl) (wanted_some 2 14 false (by kernel_rfl) (by kernel_rfl) (by kernel_rfl) (by kernel_rfl)) (knows_old 1 (.pointer (some ⟨g, 0, none⟩)) (by kernel_rfl) e1) size_va agg_va hc, ?_⟩
  refine ⟨isVal (.bool true), step_invoke "ouroboros/value.inRange" (.tmp 15) (.iface 85 (.agg #[])) 79 #[.tmp 16] #[25] #[.agg #[.int .i64 A.kind, .int .i64 A.time, .int .i64 A.node, .bool A.dead, .string ⟨A.text.toArray⟩, vp, vm, .int .u64 (A.flags.toNat : Int)]] #[.agg #[], .agg #[.int .i64 A.kind, .int .i64 A.time, .int .i64 A.node, .bool A.dead, .string ⟨A.text.toArray⟩, vp, vm, .int .u64 (A.flags.toNat : Int)]] (by kernel_rfl) (wanted_some 2 14 false (by kernel_rfl) (by kernel_rfl) (by kernel_rfl) (by kernel_rfl)) (stable_val _) (args1 (.tmp 16) (.agg #[.int .i64 A.kind, .int .i64 A.time, .int .i64 A.node, .bool A.dead, .string ⟨A.text.toArray⟩, vp, vm, .int .u64 (A.flags.toNat : Int)]) (knows_new (V := isVal (.agg #[.int .i64 A.kind, .int .i64 A.time, .int .i64 A.node, .bool A.dead, .string ⟨A.text.toArray⟩, vp, vm, .int .u64 (A.flags.toNat : Int)])) 16 4 (by kernel_rfl) (by kernel_rfl) (by kernel_rfl))) (knows_new (V := isVal (.iface 85 (.agg #[]))) 15 3 (by kernel_rfl) (by kernel_rfl) (by kernel_rfl)) (fun w => by kernel_rfl) (by intro w hb; exact call_regIn A true _ w (va_grow hX hb) hF hI), ?_⟩
  refine ⟨isVal (.bool false), step_un .not 4 (.tmp 17) (.bool true) (.bool false) (by kernel_rfl) (wanted_some 2 14 false (by kernel_rfl) (by kernel_rfl) (by kernel_rfl) (by kernel_rfl)) (knows_new (V := isVal (.bool true)) 17 5 (by kernel_rfl) (by kernel_rfl) (by kernel_rfl)) (fun _ => rfl), ?_⟩
  refine ⟨isVal (.bool false), step_pick (.tmp 14) (.const (.bool true)) (.tmp 18) false (by kernel_rfl) (wanted_none (by kernel_rfl)) (stable_val _) (knows_new (V := isVal (.bool false)) 14 2 (by kernel_rfl) (by kernel_rfl) (by kernel_rfl)) (knows_new (V := isVal (.bool false)) 18 6 (by kernel_rfl) (by kernel_rfl) (by kernel_rfl)), ?_⟩
  refine ⟨isVal (.bool false), step_move (.tmp 19) (by kernel_rfl) (wanted_none (by kernel_rfl)) (stable_val _) (knows_new (V := isVal (.bool false)) 19 7 (by kernel_rfl) (by kernel_rfl) (by kernel_rfl)), ?_⟩
  refine ⟨isVal (.agg #[.int .i64 A.kind, .int .i64 A.time, .int .i64 A.node, .bool A.dead, .string ⟨A.text.toArray⟩, vp, vm, .int .u64 (A.flags.toNat : Int)]), step_loadN 25 (.tmp 1) (g) [.int .i64 A.kind, .int .i64 A.time, .int .i64 A.node, .bool A.dead, .string ⟨A.text.toArray⟩, vp, vm, .int .u64 (A.flags.toNat : Int)] (by kernel_rfl) (wanted_some 8 20 false (by kernel_rfl) (by kernel_rfl) (by kernel_rfl) (by kernel_rfl)) (knows_old 1 (.pointer (some ⟨g, 0, none⟩)) (by kernel_rfl) e1) size_va agg_va hc, ?_⟩
  refine ⟨isVal (.iface 85 (.agg #[])), step_move (.tmp 4) (by kernel_rfl) (wanted_some 8 20 false (by kernel_rfl) (by kernel_rfl) (by kernel_rfl) (by kernel_rfl)) (stable_val _) (knows_old 4 (.iface 85 (.agg #[])) (by kernel_rfl) e4), ?_⟩
  refine ⟨isVal (.agg #[.int .i64 A.kind, .int .i64 A.time, .int .i64 A.node, .bool A.dead, .string ⟨A.text.toArray⟩, vp, vm, .int .u64 (A.flags.toNat : Int)]), step_loadN 25 (.tmp 1) (g) [.int .i64 A.kind, .int .i64 A.time, .int .i64 A.node, .bool A.dead, .string ⟨A.text.toArray⟩, vp, vm, .int .u64 (A.flags.toNat : Int)] (by kernel_rfl) (wanted_some 8 20 false (by kernel_rfl) (by kernel_rfl) (by kernel_rfl) (by kernel_rfl)) (knows_old 1 (.pointer (some ⟨g, 0, none⟩)) (by kernel_rfl) e1) size_va agg_va hc, ?_⟩
  refine ⟨(isVa (onlyReg A)), step_invoke "ouroboros/value.only" (.tmp 22) (.iface 85 (.agg #[])) 82 #[.tmp 23] #[25] #[.agg #[.int .i64 A.kind, .int .i64 A.time, .int .i64 A.node, .bool A.dead, .string ⟨A.text.toArray⟩, vp, vm, .int .u64 (A.flags.toNat : Int)]] #[.agg #[], .agg #[.int .i64 A.kind, .int .i64 A.time, .int .i64 A.node, .bool A.dead, .string ⟨A.text.toArray⟩, vp, vm, .int .u64 (A.flags.toNat : Int)]] (by kernel_rfl) (wanted_some 8 20 false (by kernel_rfl) (by kernel_rfl) (by kernel_rfl) (by kernel_rfl)) (stable_va _) (args1 (.tmp 23) (.agg #[.int .i64 A.kind, .int .i64 A.time, .int .i64 A.node, .bool A.dead, .string ⟨A.text.toArray⟩, vp, vm, .int .u64 (A.flags.toNat : Int)]) (knows_new (V := isVal (.agg #[.int .i64 A.kind, .int .i64 A.time, .int .i64 A.node, .bool A.dead, .string ⟨A.text.toArray⟩, vp, vm, .int .u64 (A.flags.toNat : Int)])) 23 11 (by kernel_rfl) (by kernel_rfl) (by kernel_rfl))) (knows_new (V := isVal (.iface 85 (.agg #[]))) 22 10 (by kernel_rfl) (by kernel_rfl) (by kernel_rfl)) (fun w => by kernel_rfl) (by intro w hb; exact call_regOnly A _ w (va_grow hX hb) hF), ?_⟩
  refine ⟨isVal (.bool (decide (A = onlyReg A))), step_callP 16 #[.tmp 21, .tmp 24] #[25, 25] (by kernel_rfl) (wanted_some 8 20 false (by kernel_rfl) (by kernel_rfl) (by kernel_rfl) (by kernel_rfl)) (stable_val _) (enters_of Try.func16 (by kernel_rfl) rfl) (fun vs w => ∃ u v, vs = #[u, v] ∧ isVal (.agg #[.int .i64 A.kind, .int .i64 A.time, .int .i64 A.node, .bool A.dead, .string ⟨A.text.toArray⟩, vp, vm, .int .u64 (A.flags.toNat : Int)]) u w ∧ isVa (onlyReg A) v w) (pre2 (knows_new (V := isVal (.agg #[.int .i64 A.kind, .int .i64 A.time, .int .i64 A.node, .bool A.dead, .string ⟨A.text.toArray⟩, vp, vm, .int .u64 (A.flags.toNat : Int)])) 21 9 (by kernel_rfl) (by kernel_rfl) (by kernel_rfl)) (knows_new (V := (isVa (onlyReg A))) 24 12 (by kernel_rfl) (by kernel_rfl) (by kernel_rfl))) (by rintro vs w hb ⟨u, v, rfl, rfl, hv⟩; exact call_same A (onlyReg A) _ v w (va_grow hX hb) hv hF (same_self A hF).1 (same_self A hF).2.1), ?_⟩
  refine ⟨isVal (.bool (!decide (A = onlyReg A))), step_un .not 4 (.tmp 25) (.bool (decide (A = onlyReg A))) (.bool (!decide (A = onlyReg A))) (by kernel_rfl) (wanted_some 8 20 false (by kernel_rfl) (by kernel_rfl) (by kernel_rfl) (by kernel_rfl)) (knows_new (V := isVal (.bool (decide (A = onlyReg A)))) 25 13 (by kernel_rfl) (by kernel_rfl) (by kernel_rfl)) (fun _ => rfl), ?_⟩
  refine ⟨isVal (.bool (!decide (A = onlyReg A))), step_pick (.tmp 20) (.const (.bool true)) (.tmp 26) false (by kernel_rfl) (wanted_none (by kernel_rfl)) (stable_val _) (knows_new (V := isVal (.bool false)) 20 8 (by kernel_rfl) (by kernel_rfl) (by kernel_rfl)) (knows_new (V := isVal (.bool (!decide (A = onlyReg A)))) 26 14 (by kernel_rfl) (by kernel_rfl) (by kernel_rfl)), ?_⟩
  intro a w hkp hb hd
  rw [kept_of hkp [some 12, some 13, some 14, some 15, some 16, some 17, some 18, some 19, some 20, some 21, some 22, some 23, some 24, some 25, some 26, some 27] [12, 13, 14, 15, 16, 17, 18, 19, 20, 21, 22, 23, 24, 25, 26, 27] (by kernel_rfl) (by decide)]
  have d27 := fdone_of (hd 15 (by rw [show kv_reg1Ops.size = 16 by kernel_rfl]; decide)) (t := 27) (V := isVal (.bool (!decide (A = onlyReg A)))) (by kernel_rfl) (by kernel_rfl)
  exact hQ (fun s => a.tmps.getD s undef) w d27 hb
set_option maxRecDepth 20000 in
set_option maxHeartbeats 1000000 in
theorem kv_reg1_any (A : Va) (v : Value) (w : World) (hv : isVa A v w) (hF : Fit A) (hk : A.kind = 1) (hI : inReg A = true) (z : Bool) (hz : decide (A = onlyReg A) = z) :
    Calls Try.prog 25 #[v] w fun e w' => e = .returned (.tuple #[ifaceK (if z = true then 1 else 0), .bool z]) ∧ Below w.heap.size w w' := by
  obtain ⟨vp, vm, rfl, hp, hm⟩ := hv
  obtain ⟨hB, hV⟩ := vbox w A vp vm hp hm w.heap.size rfl
  have hX := Kept.mk (show isVa A (.agg #[.int .i64 A.kind, .int .i64 A.time, .int .i64 A.node, .bool A.dead, .string ⟨A.text.toArray⟩, vp, vm, .int .u64 (A.flags.toNat : Int)]) (w.alloc (.cells #[.int .i64 A.kind, .int .i64 A.time, .int .i64 A.node, .bool A.dead, .string ⟨A.text.toArray⟩, vp, vm, .int .u64 (A.flags.toNat : Int)] 25)) from ⟨vp, vm, rfl, stable_cells _ _ _ _ hp hB.out, stable_cells _ _ _ _ hm hB.out⟩)
  have HC := Kept.mk (cellsN_at w 25 [.int .i64 A.kind, .int .i64 A.time, .int .i64 A.node, .bool A.dead, .string ⟨A.text.toArray⟩, vp, vm, .int .u64 (A.flags.toNat : Int)] w.heap.size rfl)
  have HK := Kept.mk (show kOf A.kind = 1 by rw [hk]; rfl)
  have HK2 := Kept.mk hk
  clear hp hm hV hk
  have HZ := Kept.mk hz
  clear hz
  have HI := Kept.mk hI
  clear hI
  go_enter Try.func25, Try.ntmps25
  go_wp2_with fail
  refine (kindOf_any A.kind _).mono ?_; rintro e w' ⟨rfl, rfl⟩
  rewrite [HK.out]
  go_wp2_with fail
  refine kv_reg1_region _ _ _ rfl A w.heap.size vp vm rfl rfl rfl HC.out hX.out hF HI.out ?_
  intro f9 W9 d27 hb9
  simp only [List.foldl_cons, List.foldl_nil, d27]
  generalize f9 12 = y12
  generalize f9 13 = y13
  generalize f9 14 = y14
  generalize f9 15 = y15
  generalize f9 16 = y16
  generalize f9 17 = y17
  generalize f9 18 = y18
  generalize f9 19 = y19
  generalize f9 20 = y20
  generalize f9 21 = y21
  generalize f9 22 = y22
  generalize f9 23 = y23
  generalize f9 24 = y24
  generalize f9 25 = y25
  generalize f9 26 = y26
  clear d27
  simp only [List.setIfInBounds_toArray, List.set_cons_succ, List.set_cons_zero]
  replace hB := Kept.mk (hB.out.trans (hb9.mono hB.out.size))
  clear hb9 hX HC
  rw [HZ.out]
  cases z
  · go_wp2
    go_ret2
    exact ⟨rfl, hB.out⟩
  · go_wp2
    go_ret2
    exact ⟨rfl, hB.out⟩
noncomputable def kv_count0Ops : Array Oper := regionOf Try.f25 2
set_option maxRecDepth 100000 in
set_option maxHeartbeats 2000000 in
theorem kv_count0_region (Q : Exit → Act → World → Prop) (a0 : Act) (w0 : World) (hsz : a0.tmps.size = 29) (A : Va) (g : Nat) (vp vm : Value) (e1 : a0.tmps.getD 1 undef = .pointer (some ⟨g, 0, none⟩)) (e4 : a0.tmps.getD 4 undef = (.iface 86 (.agg #[]))) (e5 : a0.tmps.getD 5 undef = .bool true) (hc : CellsN w0 g [.int .i64 A.kind, .int .i64 A.time, .int .i64 A.node, .bool A.dead, .string ⟨A.text.toArray⟩, vp, vm, .int .u64 (A.flags.toNat : Int)]) (hX : isVa A (.agg #[.int .i64 A.kind, .int .i64 A.time, .int .i64 A.node, .bool A.dead, .string ⟨A.text.toArray⟩, vp, vm, .int .u64 (A.flags.toNat : Int)]) w0) (hF : Fit A) (hI : inCount A = false)
    (hQ : ∀ (g : Nat → Value) (w : World), g 27 = .bool true → Below w0.heap.size w0 w → Q .normal { tmps := [12, 13, 14, 15, 16, 17, 18, 19, 20, 21, 22, 23, 24, 25, 26, 27].foldl (fun t s => t.setIfInBounds s (g s)) a0.tmps, defers := a0.defers } w) :
    (Code.region 2 kv_count0Ops true).wp Try.prog Q a0 w0 := by
  refine wp_region_flow mixed (by rw [hsz]; kernel_rfl) ?_
  rw [show kv_count0Ops.size = 16 by kernel_rfl]
  refine ⟨isVal (.bool true), step_move (.tmp 5) (by kernel_rfl) (wanted_none (by kernel_rfl)) (stable_val _) (knows_old 5 (.bool true) (by kernel_rfl) e5), ?_⟩
  refine ⟨isVal (.bool false), step_un .not 4 (.tmp 12) (.bool true) (.bool false) (by kernel_rfl) (wanted_none (by kernel_rfl)) (knows_new (V := isVal (.bool true)) 12 0 (by kernel_rfl) (by kernel_rfl) (by kernel_rfl)) (fun _ => rfl), ?_⟩
  refine ⟨isVal (.bool false), step_move (.tmp 13) (by kernel_rfl) (wanted_none (by kernel_rfl)) (stable_val _) (knows_new (V := isVal (.bool false)) 13 1 (by kernel_rfl) (by kernel_rfl) (by kernel_rfl)), ?_⟩
  refine ⟨isVal (.iface 86 (.agg #[])), step_move (.tmp 4) (by kernel_rfl) (wanted_some 2 14 false (by kernel_rfl) (by kernel_rfl) (by kernel_rfl) (by kernel_rfl)) (stable_val _) (knows_old 4 (.iface 86 (.agg #[])) (by kernel_rfl) e4), ?_⟩
  refine ⟨isVal (.agg #[.int .i64 A.kind, .int .i64 A.time, .int .i64 A.node, .bool A.dead, .string ⟨A.text.toArray⟩, vp, vm, .int .u64 (A.flags.toNat : Int)]), step_loadN 25 (.tmp 1) (g) [.int .i64 A.kind, .int .i64 A.time, .int .i64 A.node, .bool A.dead, .string ⟨A.text.toArray⟩, vp, vm, .int .u64 (A.flags.toNat : Int)] (by kernel_rfl) (wanted_some 2 14 false (by kernel_rfl) (by kernel_rfl) (by kernel_rfl) (by kernel_rfl)) (knows_old 1 (.pointer (some ⟨g, 0, none⟩)) (by kernel_rfl) e1) size_va agg_va hc, ?_⟩
  refine ⟨isVal (.bool false), step_invoke "ouroboros/value.inRange" (.tmp 15) (.iface 86 (.agg #[])) 91 #[.tmp 16] #[25] #[.agg #[.int .i64 A.kind, .int .i64 A.time, .int .i64 A.node, .bool A.dead, .string ⟨A.text.toArray⟩, vp, vm, .int .u64 (A.flags.toNat : Int)]] #[.agg #[], .agg #[.int .i64 A.kind, .int .i64 A.time, .int .i64 A.node, .bool A.dead, .string ⟨A.text.toArray⟩, vp, vm, .int .u64 (A.flags.toNat : Int)]] (by kernel_rfl) (wanted_some 2 14 false (by kernel_rfl) (by kernel_rfl) (by kernel_rfl) (by kernel_rfl)) (stable_val _) (args1 (.tmp 16) (.agg #[.int .i64 A.kind, .int .i64 A.time, .int .i64 A.node, .bool A.dead, .string ⟨A.text.toArray⟩, vp, vm, .int .u64 (A.flags.toNat : Int)]) (knows_new (V := isVal (.agg #[.int .i64 A.kind, .int .i64 A.time, .int .i64 A.node, .bool A.dead, .string ⟨A.text.toArray⟩, vp, vm, .int .u64 (A.flags.toNat : Int)])) 16 4 (by kernel_rfl) (by kernel_rfl) (by kernel_rfl))) (knows_new (V := isVal (.iface 86 (.agg #[]))) 15 3 (by kernel_rfl) (by kernel_rfl) (by kernel_rfl)) (fun w => by kernel_rfl) (by intro w hb; exact call_countIn A false _ w (va_grow hX hb) hF hI), ?_⟩
  refine ⟨isVal (.bool true), step_un .not 4 (.tmp 17) (.bool false) (.bool true) (by kernel_rfl) (wanted_some 2 14 false (by kernel_rfl) (by kernel_rfl) (by kernel_rfl) (by kernel_rfl)) (knows_new (V := isVal (.bool false)) 17 5 (by kernel_rfl) (by kernel_rfl) (by kernel_rfl)) (fun _ => rfl), ?_⟩
  refine ⟨isVal (.bool true), step_pick (.tmp 14) (.const (.bool true)) (.tmp 18) false (by kernel_rfl) (wanted_none (by kernel_rfl)) (stable_val _) (knows_new (V := isVal (.bool false)) 14 2 (by kernel_rfl) (by kernel_rfl) (by kernel_rfl)) (knows_new (V := isVal (.bool true)) 18 6 (by kernel_rfl) (by kernel_rfl) (by kernel_rfl)), ?_⟩
  refine ⟨isVal (.bool true), step_move (.tmp 19) (by kernel_rfl) (wanted_none (by kernel_rfl)) (stable_val _) (knows_new (V := isVal (.bool true)) 19 7 (by kernel_rfl) (by kernel_rfl) (by kernel_rfl)), ?_⟩
  refine ⟨_, step_skip 8 20 false true (by kernel_rfl) (by kernel_rfl) (by kernel_rfl) (by kernel_rfl) rfl, ?_⟩
  refine ⟨_, step_skip 8 20 false true (by kernel_rfl) (by kernel_rfl) (by kernel_rfl) (by kernel_rfl) rfl, ?_⟩
  refine ⟨_, step_skip 8 20 false true (by kernel_rfl) (by kernel_rfl) (by kernel_rfl) (by kernel_rfl) rfl, ?_⟩
  refine ⟨_, step_skip 8 20 false true (by kernel_rfl) (by kernel_rfl) (by kernel_rfl) (by kernel_rfl) rfl, ?_⟩
  refine ⟨_, step_skip 8 20 false true (by kernel_rfl) (by kernel_rfl) (by kernel_rfl) (by kernel_rfl) rfl, ?_⟩
  refine ⟨_, step_skip 8 20 false true (by kernel_rfl) (by kernel_rfl) (by kernel_rfl) (by kernel_rfl) rfl, ?_⟩
  refine ⟨isVal (.bool true), step_pick (.tmp 20) (.const (.bool true)) (.tmp 26) true (by kernel_rfl) (wanted_none (by kernel_rfl)) (stable_val _) (knows_new (V := isVal (.bool true)) 20 8 (by kernel_rfl) (by kernel_rfl) (by kernel_rfl)) (knows_const _), ?_⟩
  intro a w hkp hb hd
  rw [kept_of hkp [some 12, some 13, some 14, some 15, some 16, some 17, some 18, some 19, some 20, some 21, some 22, some 23, some 24, some 25, some 26, some 27] [12, 13, 14, 15, 16, 17, 18, 19, 20, 21, 22, 23, 24, 25, 26, 27] (by kernel_rfl) (by decide)]
  have d27 := fdone_of (hd 15 (by rw [show kv_count0Ops.size = 16 by kernel_rfl]; decide)) (t := 27) (V := isVal (.bool true)) (by kernel_rfl) (by kernel_rfl)
  exact hQ (fun s => a.tmps.getD s undef) w d27 hb
set_option maxRecDepth 20000 in
set_option maxHeartbeats 1000000 in
theorem kv_count0_any (A : Va) (v : Value) (w : World) (hv : isVa A v w) (hF : Fit A) (hk : A.kind = 2) (hI : inCount A = false) :
    Calls Try.prog 25 #[v] w fun e w' => e = .returned (.tuple #[ifaceK 0, .bool false]) ∧ Below w.heap.size w w' := by
  obtain ⟨vp, vm, rfl, hp, hm⟩ := hv
  obtain ⟨hB, hV⟩ := vbox w A vp vm hp hm w.heap.size rfl
  have hX := Kept.mk (show isVa A (.agg #[.int .i64 A.kind, .int .i64 A.time, .int .i64 A.node, .bool A.dead, .string ⟨A.text.toArray⟩, vp, vm, .int .u64 (A.flags.toNat : Int)]) (w.alloc (.cells #[.int .i64 A.kind, .int .i64 A.time, .int .i64 A.node, .bool A.dead, .string ⟨A.text.toArray⟩, vp, vm, .int .u64 (A.flags.toNat : Int)] 25)) from ⟨vp, vm, rfl, stable_cells _ _ _ _ hp hB.out, stable_cells _ _ _ _ hm hB.out⟩)
  have HC := Kept.mk (cellsN_at w 25 [.int .i64 A.kind, .int .i64 A.time, .int .i64 A.node, .bool A.dead, .string ⟨A.text.toArray⟩, vp, vm, .int .u64 (A.flags.toNat : Int)] w.heap.size rfl)
  have HK := Kept.mk (show kOf A.kind = 2 by rw [hk]; rfl)
  have HK2 := Kept.mk hk
  clear hp hm hV hk
  have HI := Kept.mk hI
  clear hI
  go_enter Try.func25, Try.ntmps25
  go_wp2_with fail
  refine (kindOf_any A.kind _).mono ?_; rintro e w' ⟨rfl, rfl⟩
  rewrite [HK.out]
  go_wp2_with fail
  refine kv_count0_region _ _ _ rfl A w.heap.size vp vm rfl rfl rfl HC.out hX.out hF HI.out ?_
  intro f9 W9 d27 hb9
  simp only [List.foldl_cons, List.foldl_nil, d27]
  generalize f9 12 = y12
  generalize f9 13 = y13
  generalize f9 14 = y14
  generalize f9 15 = y15
  generalize f9 16 = y16
  generalize f9 17 = y17
  generalize f9 18 = y18
  generalize f9 19 = y19
  generalize f9 20 = y20
  generalize f9 21 = y21
  generalize f9 22 = y22
  generalize f9 23 = y23
  generalize f9 24 = y24
  generalize f9 25 = y25
  generalize f9 26 = y26
  clear d27
  simp only [List.setIfInBounds_toArray, List.set_cons_succ, List.set_cons_zero]
  replace hB := Kept.mk (hB.out.trans (hb9.mono hB.out.size))
  clear hb9 hX HC
  go_wp2
  go_ret2
  exact ⟨rfl, hB.out⟩
noncomputable def kv_count1Ops : Array Oper := regionOf Try.f25 2
set_option maxRecDepth 100000 in
set_option maxHeartbeats 2000000 in
theorem kv_count1_region (Q : Exit → Act → World → Prop) (a0 : Act) (w0 : World) (hsz : a0.tmps.size = 29) (A : Va) (g : Nat) (vp vm : Value) (e1 : a0.tmps.getD 1 undef = .pointer (some ⟨g, 0, none⟩)) (e4 : a0.tmps.getD 4 undef = (.iface 86 (.agg #[]))) (e5 : a0.tmps.getD 5 undef = .bool true) (hc : CellsN w0 g [.int .i64 A.kind, .int .i64 A.time, .int .i64 A.node, .bool A.dead, .string ⟨A.text.toArray⟩, vp, vm, .int .u64 (A.flags.toNat : Int)]) (hX : isVa A (.agg #[.int .i64 A.kind, .int .i64 A.time, .int .i64 A.node, .bool A.dead, .string ⟨A.text.toArray⟩, vp, vm, .int .u64 (A.flags.toNat : Int)]) w0) (hF : Fit A) (hI : inCount A = true)
    (hQ : ∀ (g : Nat → Value) (w : World), g 27 = .bool (!decide (A = onlyCount A)) → Below w0.heap.size w0 w → Q .normal { tmps := [12, 13, 14, 15, 16, 17, 18, 19, 20, 21, 22, 23, 24, 25, 26, 27].foldl (fun t s => t.setIfInBounds s (g s)) a0.tmps, defers := a0.defers } w) :
    (Code.region 2 kv_count1Ops true).wp Try.prog Q a0 w0 := by
  refine wp_region_flow mixed (by rw [hsz]; kernel_rfl) ?_
  rw [show kv_count1Ops.size = 16 by kernel_rfl]
  refine ⟨isVal (.bool true), step_move (.tmp 5) (by kernel_rfl) (wanted_none (by kernel_rfl)) (stable_val _) (knows_old 5 (.bool true) (by kernel_rfl) e5), ?_⟩
  refine ⟨isVal (.bool false), step_un .not 4 (.tmp 12) (.bool true) (.bool false) (by kernel_rfl) (wanted_none (by kernel_rfl)) (knows_new (V := isVal (.bool true)) 12 0 (by kernel_rfl) (by kernel_rfl) (by kernel_rfl)) (fun _ => rfl), ?_⟩
  refine ⟨isVal (.bool false), step_move (.tmp 13) (by kernel_rfl) (wanted_none (by kernel_rfl)) (stable_val _) (knows_new (V := isVal (.bool false)) 13 1 (by kernel_rfl) (by kernel_rfl) (by kernel_rfl)), ?_⟩
  refine ⟨isVal (.iface 86 (.agg #[])), step_move (.tmp 4) (by kernel_rfl) (wanted_some 2 14 false (by kernel_rfl) (by kernel_rfl) (by kernel_rfl) (by kernel_rfl)) (stable_val _) (knows_old 4 (.iface 86 (.agg #[])) (by kernel_rfl) e4), ?_⟩
  refine ⟨isVal (.agg #[.int .i64 A.kind, .int .i64 A.time, .int .i64 A.node, .bool A.dead, .string ⟨A.text.toArray⟩, vp, vm, .int .u64 (A.flags.toNat : Int)]), step_loadN 25 (.tmp 1) (g) [.int .i64 A.kind, .int .i64 A.time, .int .i64 A.node, .bool A.dead, .string ⟨A.text.toArray⟩, vp, vm, .int .u64 (A.flags.toNat : Int)] (by kernel_rfl) (wanted_some 2 14 false (by kernel_rfl) (by kernel_rfl) (by kernel_rfl) (by kernel_rfl)) (knows_old 1 (.pointer (some ⟨g, 0, none⟩)) (by kernel_rfl) e1) size_va agg_va hc, ?_⟩
  refine ⟨isVal (.bool true), step_invoke "ouroboros/value.inRange" (.tmp 15) (.iface 86 (.agg #[])) 91 #[.tmp 16] #[25] #[.agg #[.int .i64 A.kind, .int .i64 A.time, .int .i64 A.node, .bool A.dead, .string ⟨A.text.toArray⟩, vp, vm, .int .u64 (A.flags.toNat : Int)]] #[.agg #[], .agg #[.int .i64 A.kind, .int .i64 A.time, .int .i64 A.node, .bool A.dead, .string ⟨A.text.toArray⟩, vp, vm, .int .u64 (A.flags.toNat : Int)]] (by kernel_rfl) (wanted_some 2 14 false (by kernel_rfl) (by kernel_rfl) (by kernel_rfl) (by kernel_rfl)) (stable_val _) (args1 (.tmp 16) (.agg #[.int .i64 A.kind, .int .i64 A.time, .int .i64 A.node, .bool A.dead, .string ⟨A.text.toArray⟩, vp, vm, .int .u64 (A.flags.toNat : Int)]) (knows_new (V := isVal (.agg #[.int .i64 A.kind, .int .i64 A.time, .int .i64 A.node, .bool A.dead, .string ⟨A.text.toArray⟩, vp, vm, .int .u64 (A.flags.toNat : Int)])) 16 4 (by kernel_rfl) (by kernel_rfl) (by kernel_rfl))) (knows_new (V := isVal (.iface 86 (.agg #[]))) 15 3 (by kernel_rfl) (by kernel_rfl) (by kernel_rfl)) (fun w => by kernel_rfl) (by intro w hb; exact call_countIn A true _ w (va_grow hX hb) hF hI), ?_⟩
  refine ⟨isVal (.bool false), step_un .not 4 (.tmp 17) (.bool true) (.bool false) (by kernel_rfl) (wanted_some 2 14 false (by kernel_rfl) (by kernel_rfl) (by kernel_rfl) (by kernel_rfl)) (knows_new (V := isVal (.bool true)) 17 5 (by kernel_rfl) (by kernel_rfl) (by kernel_rfl)) (fun _ => rfl), ?_⟩
  refine ⟨isVal (.bool false), step_pick (.tmp 14) (.const (.bool true)) (.tmp 18) false (by kernel_rfl) (wanted_none (by kernel_rfl)) (stable_val _) (knows_new (V := isVal (.bool false)) 14 2 (by kernel_rfl) (by kernel_rfl) (by kernel_rfl)) (knows_new (V := isVal (.bool false)) 18 6 (by kernel_rfl) (by kernel_rfl) (by kernel_rfl)), ?_⟩
  refine ⟨isVal (.bool false), step_move (.tmp 19) (by kernel_rfl) (wanted_none (by kernel_rfl)) (stable_val _) (knows_new (V := isVal (.bool false)) 19 7 (by kernel_rfl) (by kernel_rfl) (by kernel_rfl)), ?_⟩
  refine ⟨isVal (.agg #[.int .i64 A.kind, .int .i64 A.time, .int .i64 A.node, .bool A.dead, .string ⟨A.text.toArray⟩, vp, vm, .int .u64 (A.flags.toNat : Int)]), step_loadN 25 (.tmp 1) (g) [.int .i64 A.kind, .int .i64 A.time, .int .i64 A.node, .bool A.dead, .string ⟨A.text.toArray⟩, vp, vm, .int .u64 (A.flags.toNat : Int)] (by kernel_rfl) (wanted_some 8 20 false (by kernel_rfl) (by kernel_rfl) (by kernel_rfl) (by kernel_rfl)) (knows_old 1 (.pointer (some ⟨g, 0, none⟩)) (by kernel_rfl) e1) size_va agg_va hc, ?_⟩
  refine ⟨isVal (.iface 86 (.agg #[])), step_move (.tmp 4) (by kernel_rfl) (wanted_some 8 20 false (by kernel_rfl) (by kernel_rfl) (by kernel_rfl) (by kernel_rfl)) (stable_val _) (knows_old 4 (.iface 86 (.agg #[])) (by kernel_rfl) e4), ?_⟩
  refine ⟨isVal (.agg #[.int .i64 A.kind, .int .i64 A.time, .int .i64 A.node, .bool A.dead, .string ⟨A.text.toArray⟩, vp, vm, .int .u64 (A.flags.toNat : Int)]), step_loadN 25 (.tmp 1) (g) [.int .i64 A.kind, .int .i64 A.time, .int .i64 A.node, .bool A.dead, .string ⟨A.text.toArray⟩, vp, vm, .int .u64 (A.flags.toNat : Int)] (by kernel_rfl) (wanted_some 8 20 false (by kernel_rfl) (by kernel_rfl) (by kernel_rfl) (by kernel_rfl)) (knows_old 1 (.pointer (some ⟨g, 0, none⟩)) (by kernel_rfl) e1) size_va agg_va hc, ?_⟩
  refine ⟨(isVa (onlyCount A)), step_invoke "ouroboros/value.only" (.tmp 22) (.iface 86 (.agg #[])) 94 #[.tmp 23] #[25] #[.agg #[.int .i64 A.kind, .int .i64 A.time, .int .i64 A.node, .bool A.dead, .string ⟨A.text.toArray⟩, vp, vm, .int .u64 (A.flags.toNat : Int)]] #[.agg #[], .agg #[.int .i64 A.kind, .int .i64 A.time, .int .i64 A.node, .bool A.dead, .string ⟨A.text.toArray⟩, vp, vm, .int .u64 (A.flags.toNat : Int)]] (by kernel_rfl) (wanted_some 8 20 false (by kernel_rfl) (by kernel_rfl) (by kernel_rfl) (by kernel_rfl)) (stable_va _) (args1 (.tmp 23) (.agg #[.int .i64 A.kind, .int .i64 A.time, .int .i64 A.node, .bool A.dead, .string ⟨A.text.toArray⟩, vp, vm, .int .u64 (A.flags.toNat : Int)]) (knows_new (V := isVal (.agg #[.int .i64 A.kind, .int .i64 A.time, .int .i64 A.node, .bool A.dead, .string ⟨A.text.toArray⟩, vp, vm, .int .u64 (A.flags.toNat : Int)])) 23 11 (by kernel_rfl) (by kernel_rfl) (by kernel_rfl))) (knows_new (V := isVal (.iface 86 (.agg #[]))) 22 10 (by kernel_rfl) (by kernel_rfl) (by kernel_rfl)) (fun w => by kernel_rfl) (by intro w hb; exact call_countOnly A _ w (va_grow hX hb) hF), ?_⟩
  refine ⟨isVal (.bool (decide (A = onlyCount A))), step_callP 16 #[.tmp 21, .tmp 24] #[25, 25] (by kernel_rfl) (wanted_some 8 20 false (by kernel_rfl) (by kernel_rfl) (by kernel_rfl) (by kernel_rfl)) (stable_val _) (enters_of Try.func16 (by kernel_rfl) rfl) (fun vs w => ∃ u v, vs = #[u, v] ∧ isVal (.agg #[.int .i64 A.kind, .int .i64 A.time, .int .i64 A.node, .bool A.dead, .string ⟨A.text.toArray⟩, vp, vm, .int .u64 (A.flags.toNat : Int)]) u w ∧ isVa (onlyCount A) v w) (pre2 (knows_new (V := isVal (.agg #[.int .i64 A.kind, .int .i64 A.time, .int .i64 A.node, .bool A.dead, .string ⟨A.text.toArray⟩, vp, vm, .int .u64 (A.flags.toNat : Int)])) 21 9 (by kernel_rfl) (by kernel_rfl) (by kernel_rfl)) (knows_new (V := (isVa (onlyCount A))) 24 12 (by kernel_rfl) (by kernel_rfl) (by kernel_rfl))) (by rintro vs w hb ⟨u, v, rfl, rfl, hv⟩; exact call_same A (onlyCount A) _ v w (va_grow hX hb) hv hF (same_self A hF).2.2.1 (same_self A hF).2.2.2.1), ?_⟩
  refine ⟨isVal (.bool (!decide (A = onlyCount A))), step_un .not 4 (.tmp 25) (.bool (decide (A = onlyCount A))) (.bool (!decide (A = onlyCount A))) (by kernel_rfl) (wanted_some 8 20 false (by kernel_rfl) (by kernel_rfl) (by kernel_rfl) (by kernel_rfl)) (knows_new (V := isVal (.bool (decide (A = onlyCount A)))) 25 13 (by kernel_rfl) (by kernel_rfl) (by kernel_rfl)) (fun _ => rfl), ?_⟩
  refine ⟨isVal (.bool (!decide (A = onlyCount A))), step_pick (.tmp 20) (.const (.bool true)) (.tmp 26) false (by kernel_rfl) (wanted_none (by kernel_rfl)) (stable_val _) (knows_new (V := isVal (.bool false)) 20 8 (by kernel_rfl) (by kernel_rfl) (by kernel_rfl)) (knows_new (V := isVal (.bool (!decide (A = onlyCount A)))) 26 14 (by kernel_rfl) (by kernel_rfl) (by kernel_rfl)), ?_⟩
  intro a w hkp hb hd
  rw [kept_of hkp [some 12, some 13, some 14, some 15, some 16, some 17, some 18, some 19, some 20, some 21, some 22, some 23, some 24, some 25, some 26, some 27] [12, 13, 14, 15, 16, 17, 18, 19, 20, 21, 22, 23, 24, 25, 26, 27] (by kernel_rfl) (by decide)]
  have d27 := fdone_of (hd 15 (by rw [show kv_count1Ops.size = 16 by kernel_rfl]; decide)) (t := 27) (V := isVal (.bool (!decide (A = onlyCount A)))) (by kernel_rfl) (by kernel_rfl)
  exact hQ (fun s => a.tmps.getD s undef) w d27 hb
set_option maxRecDepth 20000 in
set_option maxHeartbeats 1000000 in
theorem kv_count1_any (A : Va) (v : Value) (w : World) (hv : isVa A v w) (hF : Fit A) (hk : A.kind = 2) (hI : inCount A = true) (z : Bool) (hz : decide (A = onlyCount A) = z) :
    Calls Try.prog 25 #[v] w fun e w' => e = .returned (.tuple #[ifaceK (if z = true then 2 else 0), .bool z]) ∧ Below w.heap.size w w' := by
  obtain ⟨vp, vm, rfl, hp, hm⟩ := hv
  obtain ⟨hB, hV⟩ := vbox w A vp vm hp hm w.heap.size rfl
  have hX := Kept.mk (show isVa A (.agg #[.int .i64 A.kind, .int .i64 A.time, .int .i64 A.node, .bool A.dead, .string ⟨A.text.toArray⟩, vp, vm, .int .u64 (A.flags.toNat : Int)]) (w.alloc (.cells #[.int .i64 A.kind, .int .i64 A.time, .int .i64 A.node, .bool A.dead, .string ⟨A.text.toArray⟩, vp, vm, .int .u64 (A.flags.toNat : Int)] 25)) from ⟨vp, vm, rfl, stable_cells _ _ _ _ hp hB.out, stable_cells _ _ _ _ hm hB.out⟩)
  have HC := Kept.mk (cellsN_at w 25 [.int .i64 A.kind, .int .i64 A.time, .int .i64 A.node, .bool A.dead, .string ⟨A.text.toArray⟩, vp, vm, .int .u64 (A.flags.toNat : Int)] w.heap.size rfl)
  have HK := Kept.mk (show kOf A.kind = 2 by rw [hk]; rfl)
  have HK2 := Kept.mk hk
  clear hp hm hV hk
  have HZ := Kept.mk hz
  clear hz
  have HI := Kept.mk hI
  clear hI
  go_enter Try.func25, Try.ntmps25
  go_wp2_with fail
  refine (kindOf_any A.kind _).mono ?_; rintro e w' ⟨rfl, rfl⟩
  rewrite [HK.out]
  go_wp2_with fail
  refine kv_count1_region _ _ _ rfl A w.heap.size vp vm rfl rfl rfl HC.out hX.out hF HI.out ?_
  intro f9 W9 d27 hb9
  simp only [List.foldl_cons, List.foldl_nil, d27]
  generalize f9 12 = y12
  generalize f9 13 = y13
  generalize f9 14 = y14
  generalize f9 15 = y15
  generalize f9 16 = y16
  generalize f9 17 = y17
  generalize f9 18 = y18
  generalize f9 19 = y19
  generalize f9 20 = y20
  generalize f9 21 = y21
  generalize f9 22 = y22
  generalize f9 23 = y23
  generalize f9 24 = y24
  generalize f9 25 = y25
  generalize f9 26 = y26
  clear d27
  simp only [List.setIfInBounds_toArray, List.set_cons_succ, List.set_cons_zero]
  replace hB := Kept.mk (hB.out.trans (hb9.mono hB.out.size))
  clear hb9 hX HC
  rw [HZ.out]
  cases z
  · go_wp2
    go_ret2
    exact ⟨rfl, hB.out⟩
  · go_wp2
    go_ret2
    exact ⟨rfl, hB.out⟩
noncomputable def kv_flags1Ops : Array Oper := regionOf Try.f25 2
set_option maxRecDepth 100000 in
set_option maxHeartbeats 2000000 in
theorem kv_flags1_region (Q : Exit → Act → World → Prop) (a0 : Act) (w0 : World) (hsz : a0.tmps.size = 29) (A : Va) (g : Nat) (vp vm : Value) (e1 : a0.tmps.getD 1 undef = .pointer (some ⟨g, 0, none⟩)) (e4 : a0.tmps.getD 4 undef = (.iface 87 (.agg #[]))) (e5 : a0.tmps.getD 5 undef = .bool true) (hc : CellsN w0 g [.int .i64 A.kind, .int .i64 A.time, .int .i64 A.node, .bool A.dead, .string ⟨A.text.toArray⟩, vp, vm, .int .u64 (A.flags.toNat : Int)]) (hX : isVa A (.agg #[.int .i64 A.kind, .int .i64 A.time, .int .i64 A.node, .bool A.dead, .string ⟨A.text.toArray⟩, vp, vm, .int .u64 (A.flags.toNat : Int)]) w0) (hF : Fit A) (hI : true = true)
    (hQ : ∀ (g : Nat → Value) (w : World), g 27 = .bool (!decide (A = onlyFlags A)) → Below w0.heap.size w0 w → Q .normal { tmps := [12, 13, 14, 15, 16, 17, 18, 19, 20, 21, 22, 23, 24, 25, 26, 27].foldl (fun t s => t.setIfInBounds s (g s)) a0.tmps, defers := a0.defers } w) :
    (Code.region 2 kv_flags1Ops true).wp Try.prog Q a0 w0 := by
  refine wp_region_flow mixed (by rw [hsz]; kernel_rfl) ?_
  rw [show kv_flags1Ops.size = 16 by kernel_rfl]
  refine ⟨isVal (.bool true), step_move (.tmp 5) (by kernel_rfl) (wanted_none (by kernel_rfl)) (stable_val _) (knows_old 5 (.bool true) (by kernel_rfl) e5), ?_⟩
  refine ⟨isVal (.bool false), step_un .not 4 (.tmp 12) (.bool true) (.bool false) (by kernel_rfl) (wanted_none (by kernel_rfl)) (knows_new (V := isVal (.bool true)) 12 0 (by kernel_rfl) (by kernel_rfl) (by kernel_rfl)) (fun _ => rfl), ?_⟩
  refine ⟨isVal (.bool false), step_move (.tmp 13) (by kernel_rfl) (wanted_none (by kernel_rfl)) (stable_val _) (knows_new (V := isVal (.bool false)) 13 1 (by kernel_rfl) (by kernel_rfl) (by kernel_rfl)), ?_⟩
  refine ⟨isVal (.iface 87 (.agg #[])), step_move (.tmp 4) (by kernel_rfl) (wanted_some 2 14 false (by kernel_rfl) (by kernel_rfl) (by kernel_rfl) (by kernel_rfl)) (stable_val _) (knows_old 4 (.iface 87 (.agg #[])) (by kernel_rfl) e4), ?_⟩
  refine ⟨isVal (.agg #[.int .i64 A.kind, .int .i64 A.time, .int .i64 A.node, .bool A.dead, .string ⟨A.text.toArray⟩, vp, vm, .int .u64 (A.flags.toNat : Int)]), step_loadN 25 (.tmp 1) (g) [.int .i64 A.kind, .int .i64 A.time, .int .i64 A.node, .bool A.dead, .string ⟨A.text.toArray⟩, vp, vm, .int .u64 (A.flags.toNat : Int)] (by kernel_rfl) (wanted_some 2 14 false (by kernel_rfl) (by kernel_rfl) (by kernel_rfl) (by kernel_rfl)) (knows_old 1 (.pointer (some ⟨g, 0, none⟩)) (by kernel_rfl) e1) size_va agg_va hc, ?_⟩
  refine ⟨isVal (.bool true), step_invoke "ouroboros/value.inRange" (.tmp 15) (.iface 87 (.agg #[])) 104 #[.tmp 16] #[25] #[.agg #[.int .i64 A.kind, .int .i64 A.time, .int .i64 A.node, .bool A.dead, .string ⟨A.text.toArray⟩, vp, vm, .int .u64 (A.flags.toNat : Int)]] #[.agg #[], .agg #[.int .i64 A.kind, .int .i64 A.time, .int .i64 A.node, .bool A.dead, .string ⟨A.text.toArray⟩, vp, vm, .int .u64 (A.flags.toNat : Int)]] (by kernel_rfl) (wanted_some 2 14 false (by kernel_rfl) (by kernel_rfl) (by kernel_rfl) (by kernel_rfl)) (stable_val _) (args1 (.tmp 16) (.agg #[.int .i64 A.kind, .int .i64 A.time, .int .i64 A.node, .bool A.dead, .string ⟨A.text.toArray⟩, vp, vm, .int .u64 (A.flags.toNat : Int)]) (knows_new (V := isVal (.agg #[.int .i64 A.kind, .int .i64 A.time, .int .i64 A.node, .bool A.dead, .string ⟨A.text.toArray⟩, vp, vm, .int .u64 (A.flags.toNat : Int)])) 16 4 (by kernel_rfl) (by kernel_rfl) (by kernel_rfl))) (knows_new (V := isVal (.iface 87 (.agg #[]))) 15 3 (by kernel_rfl) (by kernel_rfl) (by kernel_rfl)) (fun w => by kernel_rfl) (by intro w hb; exact call_flagsIn A true _ w (va_grow hX hb) hF hI), ?_⟩
  refine ⟨isVal (.bool false), step_un .not 4 (.tmp 17) (.bool true) (.bool false) (by kernel_rfl) (wanted_some 2 14 false (by kernel_rfl) (by kernel_rfl) (by kernel_rfl) (by kernel_rfl)) (knows_new (V := isVal (.bool true)) 17 5 (by kernel_rfl) (by kernel_rfl) (by kernel_rfl)) (fun _ => rfl), ?_⟩
  refine ⟨isVal (.bool false), step_pick (.tmp 14) (.const (.bool true)) (.tmp 18) false (by kernel_rfl) (wanted_none (by kernel_rfl)) (stable_val _) (knows_new (V := isVal (.bool false)) 14 2 (by kernel_rfl) (by kernel_rfl) (by kernel_rfl)) (knows_new (V := isVal (.bool false)) 18 6 (by kernel_rfl) (by kernel_rfl) (by kernel_rfl)), ?_⟩
  refine ⟨isVal (.bool false), step_move (.tmp 19) (by kernel_rfl) (wanted_none (by kernel_rfl)) (stable_val _) (knows_new (V := isVal (.bool false)) 19 7 (by kernel_rfl) (by kernel_rfl) (by kernel_rfl)), ?_⟩
  refine ⟨isVal (.agg #[.int .i64 A.kind, .int .i64 A.time, .int .i64 A.node, .bool A.dead, .string ⟨A.text.toArray⟩, vp, vm, .int .u64 (A.flags.toNat : Int)]), step_loadN 25 (.tmp 1) (g) [.int .i64 A.kind, .int .i64 A.time, .int .i64 A.node, .bool A.dead, .string ⟨A.text.toArray⟩, vp, vm, .int .u64 (A.flags.toNat : Int)] (by kernel_rfl) (wanted_some 8 20 false (by kernel_rfl) (by kernel_rfl) (by kernel_rfl) (by kernel_rfl)) (knows_old 1 (.pointer (some ⟨g, 0, none⟩)) (by kernel_rfl) e1) size_va agg_va hc, ?_⟩
  refine ⟨isVal (.iface 87 (.agg #[])), step_move (.tmp 4) (by kernel_rfl) (wanted_some 8 20 false (by kernel_rfl) (by kernel_rfl) (by kernel_rfl) (by kernel_rfl)) (stable_val _) (knows_old 4 (.iface 87 (.agg #[])) (by kernel_rfl) e4), ?_⟩
  refine ⟨isVal (.agg #[.int .i64 A.kind, .int .i64 A.time, .int .i64 A.node, .bool A.dead, .string ⟨A.text.toArray⟩, vp, vm, .int .u64 (A.flags.toNat : Int)]), step_loadN 25 (.tmp 1) (g) [.int .i64 A.kind, .int .i64 A.time, .int .i64 A.node, .bool A.dead, .string ⟨A.text.toArray⟩, vp, vm, .int .u64 (A.flags.toNat : Int)] (by kernel_rfl) (wanted_some 8 20 false (by kernel_rfl) (by kernel_rfl) (by kernel_rfl) (by kernel_rfl)) (knows_old 1 (.pointer (some ⟨g, 0, none⟩)) (by kernel_rfl) e1) size_va agg_va hc, ?_⟩
  refine ⟨(isVa (onlyFlags A)), step_invoke "ouroboros/value.only" (.tmp 22) (.iface 87 (.agg #[])) 107 #[.tmp 23] #[25] #[.agg #[.int .i64 A.kind, .int .i64 A.time, .int .i64 A.node, .bool A.dead, .string ⟨A.text.toArray⟩, vp, vm, .int .u64 (A.flags.toNat : Int)]] #[.agg #[], .agg #[.int .i64 A.kind, .int .i64 A.time, .int .i64 A.node, .bool A.dead, .string ⟨A.text.toArray⟩, vp, vm, .int .u64 (A.flags.toNat : Int)]] (by kernel_rfl) (wanted_some 8 20 false (by kernel_rfl) (by kernel_rfl) (by kernel_rfl) (by kernel_rfl)) (stable_va _) (args1 (.tmp 23) (.agg #[.int .i64 A.kind, .int .i64 A.time, .int .i64 A.node, .bool A.dead, .string ⟨A.text.toArray⟩, vp, vm, .int .u64 (A.flags.toNat : Int)]) (knows_new (V := isVal (.agg #[.int .i64 A.kind, .int .i64 A.time, .int .i64 A.node, .bool A.dead, .string ⟨A.text.toArray⟩, vp, vm, .int .u64 (A.flags.toNat : Int)])) 23 11 (by kernel_rfl) (by kernel_rfl) (by kernel_rfl))) (knows_new (V := isVal (.iface 87 (.agg #[]))) 22 10 (by kernel_rfl) (by kernel_rfl) (by kernel_rfl)) (fun w => by kernel_rfl) (by intro w hb; exact call_flagsOnly A _ w (va_grow hX hb) hF), ?_⟩
  refine ⟨isVal (.bool (decide (A = onlyFlags A))), step_callP 16 #[.tmp 21, .tmp 24] #[25, 25] (by kernel_rfl) (wanted_some 8 20 false (by kernel_rfl) (by kernel_rfl) (by kernel_rfl) (by kernel_rfl)) (stable_val _) (enters_of Try.func16 (by kernel_rfl) rfl) (fun vs w => ∃ u v, vs = #[u, v] ∧ isVal (.agg #[.int .i64 A.kind, .int .i64 A.time, .int .i64 A.node, .bool A.dead, .string ⟨A.text.toArray⟩, vp, vm, .int .u64 (A.flags.toNat : Int)]) u w ∧ isVa (onlyFlags A) v w) (pre2 (knows_new (V := isVal (.agg #[.int .i64 A.kind, .int .i64 A.time, .int .i64 A.node, .bool A.dead, .string ⟨A.text.toArray⟩, vp, vm, .int .u64 (A.flags.toNat : Int)])) 21 9 (by kernel_rfl) (by kernel_rfl) (by kernel_rfl)) (knows_new (V := (isVa (onlyFlags A))) 24 12 (by kernel_rfl) (by kernel_rfl) (by kernel_rfl))) (by rintro vs w hb ⟨u, v, rfl, rfl, hv⟩; exact call_same A (onlyFlags A) _ v w (va_grow hX hb) hv hF (same_self A hF).2.2.2.2.1 (same_self A hF).2.2.2.2.2), ?_⟩
  refine ⟨isVal (.bool (!decide (A = onlyFlags A))), step_un .not 4 (.tmp 25) (.bool (decide (A = onlyFlags A))) (.bool (!decide (A = onlyFlags A))) (by kernel_rfl) (wanted_some 8 20 false (by kernel_rfl) (by kernel_rfl) (by kernel_rfl) (by kernel_rfl)) (knows_new (V := isVal (.bool (decide (A = onlyFlags A)))) 25 13 (by kernel_rfl) (by kernel_rfl) (by kernel_rfl)) (fun _ => rfl), ?_⟩
  refine ⟨isVal (.bool (!decide (A = onlyFlags A))), step_pick (.tmp 20) (.const (.bool true)) (.tmp 26) false (by kernel_rfl) (wanted_none (by kernel_rfl)) (stable_val _) (knows_new (V := isVal (.bool false)) 20 8 (by kernel_rfl) (by kernel_rfl) (by kernel_rfl)) (knows_new (V := isVal (.bool (!decide (A = onlyFlags A)))) 26 14 (by kernel_rfl) (by kernel_rfl) (by kernel_rfl)), ?_⟩
  intro a w hkp hb hd
  rw [kept_of hkp [some 12, some 13, some 14, some 15, some 16, some 17, some 18, some 19, some 20, some 21, some 22, some 23, some 24, some 25, some 26, some 27] [12, 13, 14, 15, 16, 17, 18, 19, 20, 21, 22, 23, 24, 25, 26, 27] (by kernel_rfl) (by decide)]
  have d27 := fdone_of (hd 15 (by rw [show kv_flags1Ops.size = 16 by kernel_rfl]; decide)) (t := 27) (V := isVal (.bool (!decide (A = onlyFlags A)))) (by kernel_rfl) (by kernel_rfl)
  exact hQ (fun s => a.tmps.getD s undef) w d27 hb
set_option maxRecDepth 20000 in
set_option maxHeartbeats 1000000 in
theorem kv_flags1_any (A : Va) (v : Value) (w : World) (hv : isVa A v w) (hF : Fit A) (hk : A.kind = 3) (z : Bool) (hz : decide (A = onlyFlags A) = z) :
    Calls Try.prog 25 #[v] w fun e w' => e = .returned (.tuple #[ifaceK (if z = true then 3 else 0), .bool z]) ∧ Below w.heap.size w w' := by
  obtain ⟨vp, vm, rfl, hp, hm⟩ := hv
  obtain ⟨hB, hV⟩ := vbox w A vp vm hp hm w.heap.size rfl
  have hX := Kept.mk (show isVa A (.agg #[.int .i64 A.kind, .int .i64 A.time, .int .i64 A.node, .bool A.dead, .string ⟨A.text.toArray⟩, vp, vm, .int .u64 (A.flags.toNat : Int)]) (w.alloc (.cells #[.int .i64 A.kind, .int .i64 A.time, .int .i64 A.node, .bool A.dead, .string ⟨A.text.toArray⟩, vp, vm, .int .u64 (A.flags.toNat : Int)] 25)) from ⟨vp, vm, rfl, stable_cells _ _ _ _ hp hB.out, stable_cells _ _ _ _ hm hB.out⟩)
  have HC := Kept.mk (cellsN_at w 25 [.int .i64 A.kind, .int .i64 A.time, .int .i64 A.node, .bool A.dead, .string ⟨A.text.toArray⟩, vp, vm, .int .u64 (A.flags.toNat : Int)] w.heap.size rfl)
  have HK := Kept.mk (show kOf A.kind = 3 by rw [hk]; rfl)
  have HK2 := Kept.mk hk
  clear hp hm hV hk
  have HZ := Kept.mk hz
  clear hz
  go_enter Try.func25, Try.ntmps25
  go_wp2_with fail
  refine (kindOf_any A.kind _).mono ?_; rintro e w' ⟨rfl, rfl⟩
  rewrite [HK.out]
  go_wp2_with fail
  refine kv_flags1_region _ _ _ rfl A w.heap.size vp vm rfl rfl rfl HC.out hX.out hF rfl ?_
  intro f9 W9 d27 hb9
  simp only [List.foldl_cons, List.foldl_nil, d27]
  generalize f9 12 = y12
  generalize f9 13 = y13
  generalize f9 14 = y14
  generalize f9 15 = y15
  generalize f9 16 = y16
  generalize f9 17 = y17
  generalize f9 18 = y18
  generalize f9 19 = y19
  generalize f9 20 = y20
  generalize f9 21 = y21
  generalize f9 22 = y22
  generalize f9 23 = y23
  generalize f9 24 = y24
  generalize f9 25 = y25
  generalize f9 26 = y26
  clear d27
  simp only [List.setIfInBounds_toArray, List.set_cons_succ, List.set_cons_zero]
  replace hB := Kept.mk (hB.out.trans (hb9.mono hB.out.size))
  clear hb9 hX HC
  rw [HZ.out]
  cases z
  · go_wp2
    go_ret2
    exact ⟨rfl, hB.out⟩
  · go_wp2
    go_ret2
    exact ⟨rfl, hB.out⟩
end Go.Proofs.Ytebjljiklacolaa
