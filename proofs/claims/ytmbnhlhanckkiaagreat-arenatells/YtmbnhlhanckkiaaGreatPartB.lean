/- Joined texts: contracts of the program's functions, and the mathematics that they lean on. -/
import Derived.Test.YtmbnhlhanckkiaaGreatPartA
import Derived.SizedLaws
import Derived.SliceStrings
import Derived.Carry
section
namespace Go.Proofs.YtmbnhlhanckkiaaGreat
open Go.RowKit
set_option linter.unusedVariables false
set_option linter.unusedSimpArgs false
attribute [local irreducible] setN

/-- A kind, as the program has it. -/
def ifaceK : Nat → Value
  | 1 => .iface 142 (.agg #[])
  | 2 => .iface 143 (.agg #[])
  | 3 => .iface 144 (.agg #[])
  | _ => .nilIface
def kOf (n : Int) : Nat := if n = 1 then 1 else if n = 2 then 2 else if n = 3 then 3 else 0
theorem kindOf_any (n : Int) (w : World) : Calls Tryz.prog 134 #[.int .i64 n] w fun e w' => e = .returned (.tuple #[ifaceK (kOf n), .bool (decide (kOf n ≠ 0))]) ∧ w = w' := by
  by_cases h1 : n = 1
  · subst h1
    go_enter Tryz.func134, Tryz.ntmps134
    go_wp2
    go_ret2
    exact ⟨rfl, rfl⟩
  · have d1 : (n == 1) = false := by simpa using h1
    by_cases h2 : n = 2
    · subst h2
      go_enter Tryz.func134, Tryz.ntmps134
      go_wp2
      go_ret2
      exact ⟨rfl, rfl⟩
    · have d2 : (n == 2) = false := by simpa using h2
      by_cases h3 : n = 3
      · subst h3
        go_enter Tryz.func134, Tryz.ntmps134
        go_wp2
        go_ret2
        exact ⟨rfl, rfl⟩
      · have d3 : (n == 3) = false := by simpa using h3
        have HK := Kept.mk (show kOf n = 0 by unfold kOf; rw [if_neg h1, if_neg h2, if_neg h3])
        clear h1 h2 h3
        go_enter Tryz.func134, Tryz.ntmps134
        go_wp2
        go_ret2
        exact ⟨by rw [HK.out]; rfl, rfl⟩
/-- What is looked at is small enough. -/
structure Fit (A : Va) : Prop where
  text : A.text.length ≤ 1000000000
  plus : A.plus.length ≤ 1000000
  minus : A.minus.length ≤ 1000000
theorem call_regIn (A : Va) (b : Bool) (v : Value) (w : World) (hv : isVa A v w) (hf : Fit A) (hb : inReg A = b) : Calls Tryz.prog 161 #[.agg #[], v] w fun e w' => ∃ x, e = .returned x ∧ isVal (.bool b) x w' ∧ Below w.heap.size w w' :=
  (regIn_any A v w hv hf.text).mono (by rintro e w' ⟨rfl, h⟩; exact ⟨_, rfl, by rw [hb]; rfl, h⟩)
theorem call_countIn (A : Va) (b : Bool) (v : Value) (w : World) (hv : isVa A v w) (hf : Fit A) (hb : inCount A = b) : Calls Tryz.prog 173 #[.agg #[], v] w fun e w' => ∃ x, e = .returned x ∧ isVal (.bool b) x w' ∧ Below w.heap.size w w' :=
  (countIn_any A v w hv (by have := hf.plus; omega) (by have := hf.minus; omega)).mono (by rintro e w' ⟨rfl, h⟩; exact ⟨_, rfl, by rw [hb]; rfl, h⟩)
theorem call_flagsIn (A : Va) (b : Bool) (v : Value) (w : World) (hv : isVa A v w) (hf : Fit A) (hb : true = b) : Calls Tryz.prog 187 #[.agg #[], v] w fun e w' => ∃ x, e = .returned x ∧ isVal (.bool b) x w' ∧ Below w.heap.size w w' :=
  (flagsInrange_any A v w hv).mono (by rintro e w' ⟨rfl, h⟩; exact ⟨_, rfl, by rw [hb]; rfl, h⟩)
theorem call_regOnly (A : Va) (v : Value) (w : World) (hv : isVa A v w) (hf : Fit A) : Calls Tryz.prog 164 #[.agg #[], v] w fun e w' => ∃ x, e = .returned x ∧ isVa (onlyReg A) x w' ∧ Below w.heap.size w w' :=
  (regOnly_any A v w hv).mono (by rintro e w' ⟨x, rfl, h, hb⟩; exact ⟨_, rfl, h.va, hb⟩)
theorem call_countOnly (A : Va) (v : Value) (w : World) (hv : isVa A v w) (hf : Fit A) : Calls Tryz.prog 176 #[.agg #[], v] w fun e w' => ∃ x, e = .returned x ∧ isVa (onlyCount A) x w' ∧ Below w.heap.size w w' :=
  (countOnly_any A v w hv (by have := hf.plus; omega) (by have := hf.minus; omega)).mono (by rintro e w' ⟨x, rfl, h, hb⟩; exact ⟨_, rfl, h.va, hb⟩)
theorem call_flagsOnly (A : Va) (v : Value) (w : World) (hv : isVa A v w) (hf : Fit A) : Calls Tryz.prog 190 #[.agg #[], v] w fun e w' => ∃ x, e = .returned x ∧ isVa (onlyFlags A) x w' ∧ Below w.heap.size w w' :=
  (flagsOnly_any A v w hv).mono (by rintro e w' ⟨x, rfl, h, hb⟩; exact ⟨_, rfl, h.va, hb⟩)
theorem call_same (A B : Va) (v u : Value) (w : World) (hv : isVa A v w) (hu : isVa B u w) (h1 : Fit A) (h2 : B.plus.length ≤ 1000000) (h3 : B.minus.length ≤ 1000000) :
    Calls Tryz.prog 119 #[v, u] w fun e w' => ∃ x, e = .returned x ∧ isVal (.bool (decide (A = B))) x w' ∧ Below w.heap.size w w' :=
  (vsame_any A B v u w hv hu (by have := h1.plus; omega) (by have := h1.minus; omega) (by omega) (by omega)).mono (by rintro e w' ⟨rfl, h⟩; exact ⟨_, rfl, rfl, h⟩)
theorem same_self (B : Va) (h : Fit B) : (onlyReg B).plus.length ≤ 1000000 ∧ (onlyReg B).minus.length ≤ 1000000 ∧ (onlyCount B).plus.length ≤ 1000000 ∧ (onlyCount B).minus.length ≤ 1000000 ∧ (onlyFlags B).plus.length ≤ 1000000 ∧ (onlyFlags B).minus.length ≤ 1000000 :=
  ⟨Nat.zero_le _, Nat.zero_le _, h.plus, h.minus, Nat.zero_le _, Nat.zero_le _⟩
noncomputable def kv_noneOps : Array Oper := regionOf Tryz.f103 2
set_option maxRecDepth 100000 in
set_option maxHeartbeats 2000000 in
theorem kv_none_region (Q : Exit → Act → World → Prop) (a0 : Act) (w0 : World) (hsz : a0.tmps.size = 29) (A : Va) (g : Nat) (vp vm : Value) (e1 : a0.tmps.getD 1 undef = .pointer (some ⟨g, 0, none⟩)) (e4 : a0.tmps.getD 4 undef = .nilIface) (e5 : a0.tmps.getD 5 undef = .bool false) (hc : CellsN w0 g [.int .i64 A.kind, .int .i64 A.time, .int .i64 A.node, .bool A.dead, .string ⟨A.text.toArray⟩, vp, vm, .int .u64 (A.flags.toNat : Int)]) (hX : isVa A (.agg #[.int .i64 A.kind, .int .i64 A.time, .int .i64 A.node, .bool A.dead, .string ⟨A.text.toArray⟩, vp, vm, .int .u64 (A.flags.toNat : Int)]) w0) (hF : Fit A)
    (hQ : ∀ (g : Nat → Value) (w : World), g 27 = .bool true → Below w0.heap.size w0 w → Q .normal { tmps := [12, 13, 14, 15, 16, 17, 18, 19, 20, 21, 22, 23, 24, 25, 26, 27].foldl (fun t s => t.setIfInBounds s (g s)) a0.tmps, defers := a0.defers } w) :
    (Code.region 2 kv_noneOps true).wp Tryz.prog Q a0 w0 := by
  refine wp_region_flow mixed (by rw [hsz]; kernel_rfl) ?_
  rw [show kv_noneOps.size = 16 by kernel_rfl]
  refine ⟨isVal (.bool false), step_move (.tmp 5) (by kernel_rfl) (wanted_none (by kernel_rfl)) (stable_val _) (knows_old 5 (.bool false) (by kernel_rfl) e5), ?_⟩
  refine ⟨isVal (.bool true), step_un .not 4 (.tmp 12) (.bool false) (.bool true) (by kernel_rfl) (wanted_none (by kernel_rfl)) (knows_new (V := isVal (.bool false)) 12 0 (by kernel_rfl) (by kernel_rfl) (by kernel_rfl)) (fun _ => rfl), ?_⟩
  refine ⟨isVal (.bool true), step_move (.tmp 13) (by kernel_rfl) (wanted_none (by kernel_rfl)) (stable_val _) (knows_new (V := isVal (.bool true)) 13 1 (by kernel_rfl) (by kernel_rfl) (by kernel_rfl)), ?_⟩
  refine ⟨_, step_skip 2 14 false true (by kernel_rfl) (by kernel_rfl) (by kernel_rfl) (by kernel_rfl) rfl, ?_⟩
  refine ⟨_, step_skip 2 14 false true (by kernel_rfl) (by kernel_rfl) (by kernel_rfl) (by kernel_rfl) rfl, ?_⟩
  refine ⟨_, step_skip 2 14 false true (by kernel_rfl) (by kernel_rfl) (by kernel_rfl) (by kernel_rfl) rfl, ?_⟩
  refine ⟨_, step_skip 2 14 false true (by kernel_rfl) (by kernel_rfl) (by kernel_rfl) (by kernel_rfl) rfl, ?_⟩
  refine ⟨isVal (.bool true), step_pick (.tmp 14) (.const (.bool true)) (.tmp 18) true (by kernel_rfl) (wanted_none (by kernel_rfl)) (stable_val _) (knows_new (V := isVal (.bool true)) 14 2 (by kernel_rfl) (by kernel_rfl) (by kernel_rfl)) (knows_const _), ?_⟩
  refine ⟨isVal (.bool true), step_move (.tmp 19) (by kernel_rfl) (wanted_none (by kernel_rfl)) (stable_val _) (knows_new (V := isVal (.bool true)) 19 7 (by kernel_rfl) (by kernel_rfl) (by kernel_rfl)), ?_⟩
  refine ⟨_, step_skip 8 20 false true (by kernel_rfl) (by kernel_rfl) (by kernel_rfl) (by kernel_rfl) rfl, ?_⟩
  refine ⟨_, step_skip 8 20 false true (by kernel_rfl) (by kernel_rfl) (by kernel_rfl) (by kernel_rfl) rfl, ?_⟩
  refine ⟨_, step_skip 8 20 false true (by kernel_rfl) (by kernel_rfl) (by kernel_rfl) (by kernel_rfl) rfl, ?_⟩
  refine ⟨_, step_skip 8 20 false true (by kernel_rfl) (by kernel_rfl) (by kernel_rfl) (by kernel_rfl) rfl, ?_⟩
  refine ⟨_, step_skip 8 20 false true (by kernel_rfl) (by kernel_rfl) (by kernel_rfl) (by kernel_rfl) rfl, ?_⟩
  refine ⟨_, step_skip 8 20 false true (by kernel_rfl) (by kernel_rfl) (by kernel_rfl) (by kernel_rfl) rfl, ?_⟩
  refine ⟨isVal (.bool true), step_pick (.tmp 20) (.const (.bool true)) (.tmp 26) true (by kernel_rfl) (wanted_none (by kernel_rfl)) (stable_val _) (knows_new (V := isVal (.bool true)) 20 8 (by kernel_rfl) (by kernel_rfl) (by kernel_rfl)) (knows_const _), ?_⟩
  intro a w hkp hb hd
  rw [kept_of hkp [some 12, some 13, some 14, some 15, some 16, some 17, some 18, some 19, some 20, some 21, some 22, some 23, some 24, some 25, some 26, some 27] [12, 13, 14, 15, 16, 17, 18, 19, 20, 21, 22, 23, 24, 25, 26, 27] (by kernel_rfl) (by decide)]
  have d27 := fdone_of (hd 15 (by rw [show kv_noneOps.size = 16 by kernel_rfl]; decide)) (t := 27) (V := isVal (.bool true)) (by kernel_rfl) (by kernel_rfl)
  exact hQ (fun s => a.tmps.getD s undef) w d27 hb
set_option maxRecDepth 20000 in
set_option maxHeartbeats 1000000 in
theorem kv_none_any (A : Va) (v : Value) (w : World) (hv : isVa A v w) (hF : Fit A) (hk : kOf A.kind = 0) :
    Calls Tryz.prog 103 #[v] w fun e w' => e = .returned (.tuple #[ifaceK 0, .bool false]) ∧ Below w.heap.size w w' := by
  obtain ⟨vp, vm, rfl, hp, hm⟩ := hv
  obtain ⟨hB, hV⟩ := vbox w A vp vm hp hm w.heap.size rfl
  have hX := Kept.mk (show isVa A (.agg #[.int .i64 A.kind, .int .i64 A.time, .int .i64 A.node, .bool A.dead, .string ⟨A.text.toArray⟩, vp, vm, .int .u64 (A.flags.toNat : Int)]) (w.alloc (.cells #[.int .i64 A.kind, .int .i64 A.time, .int .i64 A.node, .bool A.dead, .string ⟨A.text.toArray⟩, vp, vm, .int .u64 (A.flags.toNat : Int)] 40)) from ⟨vp, vm, rfl, stable_cells _ _ _ _ hp hB.out, stable_cells _ _ _ _ hm hB.out⟩)
  have HC := Kept.mk (cellsN_at w 40 [.int .i64 A.kind, .int .i64 A.time, .int .i64 A.node, .bool A.dead, .string ⟨A.text.toArray⟩, vp, vm, .int .u64 (A.flags.toNat : Int)] w.heap.size rfl)
  have HK := Kept.mk (show kOf A.kind = 0 by exact hk)
  have HK2 := Kept.mk hk
  clear hp hm hV hk
  go_enter Tryz.func103, Tryz.ntmps103
  go_wp2_with fail
  refine (kindOf_any A.kind _).mono ?_; rintro e w' ⟨rfl, rfl⟩
  rewrite [HK.out]
  go_wp2_with fail
  refine kv_none_region _ _ _ rfl A w.heap.size vp vm rfl rfl rfl HC.out hX.out hF ?_
  intro f9 W9 d27 hb9
  simp only [List.foldl_cons, List.foldl_nil, d27]
  generalize f9 12 = y12
  generalize f9 13 = y13
  generalize f9 14 = y14
  generalize f9 15 = y15
  generalize f9 16 = y16
  generalize f9 17 = y17
  generalize f9 18 = y18
  generalize f9 19 = y19
  generalize f9 20 = y20
  generalize f9 21 = y21
  generalize f9 22 = y22
  generalize f9 23 = y23
  generalize f9 24 = y24
  generalize f9 25 = y25
  generalize f9 26 = y26
  clear d27
  simp only [List.setIfInBounds_toArray, List.set_cons_succ, List.set_cons_zero]
  replace hB := Kept.mk (hB.out.trans (hb9.mono hB.out.size))
  clear hb9 hX HC
  go_wp2
  go_ret2
  exact ⟨rfl, hB.out⟩
noncomputable def kv_reg0Ops : Array Oper := regionOf Tryz.f103 2
set_option maxRecDepth 100000 in
set_option maxHeartbeats 2000000 in
theorem kv_reg0_region (Q : Exit → Act → World → Prop) (a0 : Act) (w0 : World) (hsz : a0.tmps.size = 29) (A : Va) (g : Nat) (vp vm : Value) (e1 : a0.tmps.getD 1 undef = .pointer (some ⟨g, 0, none⟩)) (e4 : a0.tmps.getD 4 undef = (.iface 142 (.agg #[]))) (e5 : a0.tmps.getD 5 undef = .bool true) (hc : CellsN w0 g [.int .i64 A.kind, .int .i64 A.time, .int .i64 A.node, .bool A.dead, .string ⟨A.text.toArray⟩, vp, vm, .int .u64 (A.flags.toNat : Int)]) (hX : isVa A (.agg #[.int .i64 A.kind, .int .i64 A.time, .int .i64 A.node, .bool A.dead, .string ⟨A.text.toArray⟩, vp, vm, .int .u64 (A.flags.toNat : Int)]) w0) (hF : Fit A) (hI : inReg A = false)
    (hQ : ∀ (g : Nat → Value) (w : World), g 27 = .bool true → Below w0.heap.size w0 w → Q .normal { tmps := [12, 13, 14, 15, 16, 17, 18, 19, 20, 21, 22, 23, 24, 25, 26, 27].foldl (fun t s => t.setIfInBounds s (g s)) a0.tmps, defers := a0.defers } w) :
    (Code.region 2 kv_reg0Ops true).wp Tryz.prog Q a0 w0 := by
  refine wp_region_flow mixed (by rw [hsz]; kernel_rfl) ?_
  rw [show kv_reg0Ops.size = 16 by kernel_rfl]
  refine ⟨isVal (.bool true), step_move (.tmp 5) (by kernel_rfl) (wanted_none (by kernel_rfl)) (stable_val _) (knows_old 5 (.bool true) (by kernel_rfl) e5), ?_⟩
  refine ⟨isVal (.bool false), step_un .not 4 (.tmp 12) (.bool true) (.bool false) (by kernel_rfl) (wanted_none (by kernel_rfl)) (knows_new (V := isVal (.bool true)) 12 0 (by kernel_rfl) (by kernel_rfl) (by kernel_rfl)) (fun _ => rfl), ?_⟩
  refine ⟨isVal (.bool false), step_move (.tmp 13) (by kernel_rfl) (wanted_none (by kernel_rfl)) (stable_val _) (knows_new (V := isVal (.bool false)) 13 1 (by kernel_rfl) (by kernel_rfl) (by kernel_rfl)), ?_⟩
  refine ⟨isVal (.iface 142 (.agg #[])), step_move (.tmp 4) (by kernel_rfl) (wanted_some 2 14 false (by kernel_rfl) (by kernel_rfl) (by kernel_rfl) (by kernel_rfl)) (stable_val _) (knows_old 4 (.iface 142 (.agg #[])) (by kernel_rfl) e4), ?_⟩
  refine ⟨isVal (.agg #[.int .i64 A.kind, .int .i64 A.time, .int .i64 A.node, .bool A.dead, .string ⟨A.text.toArray⟩, vp, vm, .int .u64 (A.flags.toNat : Int)]), step_loadN 40 (.tmp 1) (g) [.int .i64 A.kind, .int .i64 A.time, .int .i64 A.node, .bool A.dead, .string ⟨A.text.toArray⟩, vp, vm, .int .u64 (A.flags.toNat : Int)] (by kernel_rfl) (wanted_some 2 14 false (by kernel_rfl) (by kernel_rfl) (by kernel_rfl) (by kernel_rfl)) (knows_old 1 (.pointer (some ⟨g, 0, none⟩)) (by kernel_rfl) e1) size_va agg_va hc, ?_⟩
  refine ⟨isVal (.bool false), step_invoke "ouroboros/value.inRange" (.tmp 15) (.iface 142 (.agg #[])) 161 #[.tmp 16] #[40] #[.agg #[.int .i64 A.kind, .int .i64 A.time, .int .i64 A.node, .bool A.dead, .string ⟨A.text.toArray⟩, vp, vm, .int .u64 (A.flags.toNat : Int)]] #[.agg #[], .agg #[.int .i64 A.kind, .int .i64 A.time, .int .i64 A.node, .bool A.dead, .string ⟨A.text.toArray⟩, vp, vm, .int .u64 (A.flags.toNat : Int)]] (by kernel_rfl) (wanted_some 2 14 false (by kernel_rfl) (by kernel_rfl) (by kernel_rfl) (by kernel_rfl)) (stable_val _) (args1 (.tmp 16) (.agg #[.int .i64 A.kind, .int .i64 A.time, .int .i64 A.node, .bool A.dead, .string ⟨A.text.toArray⟩, vp, vm, .int .u64 (A.flags.toNat : Int)]) (knows_new (V := isVal (.agg #[.int .i64 A.kind, .int .i64 A.time, .int .i64 A.node, .bool A.dead, .string ⟨A.text.toArray⟩, vp, vm, .int .u64 (A.flags.toNat : Int)])) 16 4 (by kernel_rfl) (by kernel_rfl) (by kernel_rfl))) (knows_new (V := isVal (.iface 142 (.agg #[]))) 15 3 (by kernel_rfl) (by kernel_rfl) (by kernel_rfl)) (fun w => by kernel_rfl) (by intro w hb; exact call_regIn A false _ w (va_grow hX hb) hF hI), ?_⟩
  refine ⟨isVal (.bool true), step_un .not 4 (.tmp 17) (.bool false) (.bool true) (by kernel_rfl) (wanted_some 2 14 false (by kernel_rfl) (by kernel_rfl) (by kernel_rfl) (by kernel_rfl)) (knows_new (V := isVal (.bool false)) 17 5 (by kernel_rfl) (by kernel_rfl) (by kernel_rfl)) (fun _ => rfl), ?_⟩
  refine ⟨isVal (.bool true), step_pick (.tmp 14) (.const (.bool true)) (.tmp 18) false (by kernel_rfl) (wanted_none (by kernel_rfl)) (stable_val _) (knows_new (V := isVal (.bool false)) 14 2 (by kernel_rfl) (by kernel_rfl) (by kernel_rfl)) (knows_new (V := isVal (.bool true)) 18 6 (by kernel_rfl) (by kernel_rfl) (by kernel_rfl)), ?_⟩
  refine ⟨isVal (.bool true), step_move (.tmp 19) (by kernel_rfl) (wanted_none (by kernel_rfl)) (stable_val _) (knows_new (V := isVal (.bool true)) 19 7 (by kernel_rfl) (by kernel_rfl) (by kernel_rfl)), ?_⟩
  refine ⟨_, step_skip 8 20 false true (by kernel_rfl) (by kernel_rfl) (by kernel_rfl) (by kernel_rfl) rfl, ?_⟩
  refine ⟨_, step_skip 8 20 false true (by kernel_rfl) (by kernel_rfl) (by kernel_rfl) (by kernel_rfl) rfl, ?_⟩
  refine ⟨_, step_skip 8 20 false true (by kernel_rfl) (by kernel_rfl) (by kernel_rfl) (by kernel_rfl) rfl, ?_⟩
  refine ⟨_, step_skip 8 20 false true (by kernel_rfl) (by kernel_rfl) (by kernel_rfl) (by kernel_rfl) rfl, ?_⟩
  refine ⟨_, step_skip 8 20 false true (by kernel_rfl) (by kernel_rfl) (by kernel_rfl) (by kernel_rfl) rfl, ?_⟩
  refine ⟨_, step_skip 8 20 false true (by kernel_rfl) (by kernel_rfl) (by kernel_rfl) (by kernel_rfl) rfl, ?_⟩
  refine ⟨isVal (.bool true), step_pick (.tmp 20) (.const (.bool true)) (.tmp 26) true (by kernel_rfl) (wanted_none (by kernel_rfl)) (stable_val _) (knows_new (V := isVal (.bool true)) 20 8 (by kernel_rfl) (by kernel_rfl) (by kernel_rfl)) (knows_const _), ?_⟩
  intro a w hkp hb hd
  rw [kept_of hkp [some 12, some 13, some 14, some 15, some 16, some 17, some 18, some 19, some 20, some 21, some 22, some 23, some 24, some 25, some 26, some 27] [12, 13, 14, 15, 16, 17, 18, 19, 20, 21, 22, 23, 24, 25, 26, 27] (by kernel_rfl) (by decide)]
  have d27 := fdone_of (hd 15 (by rw [show kv_reg0Ops.size = 16 by kernel_rfl]; decide)) (t := 27) (V := isVal (.bool true)) (by kernel_rfl) (by kernel_rfl)
  exact hQ (fun s => a.tmps.getD s undef) w d27 hb
set_option maxRecDepth 20000 in
set_option maxHeartbeats 1000000 in
theorem kv_reg0_any (A : Va) (v : Value) (w : World) (hv : isVa A v w) (hF : Fit A) (hk : A.kind = 1) (hI : inReg A = false) :
    Calls Tryz.prog 103 #[v] w fun e w' => e = .returned (.tuple #[ifaceK 0, .bool false]) ∧ Below w.heap.size w w' := by
  obtain ⟨vp, vm, rfl, hp, hm⟩ := hv
  obtain ⟨hB, hV⟩ := vbox w A vp vm hp hm w.heap.size rfl
  have hX := Kept.mk (show isVa A (.agg #[.int .i64 A.kind, .int .i64 A.time, .int .i64 A.node, .bool A.dead, .string ⟨A.text.toArray⟩, vp, vm, .int .u64 (A.flags.toNat : Int)]) (w.alloc (.cells #[.int .i64 A.kind, .int .i64 A.time, .int .i64 A.node, .bool A.dead, .string ⟨A.text.toArray⟩, vp, vm, .int .u64 (A.flags.toNat : Int)] 40)) from ⟨vp, vm, rfl, stable_cells _ _ _ _ hp hB.out, stable_cells _ _ _ _ hm hB.out⟩)
  have HC := Kept.mk (cellsN_at w 40 [.int .i64 A.kind, .int .i64 A.time, .int .i64 A.node, .bool A.dead, .string ⟨A.text.toArray⟩, vp, vm, .int .u64 (A.flags.toNat : Int)] w.heap.size rfl)
  have HK := Kept.mk (show kOf A.kind = 1 by rw [hk]; rfl)
  have HK2 := Kept.mk hk
  clear hp hm hV hk
  have HI := Kept.mk hI
  clear hI
  go_enter Tryz.func103, Tryz.ntmps103
  go_wp2_with fail
  refine (kindOf_any A.kind _).mono ?_; rintro e w' ⟨rfl, rfl⟩
  rewrite [HK.out]
  go_wp2_with fail
  refine kv_reg0_region _ _ _ rfl A w.heap.size vp vm rfl rfl rfl HC.out hX.out hF HI.out ?_
  intro f9 W9 d27 hb9
  simp only [List.foldl_cons, List.foldl_nil, d27]
  generalize f9 12 = y12
  generalize f9 13 = y13
  generalize f9 14 = y14
  generalize f9 15 = y15
  generalize f9 16 = y16
  generalize f9 17 = y17
  generalize f9 18 = y18
  generalize f9 19 = y19
  generalize f9 20 = y20
  generalize f9 21 = y21
  generalize f9 22 = y22
  generalize f9 23 = y23
  generalize f9 24 = y24
  generalize f9 25 = y25
  generalize f9 26 = y26
  clear d27
  simp only [List.setIfInBounds_toArray, List.set_cons_succ, List.set_cons_zero]
  replace hB := Kept.mk (hB.out.trans (hb9.mono hB.out.size))
  clear hb9 hX HC
  go_wp2
  go_ret2
  exact ⟨rfl, hB.out⟩
noncomputable def kv_reg1Ops : Array Oper := regionOf Tryz.f103 2
set_option maxRecDepth 100000 in
set_option maxHeartbeats 2000000 in
theorem kv_reg1_region (Q : Exit → Act → World → Prop) (a0 : Act) (w0 : World) (hsz : a0.tmps.size = 29) (A : Va) (g : Nat) (vp vm : Value) (e1 : a0.tmps.getD 1 undef = .pointer (some ⟨g, 0, none⟩)) (e4 : a0.tmps.getD 4 undef = (.iface 142 (.agg #[]))) (e5 : a0.tmps.getD 5 undef = .bool true) (hc : CellsN w0 g [.int .i64 A.kind, .int .i64 A.time, .int .i64 A.node, .bool A.dead, .string ⟨A.text.toArray⟩, vp, vm, .int .u64 (A.flags.toNat : Int)]) (hX : isVa A (.agg #[.int .i64 A.kind, .int .i64 A.time, .int .i64 A.node, .bool A.dead, .string ⟨A.text.toArray⟩, vp, vm, .int .u64 (A.flags.toNat : Int)]) w0) (hF : Fit A) (hI : inReg A = true)
    (hQ : ∀ (g : Nat → Value) (w : World), g 27 = .bool (!decide (A = onlyReg A)) → Below w0.heap.size w0 w → Q .normal { tmps := [12, 13, 14, 15, 16, 17, 18, 19, 20, 21, 22, 23, 24, 25, 26, 27].foldl (fun t s => t.setIfInBounds s (g s)) a0.tmps, defers := a0.defers } w) :
    (Code.region 2 kv_reg1Ops true).wp Tryz.prog Q a0 w0 := by
  refine wp_region_flow mixed (by rw [hsz]; kernel_rfl) ?_
  rw [show kv_reg1Ops.size = 16 by kernel_rfl]
  refine ⟨isVal (.bool true), step_move (.tmp 5) (by kernel_rfl) (wanted_none (by kernel_rfl)) (stable_val _) (knows_old 5 (.bool true) (by kernel_rfl) e5), ?_⟩
  refine ⟨isVal (.bool false), step_un .not 4 (.tmp 12) (.bool true) (.bool false) (by kernel_rfl) (wanted_none (by kernel_rfl)) (knows_new (V := isVal (.bool true)) 12 0 (by kernel_rfl) (by kernel_rfl) (by kernel_rfl)) (fun _ => rfl), ?_⟩
  refine ⟨isVal (.bool false), step_move (.tmp 13) (by kernel_rfl) (wanted_none (by kernel_rfl)) (stable_val _) (knows_new (V := isVal (.bool false)) 13 1 (by kernel_rfl) (by kernel_rfl) (by kernel_rfl)), ?_⟩
  refine ⟨isVal (.iface 142 (.agg #[])), step_move (.tmp 4) (by kernel_rfl) (wanted_some 2 14 false (by kernel_rfl) (by kernel_rfl) (by kernel_rfl) (by kernel_rfl)) (stable_val _) (knows_old 4 (.iface 142 (.agg #[])) (by kernel_rfl) e4), ?_⟩
  refine ⟨isVal (.agg #[.int .i64 A.kind, .int .i64 A.time, .int .i64 A.node, .bool A.dead, .string ⟨A.text.toArray⟩, vp, vm, .int .u64 (A.flags.toNat : Int)]), step_loadN 40 (.tmp 1) (g) [.int .i64 A.kind, .int .i64 A.time, .int .i64 A.node, .bool A.dead, .string ⟨A.text.toArray⟩, vp, vm, .int .u64 (A.flags.toNat : Int)] (by kernel_rfl) (wanted_some 2 14 false (by kernel_rfl) (by kernel_rfl) (by kernel_rfl) (by kernel_rfl)) (knows_old 1 (.pointer (some ⟨g, 0, none⟩)) (by kernel_rfl) e1) size_va agg_va hc, ?_⟩
  refine ⟨isVal (.bool true), step_invoke "ouroboros/value.inRange" (.tmp 15) (.iface 142 (.agg #[])) 161 #[.tmp 16] #[40] #[.agg #[.int .i64 A.kind, .int .i64 A.time, .int .i64 A.node, .bool A.dead, .string ⟨A.text.toArray⟩, vp, vm, .int .u64 (A.flags.toNat : Int)]] #[.agg #[], .agg #[.int .i64 A.kind, .int .i64 A.time, .int .i64 A.node, .bool A.dead, .string ⟨A.text.toArray⟩, vp, vm, .int .u64 (A.flags.toNat : Int)]] (by kernel_rfl) (wanted_some 2 14 false (by kernel_rfl) (by kernel_rfl) (by kernel_rfl) (by kernel_rfl)) (stable_val _) (args1 (.tmp 16) (.agg #[.int .i64 A.kind, .int .i64 A.time, .int .i64 A.node, .bool A.dead, .string ⟨A.text.toArray⟩, vp, vm, .int .u64 (A.flags.toNat : Int)]) (knows_new (V := isVal (.agg #[.int .i64 A.kind, .int .i64 A.time, .int .i64 A.node, .bool A.dead, .string ⟨A.text.toArray⟩, vp, vm, .int .u64 (A.flags.toNat : Int)])) 16 4 (by kernel_rfl) (by kernel_rfl) (by kernel_rfl))) (knows_new (V := isVal (.iface 142 (.agg #[]))) 15 3 (by kernel_rfl) (by kernel_rfl) (by kernel_rfl)) (fun w => by kernel_rfl) (by intro w hb; exact call_regIn A true _ w (va_grow hX hb) hF hI), ?_⟩
  refine ⟨isVal (.bool false), step_un .not 4 (.tmp 17) (.bool true) (.bool false) (by kernel_rfl) (wanted_some 2 14 false (by kernel_rfl) (by kernel_rfl) (by kernel_rfl) (by kernel_rfl)) (knows_new (V := isVal (.bool true)) 17 5 (by kernel_rfl) (by kernel_rfl) (by kernel_rfl)) (fun _ => rfl), ?_⟩
  refine ⟨isVal (.bool false), step_pick (.tmp 14) (.const (.bool true)) (.tmp 18) false (by kernel_rfl) (wanted_none (by kernel_rfl)) (stable_val _) (knows_new (V := isVal (.bool false)) 14 2 (by kernel_rfl) (by kernel_rfl) (by kernel_rfl)) (knows_new (V := isVal (.bool false)) 18 6 (by kernel_rfl) (by kernel_rfl) (by kernel_rfl)), ?_⟩
  refine ⟨isVal (.bool false), step_move (.tmp 19) (by kernel_rfl) (wanted_none (by kernel_rfl)) (stable_val _) (knows_new (V := isVal (.bool false)) 19 7 (by kernel_rfl) (by kernel_rfl) (by kernel_rfl)), ?_⟩
  refine ⟨isVal (.agg #[.int .i64 A.kind, .int .i64 A.time, .int .i64 A.node, .bool A.dead, .string ⟨A.text.toArray⟩, vp, vm, .int .u64 (A.flags.toNat : Int)]), step_loadN 40 (.tmp 1) (g) [.int .i64 A.kind, .int .i64 A.time, .int .i64 A.node, .bool A.dead, .string ⟨A.text.toArray⟩, vp, vm, .int .u64 (A.flags.toNat : Int)] (by kernel_rfl) (wanted_some 8 20 false (by kernel_rfl) (by kernel_rfl) (by kernel_rfl) (by kernel_rfl)) (knows_old 1 (.pointer (some ⟨g, 0, none⟩)) (by kernel_rfl) e1) size_va agg_va hc, ?_⟩
  refine ⟨isVal (.iface 142 (.agg #[])), step_move (.tmp 4) (by kernel_rfl) (wanted_some 8 20 false (by kernel_rfl) (by kernel_rfl) (by kernel_rfl) (by kernel_rfl)) (stable_val _) (knows_old 4 (.iface 142 (.agg #[])) (by kernel_rfl) e4), ?_⟩
  refine ⟨isVal (.agg #[.int .i64 A.kind, .int .i64 A.time, .int .i64 A.node, .bool A.dead, .string ⟨A.text.toArray⟩, vp, vm, .int .u64 (A.flags.toNat : Int)]), step_loadN 40 (.tmp 1) (g) [.int .i64 A.kind, .int .i64 A.time, .int .i64 A.node, .bool A.dead, .string ⟨A.text.toArray⟩, vp, vm, .int .u64 (A.flags.toNat : Int)] (by kernel_rfl) (wanted_some 8 20 false (by kernel_rfl) (by kernel_rfl) (by kernel_rfl) (by kernel_rfl)) (knows_old 1 (.pointer (some ⟨g, 0, none⟩)) (by kernel_rfl) e1) size_va agg_va hc, ?_⟩
  refine ⟨(isVa (onlyReg A)), step_invoke "ouroboros/value.only" (.tmp 22) (.iface 142 (.agg #[])) 164 #[.tmp 23] #[40] #[.agg #[.int .i64 A.kind, .int .i64 A.time, .int .i64 A.node, .bool A.dead, .string ⟨A.text.toArray⟩, vp, vm, .int .u64 (A.flags.toNat : Int)]] #[.agg #[], .agg #[.int .i64 A.kind, .int .i64 A.time, .int .i64 A.node, .bool A.dead, .string ⟨A.text.toArray⟩, vp, vm, .int .u64 (A.flags.toNat : Int)]] (by kernel_rfl) (wanted_some 8 20 false (by kernel_rfl) (by kernel_rfl) (by kernel_rfl) (by kernel_rfl)) (stable_va _) (args1 (.tmp 23) (.agg #[.int .i64 A.kind, .int .i64 A.time, .int .i64 A.node, .bool A.dead, .string ⟨A.text.toArray⟩, vp, vm, .int .u64 (A.flags.toNat : Int)]) (knows_new (V := isVal (.agg #[.int .i64 A.kind, .int .i64 A.time, .int .i64 A.node, .bool A.dead, .string ⟨A.text.toArray⟩, vp, vm, .int .u64 (A.flags.toNat : Int)])) 23 11 (by kernel_rfl) (by kernel_rfl) (by kernel_rfl))) (knows_new (V := isVal (.iface 142 (.agg #[]))) 22 10 (by kernel_rfl) (by kernel_rfl) (by kernel_rfl)) (fun w => by kernel_rfl) (by intro w hb; exact call_regOnly A _ w (va_grow hX hb) hF), ?_⟩
  refine ⟨isVal (.bool (decide (A = onlyReg A))), step_callP 119 #[.tmp 21, .tmp 24] #[40, 40] (by kernel_rfl) (wanted_some 8 20 false (by kernel_rfl) (by kernel_rfl) (by kernel_rfl) (by kernel_rfl)) (stable_val _) (enters_of Tryz.func119 (by kernel_rfl) rfl) (fun vs w => ∃ u v, vs = #[u, v] ∧ isVal (.agg #[.int .i64 A.kind, .int .i64 A.time, .int .i64 A.node, .bool A.dead, .string ⟨A.text.toArray⟩, vp, vm, .int .u64 (A.flags.toNat : Int)]) u w ∧ isVa (onlyReg A) v w) (pre2 (knows_new (V := isVal (.agg #[.int .i64 A.kind, .int .i64 A.time, .int .i64 A.node, .bool A.dead, .string ⟨A.text.toArray⟩, vp, vm, .int .u64 (A.flags.toNat : Int)])) 21 9 (by kernel_rfl) (by kernel_rfl) (by kernel_rfl)) (knows_new (V := (isVa (onlyReg A))) 24 12 (by kernel_rfl) (by kernel_rfl) (by kernel_rfl))) (by rintro vs w hb ⟨u, v, rfl, rfl, hv⟩; exact call_same A (onlyReg A) _ v w (va_grow hX hb) hv hF (same_self A hF).1 (same_self A hF).2.1), ?_⟩
  refine ⟨isVal (.bool (!decide (A = onlyReg A))), step_un .not 4 (.tmp 25) (.bool (decide (A = onlyReg A))) (.bool (!decide (A = onlyReg A))) (by kernel_rfl) (wanted_some 8 20 false (by kernel_rfl) (by kernel_rfl) (by kernel_rfl) (by kernel_rfl)) (knows_new (V := isVal (.bool (decide (A = onlyReg A)))) 25 13 (by kernel_rfl) (by kernel_rfl) (by kernel_rfl)) (fun _ => rfl), ?_⟩
  refine ⟨isVal (.bool (!decide (A = onlyReg A))), step_pick (.tmp 20) (.const (.bool true)) (.tmp 26) false (by kernel_rfl) (wanted_none (by kernel_rfl)) (stable_val _) (knows_new (V := isVal (.bool false)) 20 8 (by kernel_rfl) (by kernel_rfl) (by kernel_rfl)) (knows_new (V := isVal (.bool (!decide (A = onlyReg A)))) 26 14 (by kernel_rfl) (by kernel_rfl) (by kernel_rfl)), ?_⟩
  intro a w hkp hb hd
  rw [kept_of hkp [some 12, some 13, some 14, some 15, some 16, some 17, some 18, some 19, some 20, some 21, some 22, some 23, some 24, some 25, some 26, some 27] [12, 13, 14, 15, 16, 17, 18, 19, 20, 21, 22, 23, 24, 25, 26, 27] (by kernel_rfl) (by decide)]
  have d27 := fdone_of (hd 15 (by rw [show kv_reg1Ops.size = 16 by kernel_rfl]; decide)) (t := 27) (V := isVal (.bool (!decide (A = onlyReg A)))) (by kernel_rfl) (by kernel_rfl)
  exact hQ (fun s => a.tmps.getD s undef) w d27 hb
set_option maxRecDepth 20000 in
set_option maxHeartbeats 1000000 in
theorem kv_reg1_any (A : Va) (v : Value) (w : World) (hv : isVa A v w) (hF : Fit A) (hk : A.kind = 1) (hI : inReg A = true) (z : Bool) (hz : decide (A = onlyReg A) = z) :
    Calls Tryz.prog 103 #[v] w fun e w' => e = .returned (.tuple #[ifaceK (if z = true then 1 else 0), .bool z]) ∧ Below w.heap.size w w' := by
  obtain ⟨vp, vm, rfl, hp, hm⟩ := hv
  obtain ⟨hB, hV⟩ := vbox w A vp vm hp hm w.heap.size rfl
  have hX := Kept.mk (show isVa A (.agg #[.int .i64 A.kind, .int .i64 A.time, .int .i64 A.node, .bool A.dead, .string ⟨A.text.toArray⟩, vp, vm, .int .u64 (A.flags.toNat : Int)]) (w.alloc (.cells #[.int .i64 A.kind, .int .i64 A.time, .int .i64 A.node, .bool A.dead, .string ⟨A.text.toArray⟩, vp, vm, .int .u64 (A.flags.toNat : Int)] 40)) from ⟨vp, vm, rfl, stable_cells _ _ _ _ hp hB.out, stable_cells _ _ _ _ hm hB.out⟩)
  have HC := Kept.mk (cellsN_at w 40 [.int .i64 A.kind, .int .i64 A.time, .int .i64 A.node, .bool A.dead, .string ⟨A.text.toArray⟩, vp, vm, .int .u64 (A.flags.toNat : Int)] w.heap.size rfl)
  have HK := Kept.mk (show kOf A.kind = 1 by rw [hk]; rfl)
  have HK2 := Kept.mk hk
  clear hp hm hV hk
  have HZ := Kept.mk hz
  clear hz
  have HI := Kept.mk hI
  clear hI
  go_enter Tryz.func103, Tryz.ntmps103
  go_wp2_with fail
  refine (kindOf_any A.kind _).mono ?_; rintro e w' ⟨rfl, rfl⟩
  rewrite [HK.out]
  go_wp2_with fail
  refine kv_reg1_region _ _ _ rfl A w.heap.size vp vm rfl rfl rfl HC.out hX.out hF HI.out ?_
  intro f9 W9 d27 hb9
  simp only [List.foldl_cons, List.foldl_nil, d27]
  generalize f9 12 = y12
  generalize f9 13 = y13
  generalize f9 14 = y14
  generalize f9 15 = y15
  generalize f9 16 = y16
  generalize f9 17 = y17
  generalize f9 18 = y18
  generalize f9 19 = y19
  generalize f9 20 = y20
  generalize f9 21 = y21
  generalize f9 22 = y22
  generalize f9 23 = y23
  generalize f9 24 = y24
  generalize f9 25 = y25
  generalize f9 26 = y26
  clear d27
  simp only [List.setIfInBounds_toArray, List.set_cons_succ, List.set_cons_zero]
  replace hB := Kept.mk (hB.out.trans (hb9.mono hB.out.size))
  clear hb9 hX HC
  rw [HZ.out]
  cases z
  · go_wp2
    go_ret2
    exact ⟨rfl, hB.out⟩
  · go_wp2
    go_ret2
    exact ⟨rfl, hB.out⟩
noncomputable def kv_count0Ops : Array Oper := regionOf Tryz.f103 2
set_option maxRecDepth 100000 in
set_option maxHeartbeats 2000000 in
theorem kv_count0_region (Q : Exit → Act → World → Prop) (a0 : Act) (w0 : World) (hsz : a0.tmps.size = 29) (A : Va) (g : Nat) (vp vm : Value) (e1 : a0.tmps.getD 1 undef = .pointer (some ⟨g, 0, none⟩)) (e4 : a0.tmps.getD 4 undef = (.iface 143 (.agg #[]))) (e5 : a0.tmps.getD 5 undef = .bool true) (hc : CellsN w0 g [.int .i64 A.kind, .int .i64 A.time, .int .i64 A.node, .bool A.dead, .string ⟨A.text.toArray⟩, vp, vm, .int .u64 (A.flags.toNat : Int)]) (hX : isVa A (.agg #[.int .i64 A.kind, .int .i64 A.time, .int .i64 A.node, .bool A.dead, .string ⟨A.text.toArray⟩, vp, vm, .int .u64 (A.flags.toNat : Int)]) w0) (hF : Fit A) (hI : inCount A = false)
    (hQ : ∀ (g : Nat → Value) (w : World), g 27 = .bool true → Below w0.heap.size w0 w → Q .normal { tmps := [12, 13, 14, 15, 16, 17, 18, 19, 20, 21, 22, 23, 24, 25, 26, 27].foldl (fun t s => t.setIfInBounds s (g s)) a0.tmps, defers := a0.defers } w) :
    (Code.region 2 kv_count0Ops true).wp Tryz.prog Q a0 w0 := by
  refine wp_region_flow mixed (by rw [hsz]; kernel_rfl) ?_
  rw [show kv_count0Ops.size = 16 by kernel_rfl]
  refine ⟨isVal (.bool true), step_move (.tmp 5) (by kernel_rfl) (wanted_none (by kernel_rfl)) (stable_val _) (knows_old 5 (.bool true) (by kernel_rfl) e5), ?_⟩
  refine ⟨isVal (.bool false), step_un .not 4 (.tmp 12) (.bool true) (.bool false) (by kernel_rfl) (wanted_none (by kernel_rfl)) (knows_new (V := isVal (.bool true)) 12 0 (by kernel_rfl) (by kernel_rfl) (by kernel_rfl)) (fun _ => rfl), ?_⟩
  refine ⟨isVal (.bool false), step_move (.tmp 13) (by kernel_rfl) (wanted_none (by kernel_rfl)) (stable_val _) (knows_new (V := isVal (.bool false)) 13 1 (by kernel_rfl) (by kernel_rfl) (by kernel_rfl)), ?_⟩
  refine ⟨isVal (.iface 143 (.agg #[])), step_move (.tmp 4) (by kernel_rfl) (wanted_some 2 14 false (by kernel_rfl) (by kernel_rfl) (by kernel_rfl) (by kernel_rfl)) (stable_val _) (knows_old 4 (.iface 143 (.agg #[])) (by kernel_rfl) e4), ?_⟩
  refine ⟨isVal (.agg #[.int .i64 A.kind, .int .i64 A.time, .int .i64 A.node, .bool A.dead, .string ⟨A.text.toArray⟩, vp, vm, .int .u64 (A.flags.toNat : Int)]), step_loadN 40 (.tmp 1) (g) [.int .i64 A.kind, .int .i64 A.time, .int .i64 A.node, .bool A.dead, .string ⟨A.text.toArray⟩, vp, vm, .int .u64 (A.flags.toNat : Int)] (by kernel_rfl) (wanted_some 2 14 false (by kernel_rfl) (by kernel_rfl) (by kernel_rfl) (by kernel_rfl)) (knows_old 1 (.pointer (some ⟨g, 0, none⟩)) (by kernel_rfl) e1) size_va agg_va hc, ?_⟩
  refine ⟨isVal (.bool false), step_invoke "ouroboros/value.inRange" (.tmp 15) (.iface 143 (.agg #[])) 173 #[.tmp 16] #[40] #[.agg #[.int .i64 A.kind, .int .i64 A.time, .int .i64 A.node, .bool A.dead, .string ⟨A.text.toArray⟩, vp, vm, .int .u64 (A.flags.toNat : Int)]] #[.agg #[], .agg #[.int .i64 A.kind, .int .i64 A.time, .int .i64 A.node, .bool A.dead, .string ⟨A.text.toArray⟩, vp, vm, .int .u64 (A.flags.toNat : Int)]] (by kernel_rfl) (wanted_some 2 14 false (by kernel_rfl) (by kernel_rfl) (by kernel_rfl) (by kernel_rfl)) (stable_val _) (args1 (.tmp 16) (.agg #[.int .i64 A.kind, .int .i64 A.time, .int .i64 A.node, .bool A.dead, .string ⟨A.text.toArray⟩, vp, vm, .int .u64 (A.flags.toNat : Int)]) (knows_new (V := isVal (.agg #[.int .i64 A.kind, .int .i64 A.time, .int .i64 A.node, .bool A.dead, .string ⟨A.text.toArray⟩, vp, vm, .int .u64 (A.flags.toNat : Int)])) 16 4 (by kernel_rfl) (by kernel_rfl) (by kernel_rfl))) (knows_new (V := isVal (.iface 143 (.agg #[]))) 15 3 (by kernel_rfl) (by kernel_rfl) (by kernel_rfl)) (fun w => by kernel_rfl) (by intro w hb; exact call_countIn A false _ w (va_grow hX hb) hF hI), ?_⟩
  refine ⟨isVal (.bool true), step_un .not 4 (.tmp 17) (.bool false) (.bool true) (by kernel_rfl) (wanted_some 2 14 false (by kernel_rfl) (by kernel_rfl) (by kernel_rfl) (by kernel_rfl)) (knows_new (V := isVal (.bool false)) 17 5 (by kernel_rfl) (by kernel_rfl) (by kernel_rfl)) (fun _ => rfl), ?_⟩
  refine ⟨isVal (.bool true), step_pick (.tmp 14) (.const (.bool true)) (.tmp 18) false (by kernel_rfl) (wanted_none (by kernel_rfl)) (stable_val _) (knows_new (V := isVal (.bool false)) 14 2 (by kernel_rfl) (by kernel_rfl) (by kernel_rfl)) (knows_new (V := isVal (.bool true)) 18 6 (by kernel_rfl) (by kernel_rfl) (by kernel_rfl)), ?_⟩
  refine ⟨isVal (.bool true), step_move (.tmp 19) (by kernel_rfl) (wanted_none (by kernel_rfl)) (stable_val _) (knows_new (V := isVal (.bool true)) 19 7 (by kernel_rfl) (by kernel_rfl) (by kernel_rfl)), ?_⟩
  refine ⟨_, step_skip 8 20 false true (by kernel_rfl) (by kernel_rfl) (by kernel_rfl) (by kernel_rfl) rfl, ?_⟩
  refine ⟨_, step_skip 8 20 false true (by kernel_rfl) (by kernel_rfl) (by kernel_rfl) (by kernel_rfl) rfl, ?_⟩
  refine ⟨_, step_skip 8 20 false true (by kernel_rfl) (by kernel_rfl) (by kernel_rfl) (by kernel_rfl) rfl, ?_⟩
  refine ⟨_, step_skip 8 20 false true (by kernel_rfl) (by kernel_rfl) (by kernel_rfl) (by kernel_rfl) rfl, ?_⟩
  refine ⟨_, step_skip 8 20 false true (by kernel_rfl) (by kernel_rfl) (by kernel_rfl) (by kernel_rfl) rfl, ?_⟩
  refine ⟨_, step_skip 8 20 false true (by kernel_rfl) (by kernel_rfl) (by kernel_rfl) (by kernel_rfl) rfl, ?_⟩
  refine ⟨isVal (.bool true), step_pick (.tmp 20) (.const (.bool true)) (.tmp 26) true (by kernel_rfl) (wanted_none (by kernel_rfl)) (stable_val _) (knows_new (V := isVal (.bool true)) 20 8 (by kernel_rfl) (by kernel_rfl) (by kernel_rfl)) (knows_const _), ?_⟩
  intro a w hkp hb hd
  rw [kept_of hkp [some 12, some 13, some 14, some 15, some 16, some 17, some 18, some 19, some 20, some 21, some 22, some 23, some 24, some 25, some 26, some 27] [12, 13, 14, 15, 16, 17, 18, 19, 20, 21, 22, 23, 24, 25, 26, 27] (by kernel_rfl) (by decide)]
  have d27 := fdone_of (hd 15 (by rw [show kv_count0Ops.size = 16 by kernel_rfl]; decide)) (t := 27) (V := isVal (.bool true)) (by kernel_rfl) (by kernel_rfl)
  exact hQ (fun s => a.tmps.getD s undef) w d27 hb
set_option maxRecDepth 20000 in
set_option maxHeartbeats 1000000 in
theorem kv_count0_any (A : Va) (v : Value) (w : World) (hv : isVa A v w) (hF : Fit A) (hk : A.kind = 2) (hI : inCount A = false) :
    Calls Tryz.prog 103 #[v] w fun e w' => e = .returned (.tuple #[ifaceK 0, .bool false]) ∧ Below w.heap.size w w' := by
  obtain ⟨vp, vm, rfl, hp, hm⟩ := hv
  obtain ⟨hB, hV⟩ := vbox w A vp vm hp hm w.heap.size rfl
  have hX := Kept.mk (show isVa A (.agg #[.int .i64 A.kind, .int .i64 A.time, .int .i64 A.node, .bool A.dead, .string ⟨A.text.toArray⟩, vp, vm, .int .u64 (A.flags.toNat : Int)]) (w.alloc (.cells #[.int .i64 A.kind, .int .i64 A.time, .int .i64 A.node, .bool A.dead, .string ⟨A.text.toArray⟩, vp, vm, .int .u64 (A.flags.toNat : Int)] 40)) from ⟨vp, vm, rfl, stable_cells _ _ _ _ hp hB.out, stable_cells _ _ _ _ hm hB.out⟩)
  have HC := Kept.mk (cellsN_at w 40 [.int .i64 A.kind, .int .i64 A.time, .int .i64 A.node, .bool A.dead, .string ⟨A.text.toArray⟩, vp, vm, .int .u64 (A.flags.toNat : Int)] w.heap.size rfl)
  have HK := Kept.mk (show kOf A.kind = 2 by rw [hk]; rfl)
  have HK2 := Kept.mk hk
  clear hp hm hV hk
  have HI := Kept.mk hI
  clear hI
  go_enter Tryz.func103, Tryz.ntmps103
  go_wp2_with fail
  refine (kindOf_any A.kind _).mono ?_; rintro e w' ⟨rfl, rfl⟩
  rewrite [HK.out]
  go_wp2_with fail
  refine kv_count0_region _ _ _ rfl A w.heap.size vp vm rfl rfl rfl HC.out hX.out hF HI.out ?_
  intro f9 W9 d27 hb9
  simp only [List.foldl_cons, List.foldl_nil, d27]
  generalize f9 12 = y12
  generalize f9 13 = y13
  generalize f9 14 = y14
  generalize f9 15 = y15
  generalize f9 16 = y16
  generalize f9 17 = y17
  generalize f9 18 = y18
  generalize f9 19 = y19
  generalize f9 20 = y20
  generalize f9 21 = y21
  generalize f9 22 = y22
  generalize f9 23 = y23
  generalize f9 24 = y24
  generalize f9 25 = y25
  generalize f9 26 = y26
  clear d27
  simp only [List.setIfInBounds_toArray, List.set_cons_succ, List.set_cons_zero]
  replace hB := Kept.mk (hB.out.trans (hb9.mono hB.out.size))
  clear hb9 hX HC
  go_wp2
  go_ret2
  exact ⟨rfl, hB.out⟩
noncomputable def kv_count1Ops : Array Oper := regionOf Tryz.f103 2
set_option maxRecDepth 100000 in
set_option maxHeartbeats 2000000 in
theorem kv_count1_region (Q : Exit → Act → World → Prop) (a0 : Act) (w0 : World) (hsz : a0.tmps.size = 29) (A : Va) (g : Nat) (vp vm : Value) (e1 : a0.tmps.getD 1 undef = .pointer (some ⟨g, 0, none⟩)) (e4 : a0.tmps.getD 4 undef = (.iface 143 (.agg #[]))) (e5 : a0.tmps.getD 5 undef = .bool true) (hc : CellsN w0 g [.int .i64 A.kind, .int .i64 A.time, .int .i64 A.node, .bool A.dead, .string ⟨A.text.toArray⟩, vp, vm, .int .u64 (A.flags.toNat : Int)]) (hX : isVa A (.agg #[.int .i64 A.kind, .int .i64 A.time, .int .i64 A.node, .bool A.dead, .string ⟨A.text.toArray⟩, vp, vm, .int .u64 (A.flags.toNat : Int)]) w0) (hF : Fit A) (hI : inCount A = true)
    (hQ : ∀ (g : Nat → Value) (w : World), g 27 = .bool (!decide (A = onlyCount A)) → Below w0.heap.size w0 w → Q .normal { tmps := [12, 13, 14, 15, 16, 17, 18, 19, 20, 21, 22, 23, 24, 25, 26, 27].foldl (fun t s => t.setIfInBounds s (g s)) a0.tmps, defers := a0.defers } w) :
    (Code.region 2 kv_count1Ops true).wp Tryz.prog Q a0 w0 := by
  refine wp_region_flow mixed (by rw [hsz]; kernel_rfl) ?_
  rw [show kv_count1Ops.size = 16 by kernel_rfl]
  refine ⟨isVal (.bool true), step_move (.tmp 5) (by kernel_rfl) (wanted_none (by kernel_rfl)) (stable_val _) (knows_old 5 (.bool true) (by kernel_rfl) e5), ?_⟩
  refine ⟨isVal (.bool false), step_un .not 4 (.tmp 12) (.bool true) (.bool false) (by kernel_rfl) (wanted_none (by kernel_rfl)) (knows_new (V := isVal (.bool true)) 12 0 (by kernel_rfl) (by kernel_rfl) (by kernel_rfl)) (fun _ => rfl), ?_⟩
  refine ⟨isVal (.bool false), step_move (.tmp 13) (by kernel_rfl) (wanted_none (by kernel_rfl)) (stable_val _) (knows_new (V := isVal (.bool false)) 13 1 (by kernel_rfl) (by kernel_rfl) (by kernel_rfl)), ?_⟩
  refine ⟨isVal (.iface 143 (.agg #[])), step_move (.tmp 4) (by kernel_rfl) (wanted_some 2 14 false (by kernel_rfl) (by kernel_rfl) (by kernel_rfl) (by kernel_rfl)) (stable_val _) (knows_old 4 (.iface 143 (.agg #[])) (by kernel_rfl) e4), ?_⟩
  refine ⟨isVal (.agg #[.int .i64 A.kind, .int .i64 A.time, .int .i64 A.node, .bool A.dead, .string ⟨A.text.toArray⟩, vp, vm, .int .u64 (A.flags.toNat : Int)]), step_loadN 40 (.tmp 1) (g) [.int .i64 A.kind, .int .i64 A.time, .int .i64 A.node, .bool A.dead, .string ⟨A.text.toArray⟩, vp, vm, .int .u64 (A.flags.toNat : Int)] (by kernel_rfl) (wanted_some 2 14 false (by kernel_rfl) (by kernel_rfl) (by kernel_rfl) (by kernel_rfl)) (knows_old 1 (.pointer (some ⟨g, 0, none⟩)) (by kernel_rfl) e1) size_va agg_va hc, ?_⟩
  refine ⟨isVal (.bool true), step_invoke "ouroboros/value.inRange" (.tmp 15) (.iface 143 (.agg #[])) 173 #[.tmp 16] #[40] #[.agg #[.int .i64 A.kind, .int .i64 A.time, .int .i64 A.node, .bool A.dead, .string ⟨A.text.toArray⟩, vp, vm, .int .u64 (A.flags.toNat : Int)]] #[.agg #[], .agg #[.int .i64 A.kind, .int .i64 A.time, .int .i64 A.node, .bool A.dead, .string ⟨A.text.toArray⟩, vp, vm, .int .u64 (A.flags.toNat : Int)]] (by kernel_rfl) (wanted_some 2 14 false (by kernel_rfl) (by kernel_rfl) (by kernel_rfl) (by kernel_rfl)) (stable_val _) (args1 (.tmp 16) (.agg #[.int .i64 A.kind, .int .i64 A.time, .int .i64 A.node, .bool A.dead, .string ⟨A.text.toArray⟩, vp, vm, .int .u64 (A.flags.toNat : Int)]) (knows_new (V := isVal (.agg #[.int .i64 A.kind, .int .i64 A.time, .int .i64 A.node, .bool A.dead, .string ⟨A.text.toArray⟩, vp, vm, .int .u64 (A.flags.toNat : Int)])) 16 4 (by kernel_rfl) (by kernel_rfl) (by kernel_rfl))) (knows_new (V := isVal (.iface 143 (.agg #[]))) 15 3 (by kernel_rfl) (by kernel_rfl) (by kernel_rfl)) (fun w => by kernel_rfl) (by intro w hb; exact call_countIn A true _ w (va_grow hX hb) hF hI), ?_⟩
  refine ⟨isVal (.bool false), step_un .not 4 (.tmp 17) (.bool true) (.bool false) (by kernel_rfl) (wanted_some 2 14 false (by kernel_rfl) (by kernel_rfl) (by kernel_rfl) (by kernel_rfl)) (knows_new (V := isVal (.bool true)) 17 5 (by kernel_rfl) (by kernel_rfl) (by kernel_rfl)) (fun _ => rfl), ?_⟩
  refine ⟨isVal (.bool false), step_pick (.tmp 14) (.const (.bool true)) (.tmp 18) false (by kernel_rfl) (wanted_none (by kernel_rfl)) (stable_val _) (knows_new (V := isVal (.bool false)) 14 2 (by kernel_rfl) (by kernel_rfl) (by kernel_rfl)) (knows_new (V := isVal (.bool false)) 18 6 (by kernel_rfl) (by kernel_rfl) (by kernel_rfl)), ?_⟩
  refine ⟨isVal (.bool false), step_move (.tmp 19) (by kernel_rfl) (wanted_none (by kernel_rfl)) (stable_val _) (knows_new (V := isVal (.bool false)) 19 7 (by kernel_rfl) (by kernel_rfl) (by kernel_rfl)), ?_⟩
  refine ⟨isVal (.agg #[.int .i64 A.kind, .int .i64 A.time, .int .i64 A.node, .bool A.dead, .string ⟨A.text.toArray⟩, vp, vm, .int .u64 (A.flags.toNat : Int)]), step_loadN 40 (.tmp 1) (g) [.int .i64 A.kind, .int .i64 A.time, .int .i64 A.node, .bool A.dead, .string ⟨A.text.toArray⟩, vp, vm, .int .u64 (A.flags.toNat : Int)] (by kernel_rfl) (wanted_some 8 20 false (by kernel_rfl) (by kernel_rfl) (by kernel_rfl) (by kernel_rfl)) (knows_old 1 (.pointer (some ⟨g, 0, none⟩)) (by kernel_rfl) e1) size_va agg_va hc, ?_⟩
  refine ⟨isVal (.iface 143 (.agg #[])), step_move (.tmp 4) (by kernel_rfl) (wanted_some 8 20 false (by kernel_rfl) (by kernel_rfl) (by kernel_rfl) (by kernel_rfl)) (stable_val _) (knows_old 4 (.iface 143 (.agg #[])) (by kernel_rfl) e4), ?_⟩
  refine ⟨isVal (.agg #[.int .i64 A.kind, .int .i64 A.time, .int .i64 A.node, .bool A.dead, .string ⟨A.text.toArray⟩, vp, vm, .int .u64 (A.flags.toNat : Int)]), step_loadN 40 (.tmp 1) (g) [.int .i64 A.kind, .int .i64 A.time, .int .i64 A.node, .bool A.dead, .string ⟨A.text.toArray⟩, vp, vm, .int .u64 (A.flags.toNat : Int)] (by kernel_rfl) (wanted_some 8 20 false (by kernel_rfl) (by kernel_rfl) (by kernel_rfl) (by kernel_rfl)) (knows_old 1 (.pointer (some ⟨g, 0, none⟩)) (by kernel_rfl) e1) size_va agg_va hc, ?_⟩
  refine ⟨(isVa (onlyCount A)), step_invoke "ouroboros/value.only" (.tmp 22) (.iface 143 (.agg #[])) 176 #[.tmp 23] #[40] #[.agg #[.int .i64 A.kind, .int .i64 A.time, .int .i64 A.node, .bool A.dead, .string ⟨A.text.toArray⟩, vp, vm, .int .u64 (A.flags.toNat : Int)]] #[.agg #[], .agg #[.int .i64 A.kind, .int .i64 A.time, .int .i64 A.node, .bool A.dead, .string ⟨A.text.toArray⟩, vp, vm, .int .u64 (A.flags.toNat : Int)]] (by kernel_rfl) (wanted_some 8 20 false (by kernel_rfl) (by kernel_rfl) (by kernel_rfl) (by kernel_rfl)) (stable_va _) (args1 (.tmp 23) (.agg #[.int .i64 A.kind, .int .i64 A.time, .int .i64 A.node, .bool A.dead, .string ⟨A.text.toArray⟩, vp, vm, .int .u64 (A.flags.toNat : Int)]) (knows_new (V := isVal (.agg #[.int .i64 A.kind, .int .i64 A.time, .int .i64 A.node, .bool A.dead, .string ⟨A.text.toArray⟩, vp, vm, .int .u64 (A.flags.toNat : Int)])) 23 11 (by kernel_rfl) (by kernel_rfl) (by kernel_rfl))) (knows_new (V := isVal (.iface 143 (.agg #[]))) 22 10 (by kernel_rfl) (by kernel_rfl) (by kernel_rfl)) (fun w => by kernel_rfl) (by intro w hb; exact call_countOnly A _ w (va_grow hX hb) hF), ?_⟩
  refine ⟨isVal (.bool (decide (A = onlyCount A))), step_callP 119 #[.tmp 21, .tmp 24] #[40, 40] (by kernel_rfl) (wanted_some 8 20 false (by kernel_rfl) (by kernel_rfl) (by kernel_rfl) (by kernel_rfl)) (stable_val _) (enters_of Tryz.func119 (by kernel_rfl) rfl) (fun vs w => ∃ u v, vs = #[u, v] ∧ isVal (.agg #[.int .i64 A.kind, .int .i64 A.time, .int .i64 A.node, .bool A.dead, .string ⟨A.text.toArray⟩, vp, vm, .int .u64 (A.flags.toNat : Int)]) u w ∧ isVa (onlyCount A) v w) (pre2 (knows_new (V := isVal (.agg #[.int .i64 A.kind, .int .i64 A.time, .int .i64 A.node, .bool A.dead, .string ⟨A.text.toArray⟩, vp, vm, .int .u64 (A.flags.toNat : Int)])) 21 9 (by kernel_rfl) (by kernel_rfl) (by kernel_rfl)) (knows_new (V := (isVa (onlyCount A))) 24 12 (by kernel_rfl) (by kernel_rfl) (by kernel_rfl))) (by rintro vs w hb ⟨u, v, rfl, rfl, hv⟩; exact call_same A (onlyCount A) _ v w (va_grow hX hb) hv hF (same_self A hF).2.2.1 (same_self A hF).2.2.2.1), ?_⟩
  refine ⟨isVal (.bool (!decide (A = onlyCount A))), step_un .not 4 (.tmp 25) (.bool (decide (A = onlyCount A))) (.bool (!decide (A = onlyCount A))) (by kernel_rfl) (wanted_some 8 20 false (by kernel_rfl) (by kernel_rfl) (by kernel_rfl) (by kernel_rfl)) (knows_new (V := isVal (.bool (decide (A = onlyCount A)))) 25 13 (by kernel_rfl) (by kernel_rfl) (by kernel_rfl)) (fun _ => rfl), ?_⟩
  refine ⟨isVal (.bool (!decide (A = onlyCount A))), step_pick (.tmp 20) (.const (.bool true)) (.tmp 26) false (by kernel_rfl) (wanted_none (by kernel_rfl)) (stable_val _) (knows_new (V := isVal (.bool false)) 20 8 (by kernel_rfl) (by kernel_rfl) (by kernel_rfl)) (knows_new (V := isVal (.bool (!decide (A = onlyCount A)))) 26 14 (by kernel_rfl) (by kernel_rfl) (by kernel_rfl)), ?_⟩
  intro a w hkp hb hd
  rw [kept_of hkp [some 12, some 13, some 14, some 15, some 16, some 17, some 18, some 19, some 20, some 21, some 22, some 23, some 24, some 25, some 26, some 27] [12, 13, 14, 15, 16, 17, 18, 19, 20, 21, 22, 23, 24, 25, 26, 27] (by kernel_rfl) (by decide)]
  have d27 := fdone_of (hd 15 (by rw [show kv_count1Ops.size = 16 by kernel_rfl]; decide)) (t := 27) (V := isVal (.bool (!decide (A = onlyCount A)))) (by kernel_rfl) (by kernel_rfl)
  exact hQ (fun s => a.tmps.getD s undef) w d27 hb
set_option maxRecDepth 20000 in
set_option maxHeartbeats 1000000 in
theorem kv_count1_any (A : Va) (v : Value) (w : World) (hv : isVa A v w) (hF : Fit A) (hk : A.kind = 2) (hI : inCount A = true) (z : Bool) (hz : decide (A = onlyCount A) = z) :
    Calls Tryz.prog 103 #[v] w fun e w' => e = .returned (.tuple #[ifaceK (if z = true then 2 else 0), .bool z]) ∧ Below w.heap.size w w' := by
  obtain ⟨vp, vm, rfl, hp, hm⟩ := hv
  obtain ⟨hB, hV⟩ := vbox w A vp vm hp hm w.heap.size rfl
  have hX := Kept.mk (show isVa A (.agg #[.int .i64 A.kind, .int .i64 A.time, .int .i64 A.node, .bool A.dead, .string ⟨A.text.toArray⟩, vp, vm, .int .u64 (A.flags.toNat : Int)]) (w.alloc (.cells #[.int .i64 A.kind, .int .i64 A.time, .int .i64 A.node, .bool A.dead, .string ⟨A.text.toArray⟩, vp, vm, .int .u64 (A.flags.toNat : Int)] 40)) from ⟨vp, vm, rfl, stable_cells _ _ _ _ hp hB.out, stable_cells _ _ _ _ hm hB.out⟩)
  have HC := Kept.mk (cellsN_at w 40 [.int .i64 A.kind, .int .i64 A.time, .int .i64 A.node, .bool A.dead, .string ⟨A.text.toArray⟩, vp, vm, .int .u64 (A.flags.toNat : Int)] w.heap.size rfl)
  have HK := Kept.mk (show kOf A.kind = 2 by rw [hk]; rfl)
  have HK2 := Kept.mk hk
  clear hp hm hV hk
  have HZ := Kept.mk hz
  clear hz
  have HI := Kept.mk hI
  clear hI
  go_enter Tryz.func103, Tryz.ntmps103
  go_wp2_with fail
  refine (kindOf_any A.kind _).mono ?_; rintro e w' ⟨rfl, rfl⟩
  rewrite [HK.out]
  go_wp2_with fail
  refine kv_count1_region _ _ _ rfl A w.heap.size vp vm rfl rfl rfl HC.out hX.out hF HI.out ?_
  intro f9 W9 d27 hb9
  simp only [List.foldl_cons, List.foldl_nil, d27]
  generalize f9 12 = y12
  generalize f9 13 = y13
  generalize f9 14 = y14
  generalize f9 15 = y15
  generalize f9 16 = y16
  generalize f9 17 = y17
  generalize f9 18 = y18
  generalize f9 19 = y19
  generalize f9 20 = y20
  generalize f9 21 = y21
  generalize f9 22 = y22
  generalize f9 23 = y23
  generalize f9 24 = y24
  generalize f9 25 = y25
  generalize f9 26 = y26
  clear d27
  simp only [List.setIfInBounds_toArray, List.set_cons_succ, List.set_cons_zero]
  replace hB := Kept.mk (hB.out.trans (hb9.mono hB.out.size))
  clear hb9 hX HC
  rw [HZ.out]
  cases z
  · go_wp2
    go_ret2
    exact ⟨rfl, hB.out⟩
  · go_wp2
    go_ret2
    exact ⟨rfl, hB.out⟩
noncomputable def kv_flags1Ops : Array Oper := regionOf Tryz.f103 2
set_option maxRecDepth 100000 in
set_option maxHeartbeats 2000000 in
theorem kv_flags1_region (Q : Exit → Act → World → Prop) (a0 : Act) (w0 : World) (hsz : a0.tmps.size = 29) (A : Va) (g : Nat) (vp vm : Value) (e1 : a0.tmps.getD 1 undef = .pointer (some ⟨g, 0, none⟩)) (e4 : a0.tmps.getD 4 undef = (.iface 144 (.agg #[]))) (e5 : a0.tmps.getD 5 undef = .bool true) (hc : CellsN w0 g [.int .i64 A.kind, .int .i64 A.time, .int .i64 A.node, .bool A.dead, .string ⟨A.text.toArray⟩, vp, vm, .int .u64 (A.flags.toNat : Int)]) (hX : isVa A (.agg #[.int .i64 A.kind, .int .i64 A.time, .int .i64 A.node, .bool A.dead, .string ⟨A.text.toArray⟩, vp, vm, .int .u64 (A.flags.toNat : Int)]) w0) (hF : Fit A) (hI : true = true)
    (hQ : ∀ (g : Nat → Value) (w : World), g 27 = .bool (!decide (A = onlyFlags A)) → Below w0.heap.size w0 w → Q .normal { tmps := [12, 13, 14, 15, 16, 17, 18, 19, 20, 21, 22, 23, 24, 25, 26, 27].foldl (fun t s => t.setIfInBounds s (g s)) a0.tmps, defers := a0.defers } w) :
    (Code.region 2 kv_flags1Ops true).wp Tryz.prog Q a0 w0 := by
  refine wp_region_flow mixed (by rw [hsz]; kernel_rfl) ?_
  rw [show kv_flags1Ops.size = 16 by kernel_rfl]
  refine ⟨isVal (.bool true), step_move (.tmp 5) (by kernel_rfl) (wanted_none (by kernel_rfl)) (stable_val _) (knows_old 5 (.bool true) (by kernel_rfl) e5), ?_⟩
  refine ⟨isVal (.bool false), step_un .not 4 (.tmp 12) (.bool true) (.bool false) (by kernel_rfl) (wanted_none (by kernel_rfl)) (knows_new (V := isVal (.bool true)) 12 0 (by kernel_rfl) (by kernel_rfl) (by kernel_rfl)) (fun _ => rfl), ?_⟩
  refine ⟨isVal (.bool false), step_move (.tmp 13) (by kernel_rfl) (wanted_none (by kernel_rfl)) (stable_val _) (knows_new (V := isVal (.bool false)) 13 1 (by kernel_rfl) (by kernel_rfl) (by kernel_rfl)), ?_⟩
  refine ⟨isVal (.iface 144 (.agg #[])), step_move (.tmp 4) (by kernel_rfl) (wanted_some 2 14 false (by kernel_rfl) (by kernel_rfl) (by kernel_rfl) (by kernel_rfl)) (stable_val _) (knows_old 4 (.iface 144 (.agg #[])) (by kernel_rfl) e4), ?_⟩
  refine ⟨isVal (.agg #[.int .i64 A.kind, .int .i64 A.time, .int .i64 A.node, .bool A.dead, .string ⟨A.text.toArray⟩, vp, vm, .int .u64 (A.flags.toNat : Int)]), step_loadN 40 (.tmp 1) (g) [.int .i64 A.kind, .int .i64 A.time, .int .i64 A.node, .bool A.dead, .string ⟨A.text.toArray⟩, vp, vm, .int .u64 (A.flags.toNat : Int)] (by kernel_rfl) (wanted_some 2 14 false (by kernel_rfl) (by kernel_rfl) (by kernel_rfl) (by kernel_rfl)) (knows_old 1 (.pointer (some ⟨g, 0, none⟩)) (by kernel_rfl) e1) size_va agg_va hc, ?_⟩
  refine ⟨isVal (.bool true), step_invoke "ouroboros/value.inRange" (.tmp 15) (.iface 144 (.agg #[])) 187 #[.tmp 16] #[40] #[.agg #[.int .i64 A.kind, .int .i64 A.time, .int .i64 A.node, .bool A.dead, .string ⟨A.text.toArray⟩, vp, vm, .int .u64 (A.flags.toNat : Int)]] #[.agg #[], .agg #[.int .i64 A.kind, .int .i64 A.time, .int .i64 A.node, .bool A.dead, .string ⟨A.text.toArray⟩, vp, vm, .int .u64 (A.flags.toNat : Int)]] (by kernel_rfl) (wanted_some 2 14 false (by kernel_rfl) (by kernel_rfl) (by kernel_rfl) (by kernel_rfl)) (stable_val _) (args1 (.tmp 16) (.agg #[.int .i64 A.kind, .int .i64 A.time, .int .i64 A.node, .bool A.dead, .string ⟨A.text.toArray⟩, vp, vm, .int .u64 (A.flags.toNat : Int)]) (knows_new (V := isVal (.agg #[.int .i64 A.kind, .int .i64 A.time, .int .i64 A.node, .bool A.dead, .string ⟨A.text.toArray⟩, vp, vm, .int .u64 (A.flags.toNat : Int)])) 16 4 (by kernel_rfl) (by kernel_rfl) (by kernel_rfl))) (knows_new (V := isVal (.iface 144 (.agg #[]))) 15 3 (by kernel_rfl) (by kernel_rfl) (by kernel_rfl)) (fun w => by kernel_rfl) (by intro w hb; exact call_flagsIn A true _ w (va_grow hX hb) hF hI), ?_⟩
  refine ⟨isVal (.bool false), step_un .not 4 (.tmp 17) (.bool true) (.bool false) (by kernel_rfl) (wanted_some 2 14 false (by kernel_rfl) (by kernel_rfl) (by kernel_rfl) (by kernel_rfl)) (knows_new (V := isVal (.bool true)) 17 5 (by kernel_rfl) (by kernel_rfl) (by kernel_rfl)) (fun _ => rfl), ?_⟩
  refine ⟨isVal (.bool false), step_pick (.tmp 14) (.const (.bool true)) (.tmp 18) false (by kernel_rfl) (wanted_none (by kernel_rfl)) (stable_val _) (knows_new (V := isVal (.bool false)) 14 2 (by kernel_rfl) (by kernel_rfl) (by kernel_rfl)) (knows_new (V := isVal (.bool false)) 18 6 (by kernel_rfl) (by kernel_rfl) (by kernel_rfl)), ?_⟩
  refine ⟨isVal (.bool false), step_move (.tmp 19) (by kernel_rfl) (wanted_none (by kernel_rfl)) (stable_val _) (knows_new (V := isVal (.bool false)) 19 7 (by kernel_rfl) (by kernel_rfl) (by kernel_rfl)), ?_⟩
  refine ⟨isVal (.agg #[.int .i64 A.kind, .int .i64 A.time, .int .i64 A.node, .bool A.dead, .string ⟨A.text.toArray⟩, vp, vm, .int .u64 (A.flags.toNat : Int)]), step_loadN 40 (.tmp 1) (g) [.int .i64 A.kind, .int .i64 A.time, .int .i64 A.node, .bool A.dead, .string ⟨A.text.toArray⟩, vp, vm, .int .u64 (A.flags.toNat : Int)] (by kernel_rfl) (wanted_some 8 20 false (by kernel_rfl) (by kernel_rfl) (by kernel_rfl) (by kernel_rfl)) (knows_old 1 (.pointer (some ⟨g, 0, none⟩)) (by kernel_rfl) e1) size_va agg_va hc, ?_⟩
  refine ⟨isVal (.iface 144 (.agg #[])), step_move (.tmp 4) (by kernel_rfl) (wanted_some 8 20 false (by kernel_rfl) (by kernel_rfl) (by kernel_rfl) (by kernel_rfl)) (stable_val _) (knows_old 4 (.iface 144 (.agg #[])) (by kernel_rfl) e4), ?_⟩
  refine ⟨isVal (.agg #[.int .i64 A.kind, .int .i64 A.time, .int .i64 A.node, .bool A.dead, .string ⟨A.text.toArray⟩, vp, vm, .int .u64 (A.flags.toNat : Int)]), step_loadN 40 (.tmp 1) (g) [.int .i64 A.kind, .int .i64 A.time, .int .i64 A.node, .bool A.dead, .string ⟨A.text.toArray⟩, vp, vm, .int .u64 (A.flags.toNat : Int)] (by kernel_rfl) (wanted_some 8 20 false (by kernel_rfl) (by kernel_rfl) (by kernel_rfl) (by kernel_rfl)) (knows_old 1 (.pointer (some ⟨g, 0, none⟩)) (by kernel_rfl) e1) size_va agg_va hc, ?_⟩
  refine ⟨(isVa (onlyFlags A)), step_invoke "ouroboros/value.only" (.tmp 22) (.iface 144 (.agg #[])) 190 #[.tmp 23] #[40] #[.agg #[.int .i64 A.kind, .int .i64 A.time, .int .i64 A.node, .bool A.dead, .string ⟨A.text.toArray⟩, vp, vm, .int .u64 (A.flags.toNat : Int)]] #[.agg #[], .agg #[.int .i64 A.kind, .int .i64 A.time, .int .i64 A.node, .bool A.dead, .string ⟨A.text.toArray⟩, vp, vm, .int .u64 (A.flags.toNat : Int)]] (by kernel_rfl) (wanted_some 8 20 false (by kernel_rfl) (by kernel_rfl) (by kernel_rfl) (by kernel_rfl)) (stable_va _) (args1 (.tmp 23) (.agg #[.int .i64 A.kind, .int .i64 A.time, .int .i64 A.node, .bool A.dead, .string ⟨A.text.toArray⟩, vp, vm, .int .u64 (A.flags.toNat : Int)]) (knows_new (V := isVal (.agg #[.int .i64 A.kind, .int .i64 A.time, .int .i64 A.node, .bool A.dead, .string ⟨A.text.toArray⟩, vp, vm, .int .u64 (A.flags.toNat : Int)])) 23 11 (by kernel_rfl) (by kernel_rfl) (by kernel_rfl))) (knows_new (V := isVal (.iface 144 (.agg #[]))) 22 10 (by kernel_rfl) (by kernel_rfl) (by kernel_rfl)) (fun w => by kernel_rfl) (by intro w hb; exact call_flagsOnly A _ w (va_grow hX hb) hF), ?_⟩
  refine ⟨isVal (.bool (decide (A = onlyFlags A))), step_callP 119 #[.tmp 21, .tmp 24] #[40, 40] (by kernel_rfl) (wanted_some 8 20 false (by kernel_rfl) (by kernel_rfl) (by kernel_rfl) (by kernel_rfl)) (stable_val _) (enters_of Tryz.func119 (by kernel_rfl) rfl) (fun vs w => ∃ u v, vs = #[u, v] ∧ isVal (.agg #[.int .i64 A.kind, .int .i64 A.time, .int .i64 A.node, .bool A.dead, .string ⟨A.text.toArray⟩, vp, vm, .int .u64 (A.flags.toNat : Int)]) u w ∧ isVa (onlyFlags A) v w) (pre2 (knows_new (V := isVal (.agg #[.int .i64 A.kind, .int .i64 A.time, .int .i64 A.node, .bool A.dead, .string ⟨A.text.toArray⟩, vp, vm, .int .u64 (A.flags.toNat : Int)])) 21 9 (by kernel_rfl) (by kernel_rfl) (by kernel_rfl)) (knows_new (V := (isVa (onlyFlags A))) 24 12 (by kernel_rfl) (by kernel_rfl) (by kernel_rfl))) (by rintro vs w hb ⟨u, v, rfl, rfl, hv⟩; exact call_same A (onlyFlags A) _ v w (va_grow hX hb) hv hF (same_self A hF).2.2.2.2.1 (same_self A hF).2.2.2.2.2), ?_⟩
  refine ⟨isVal (.bool (!decide (A = onlyFlags A))), step_un .not 4 (.tmp 25) (.bool (decide (A = onlyFlags A))) (.bool (!decide (A = onlyFlags A))) (by kernel_rfl) (wanted_some 8 20 false (by kernel_rfl) (by kernel_rfl) (by kernel_rfl) (by kernel_rfl)) (knows_new (V := isVal (.bool (decide (A = onlyFlags A)))) 25 13 (by kernel_rfl) (by kernel_rfl) (by kernel_rfl)) (fun _ => rfl), ?_⟩
  refine ⟨isVal (.bool (!decide (A = onlyFlags A))), step_pick (.tmp 20) (.const (.bool true)) (.tmp 26) false (by kernel_rfl) (wanted_none (by kernel_rfl)) (stable_val _) (knows_new (V := isVal (.bool false)) 20 8 (by kernel_rfl) (by kernel_rfl) (by kernel_rfl)) (knows_new (V := isVal (.bool (!decide (A = onlyFlags A)))) 26 14 (by kernel_rfl) (by kernel_rfl) (by kernel_rfl)), ?_⟩
  intro a w hkp hb hd
  rw [kept_of hkp [some 12, some 13, some 14, some 15, some 16, some 17, some 18, some 19, some 20, some 21, some 22, some 23, some 24, some 25, some 26, some 27] [12, 13, 14, 15, 16, 17, 18, 19, 20, 21, 22, 23, 24, 25, 26, 27] (by kernel_rfl) (by decide)]
  have d27 := fdone_of (hd 15 (by rw [show kv_flags1Ops.size = 16 by kernel_rfl]; decide)) (t := 27) (V := isVal (.bool (!decide (A = onlyFlags A)))) (by kernel_rfl) (by kernel_rfl)
  exact hQ (fun s => a.tmps.getD s undef) w d27 hb
set_option maxRecDepth 20000 in
set_option maxHeartbeats 1000000 in
theorem kv_flags1_any (A : Va) (v : Value) (w : World) (hv : isVa A v w) (hF : Fit A) (hk : A.kind = 3) (z : Bool) (hz : decide (A = onlyFlags A) = z) :
    Calls Tryz.prog 103 #[v] w fun e w' => e = .returned (.tuple #[ifaceK (if z = true then 3 else 0), .bool z]) ∧ Below w.heap.size w w' := by
  obtain ⟨vp, vm, rfl, hp, hm⟩ := hv
  obtain ⟨hB, hV⟩ := vbox w A vp vm hp hm w.heap.size rfl
  have hX := Kept.mk (show isVa A (.agg #[.int .i64 A.kind, .int .i64 A.time, .int .i64 A.node, .bool A.dead, .string ⟨A.text.toArray⟩, vp, vm, .int .u64 (A.flags.toNat : Int)]) (w.alloc (.cells #[.int .i64 A.kind, .int .i64 A.time, .int .i64 A.node, .bool A.dead, .string ⟨A.text.toArray⟩, vp, vm, .int .u64 (A.flags.toNat : Int)] 40)) from ⟨vp, vm, rfl, stable_cells _ _ _ _ hp hB.out, stable_cells _ _ _ _ hm hB.out⟩)
  have HC := Kept.mk (cellsN_at w 40 [.int .i64 A.kind, .int .i64 A.time, .int .i64 A.node, .bool A.dead, .string ⟨A.text.toArray⟩, vp, vm, .int .u64 (A.flags.toNat : Int)] w.heap.size rfl)
  have HK := Kept.mk (show kOf A.kind = 3 by rw [hk]; rfl)
  have HK2 := Kept.mk hk
  clear hp hm hV hk
  have HZ := Kept.mk hz
  clear hz
  go_enter Tryz.func103, Tryz.ntmps103
  go_wp2_with fail
  refine (kindOf_any A.kind _).mono ?_; rintro e w' ⟨rfl, rfl⟩
  rewrite [HK.out]
  go_wp2_with fail
  refine kv_flags1_region _ _ _ rfl A w.heap.size vp vm rfl rfl rfl HC.out hX.out hF rfl ?_
  intro f9 W9 d27 hb9
  simp only [List.foldl_cons, List.foldl_nil, d27]
  generalize f9 12 = y12
  generalize f9 13 = y13
  generalize f9 14 = y14
  generalize f9 15 = y15
  generalize f9 16 = y16
  generalize f9 17 = y17
  generalize f9 18 = y18
  generalize f9 19 = y19
  generalize f9 20 = y20
  generalize f9 21 = y21
  generalize f9 22 = y22
  generalize f9 23 = y23
  generalize f9 24 = y24
  generalize f9 25 = y25
  generalize f9 26 = y26
  clear d27
  simp only [List.setIfInBounds_toArray, List.set_cons_succ, List.set_cons_zero]
  replace hB := Kept.mk (hB.out.trans (hb9.mono hB.out.size))
  clear hb9 hX HC
  rw [HZ.out]
  cases z
  · go_wp2
    go_ret2
    exact ⟨rfl, hB.out⟩
  · go_wp2
    go_ret2
    exact ⟨rfl, hB.out⟩
end Go.Proofs.YtmbnhlhanckkiaaGreat
end
section
namespace Go.Proofs.YtmbnhlhanckkiaaGreat
open Go.RowKit
set_option linter.unusedVariables false
set_option linter.unusedSimpArgs false
attribute [local irreducible] setN

theorem kv_any (A : Va) (v : Value) (w : World) (hv : isVa A v w) (hF : Fit A) :
    Calls Tryz.prog 103 #[v] w fun e w' => e = .returned (.tuple #[ifaceK (kindN A), .bool (okV A)]) ∧ Below w.heap.size w w' := by
  unfold okV
  by_cases h1 : A.kind = 1
  · have hk : kindN A = if (inReg A && decide (A = onlyReg A)) = true then 1 else 0 := by unfold kindN; rw [if_pos h1]
    cases hI : inReg A with
    | false => rw [hk, hI]; exact kv_reg0_any A v w hv hF h1 hI
    | true =>
      have := kv_reg1_any A v w hv hF h1 hI _ rfl
      rw [hk, hI, Bool.true_and]
      cases hz : decide (A = onlyReg A) with
      | false => rw [hz] at this; exact this
      | true => rw [hz] at this; exact this
  · by_cases h2 : A.kind = 2
    · have hk : kindN A = if (inCount A && decide (A = onlyCount A)) = true then 2 else 0 := by unfold kindN; rw [if_neg h1, if_pos h2]
      cases hI : inCount A with
      | false => rw [hk, hI]; exact kv_count0_any A v w hv hF h2 hI
      | true =>
        have := kv_count1_any A v w hv hF h2 hI _ rfl
        rw [hk, hI, Bool.true_and]
        cases hz : decide (A = onlyCount A) with
        | false => rw [hz] at this; exact this
        | true => rw [hz] at this; exact this
    · by_cases h3 : A.kind = 3
      · have hk : kindN A = if decide (A = onlyFlags A) = true then 3 else 0 := by unfold kindN; rw [if_neg h1, if_neg h2, if_pos h3]
        have := kv_flags1_any A v w hv hF h3 _ rfl
        rw [hk]
        cases hz : decide (A = onlyFlags A) with
        | false => rw [hz] at this; exact this
        | true => rw [hz] at this; exact this
      · have hk : kindN A = 0 := by unfold kindN; rw [if_neg h1, if_neg h2, if_neg h3]
        rw [hk]
        exact kv_none_any A v w hv hF (by unfold kOf; rw [if_neg h1, if_neg h2, if_neg h3])
def checkV (A : Va) : Int := if okV A = true then 0 else 2
set_option maxRecDepth 20000 in
set_option maxHeartbeats 1000000 in
theorem vcheck_any (A : Va) (v : Value) (w : World) (hv : isVa A v w) (hF : Fit A) :
    Calls Tryz.prog 53 #[v] w fun e w' => e = .returned (.int .i64 (checkV A)) ∧ Below w.heap.size w w' := by
  obtain ⟨vp, vm, rfl, hp, hm⟩ := hv
  obtain ⟨hB, hV⟩ := vbox w A vp vm hp hm w.heap.size rfl
  have hX := Kept.mk (show isVa A (.agg #[.int .i64 A.kind, .int .i64 A.time, .int .i64 A.node, .bool A.dead, .string ⟨A.text.toArray⟩, vp, vm, .int .u64 (A.flags.toNat : Int)]) (w.alloc (.cells #[.int .i64 A.kind, .int .i64 A.time, .int .i64 A.node, .bool A.dead, .string ⟨A.text.toArray⟩, vp, vm, .int .u64 (A.flags.toNat : Int)] 40)) from ⟨vp, vm, rfl, stable_cells _ _ _ _ hp hB.out, stable_cells _ _ _ _ hm hB.out⟩)
  clear hp hm
  have HC := Kept.mk (show checkV A = if okV A = true then 0 else 2 from rfl)
  go_enter Tryz.func53, Tryz.ntmps53
  go_wp2_with fail
  refine (kv_any A _ _ hX.out hF).mono ?_
  rintro e w1 ⟨rfl, hb1⟩
  replace hB := Kept.mk (hB.out.trans (hb1.mono hB.out.size))
  clear hb1 hX hV
  generalize kindN A = kn
  cases hz : okV A with
  | false =>
    rw [hz] at HC
    go_wp2
    go_ret
    exact ⟨by rw [HC.out]; rfl, hB.out⟩
  | true =>
    rw [hz] at HC
    go_wp2
    go_ret
    exact ⟨by rw [HC.out]; rfl, hB.out⟩
end Go.Proofs.YtmbnhlhanckkiaaGreat
end
section
namespace Go.Proofs.YtmbnhlhanckkiaaGreat
open Go.RowKit
set_option linter.unusedVariables false
set_option linter.unusedSimpArgs false
attribute [local irreducible] setN

theorem kindN_two {A : Va} (h : kindN A = 2) : okV A = true ∧ A.kind = 2 ∧ okRow A.plus = true ∧ okRow A.minus = true := by
  have ho : okV A = true := by unfold okV; rw [h]; rfl
  have hk : A.kind = 2 := by have := kindN_ok ho; rw [h] at this; omega
  have := (ok_count ho hk).1
  unfold inCount at this
  rw [Bool.and_eq_true] at this
  exact ⟨ho, hk, this⟩
set_option maxRecDepth 20000 in
set_option maxHeartbeats 1000000 in
theorem vjoin_no1 (A B : Va) (v u : Value) (w : World) (hv : isVa A v w) (hu : isVa B u w) (hA : Fit A) (hB0 : Fit B) (h : okV A = false) :
    Calls Tryz.prog 137 #[v, u] w fun e w' => ∃ v', e = .returned (.tuple #[v', .int .i64 2]) ∧ isVaN w.heap.size zeroV v' w' ∧ Below w.heap.size w w' := by
  obtain ⟨vp, vm, rfl, hp, hm⟩ := hv
  obtain ⟨up, um, rfl, gp, gm⟩ := hu
  obtain ⟨hB1, hV⟩ := vbox w A vp vm hp hm w.heap.size rfl
  obtain ⟨hB2, hU⟩ := vbox (w.alloc (.cells #[.int .i64 A.kind, .int .i64 A.time, .int .i64 A.node, .bool A.dead, .string ⟨A.text.toArray⟩, vp, vm, .int .u64 (A.flags.toNat : Int)] 40)) B up um (stable_cells _ _ _ _ gp hB1.out) (stable_cells _ _ _ _ gm hB1.out) (w.heap.size + 1) (by simp)
  have hB3 := lit_below ((w.alloc (.cells #[.int .i64 A.kind, .int .i64 A.time, .int .i64 A.node, .bool A.dead, .string ⟨A.text.toArray⟩, vp, vm, .int .u64 (A.flags.toNat : Int)] 40)).alloc (.cells #[.int .i64 B.kind, .int .i64 B.time, .int .i64 B.node, .bool B.dead, .string ⟨B.text.toArray⟩, up, um, .int .u64 (B.flags.toNat : Int)] 40)) (.cells #[.int .i64 0, .int .i64 0, .int .i64 0, .bool false, .string ⟨#[]⟩, .slice none 0 0, .slice none 0 0, .int .u64 0] 40)
  have HZ := Kept.mk (cellsN_at ((w.alloc (.cells #[.int .i64 A.kind, .int .i64 A.time, .int .i64 A.node, .bool A.dead, .string ⟨A.text.toArray⟩, vp, vm, .int .u64 (A.flags.toNat : Int)] 40)).alloc (.cells #[.int .i64 B.kind, .int .i64 B.time, .int .i64 B.node, .bool B.dead, .string ⟨B.text.toArray⟩, up, um, .int .u64 (B.flags.toNat : Int)] 40)) 40 [.int .i64 0, .int .i64 0, .int .i64 0, .bool false, .string ⟨#[]⟩, .slice none 0 0, .slice none 0 0, .int .u64 0] (w.heap.size + 2) (by simp))
  have HF := Kept.mk (free5_at ((w.alloc (.cells #[.int .i64 A.kind, .int .i64 A.time, .int .i64 A.node, .bool A.dead, .string ⟨A.text.toArray⟩, vp, vm, .int .u64 (A.flags.toNat : Int)] 40)).alloc (.cells #[.int .i64 B.kind, .int .i64 B.time, .int .i64 B.node, .bool B.dead, .string ⟨B.text.toArray⟩, up, um, .int .u64 (B.flags.toNat : Int)] 40)) #[.int .i64 0, .int .i64 0, .int .i64 0, .bool false, .string ⟨#[]⟩, .slice none 0 0, .slice none 0 0, .int .u64 0] 40 (w.heap.size + 2) (by simp))
  replace hV := Kept.mk ((hV.out.keep hB2.out).keep hB3)
  replace hU := Kept.mk (hU.out.keep hB3)
  have hB := Kept.mk ((hB1.out.trans (hB2.out.mono hB1.out.size)).trans (hB3.mono (hB1.out.trans (hB2.out.mono hB1.out.size)).size))
  have hX := Kept.mk (show isVa A (.agg #[.int .i64 A.kind, .int .i64 A.time, .int .i64 A.node, .bool A.dead, .string ⟨A.text.toArray⟩, vp, vm, .int .u64 (A.flags.toNat : Int)]) (((w.alloc (.cells #[.int .i64 A.kind, .int .i64 A.time, .int .i64 A.node, .bool A.dead, .string ⟨A.text.toArray⟩, vp, vm, .int .u64 (A.flags.toNat : Int)] 40)).alloc (.cells #[.int .i64 B.kind, .int .i64 B.time, .int .i64 B.node, .bool B.dead, .string ⟨B.text.toArray⟩, up, um, .int .u64 (B.flags.toNat : Int)] 40)).alloc (.cells #[.int .i64 0, .int .i64 0, .int .i64 0, .bool false, .string ⟨#[]⟩, .slice none 0 0, .slice none 0 0, .int .u64 0] 40)) from ⟨vp, vm, rfl, stable_cells _ _ _ _ hp hB.out, stable_cells _ _ _ _ hm hB.out⟩)
  have hs : (((w.alloc (.cells #[.int .i64 A.kind, .int .i64 A.time, .int .i64 A.node, .bool A.dead, .string ⟨A.text.toArray⟩, vp, vm, .int .u64 (A.flags.toNat : Int)] 40)).alloc (.cells #[.int .i64 B.kind, .int .i64 B.time, .int .i64 B.node, .bool B.dead, .string ⟨B.text.toArray⟩, up, um, .int .u64 (B.flags.toNat : Int)] 40)).alloc (.cells #[.int .i64 0, .int .i64 0, .int .i64 0, .bool false, .string ⟨#[]⟩, .slice none 0 0, .slice none 0 0, .int .u64 0] 40)).heap.size = w.heap.size + 3 := by simp
  clear hp hm gp gm hB1 hB2 hB3
  have HO := Kept.mk h
  clear h
  go_enter Tryz.func137, Tryz.ntmps137
  go_wp2_with fail
  generalize ((w.alloc (.cells #[.int .i64 A.kind, .int .i64 A.time, .int .i64 A.node, .bool A.dead, .string ⟨A.text.toArray⟩, vp, vm, .int .u64 (A.flags.toNat : Int)] 40)).alloc (.cells #[.int .i64 B.kind, .int .i64 B.time, .int .i64 B.node, .bool B.dead, .string ⟨B.text.toArray⟩, up, um, .int .u64 (B.flags.toNat : Int)] 40)).alloc (.cells #[.int .i64 0, .int .i64 0, .int .i64 0, .bool false, .string ⟨#[]⟩, .slice none 0 0, .slice none 0 0, .int .u64 0] 40) = W0 at *
  refine (kv_any A _ _ hX.out hA).mono ?_
  rintro e w1 ⟨rfl, hb1⟩
  replace hV := Kept.mk (hV.out.keep hb1)
  replace hU := Kept.mk (hU.out.keep hb1)
  replace HF := Kept.mk (HF.out.keep hb1 HZ.out.1)
  replace HZ := Kept.mk (HZ.out.keep hb1 HZ.out.1)
  replace hB := Kept.mk (hB.out.trans (hb1.mono hB.out.size))
  have hs1 := hb1.size
  clear hb1 hX
  rewrite [HO.out]
  generalize ifaceK (kindN A) = ik
  obtain ⟨hBK, K4, K5⟩ := vset zeroV (.slice none 0 0) (.slice none 0 0) (g := w.heap.size + 2) (by omega) hB.out HZ.out rfl (.inl ⟨rfl, rfl⟩) (.inl ⟨rfl, rfl⟩) (by intro h; cases h) (by intro h; cases h)
  obtain ⟨hc', hp', hm'⟩ := K4.out
  clear K4
  go_wp2_with (refine wpList_storeN 40 rfl (.tmp 4) (.tmp 20) rfl (w.heap.size + 2) [.int .i64 0, .int .i64 0, .int .i64 0, .bool false, .string ⟨#[]⟩, .slice none 0 0, .slice none 0 0, .int .u64 0] size_va rfl rfl HZ.out rfl HF.out K5.out ?_)
  exact bodyPost_ret (resultsN2 rfl _ _ (w.heap.size + 2) _ (.int .i64 2) size_va agg_va rfl rfl hc') rfl ⟨_, rfl, ⟨_, _, rfl, hp', hm', newB_nil _, newB_nil _⟩, hBK.out⟩
set_option maxRecDepth 20000 in
set_option maxHeartbeats 1000000 in
theorem vjoin_no2 (A B : Va) (v u : Value) (w : World) (hv : isVa A v w) (hu : isVa B u w) (hA : Fit A) (hB0 : Fit B) (h : okV A = true) (h2 : okV B = false) :
    Calls Tryz.prog 137 #[v, u] w fun e w' => ∃ v', e = .returned (.tuple #[v', .int .i64 2]) ∧ isVaN w.heap.size zeroV v' w' ∧ Below w.heap.size w w' := by
  obtain ⟨vp, vm, rfl, hp, hm⟩ := hv
  obtain ⟨up, um, rfl, gp, gm⟩ := hu
  obtain ⟨hB1, hV⟩ := vbox w A vp vm hp hm w.heap.size rfl
  obtain ⟨hB2, hU⟩ := vbox (w.alloc (.cells #[.int .i64 A.kind, .int .i64 A.time, .int .i64 A.node, .bool A.dead, .string ⟨A.text.toArray⟩, vp, vm, .int .u64 (A.flags.toNat : Int)] 40)) B up um (stable_cells _ _ _ _ gp hB1.out) (stable_cells _ _ _ _ gm hB1.out) (w.heap.size + 1) (by simp)
  have hB3 := lit_below ((w.alloc (.cells #[.int .i64 A.kind, .int .i64 A.time, .int .i64 A.node, .bool A.dead, .string ⟨A.text.toArray⟩, vp, vm, .int .u64 (A.flags.toNat : Int)] 40)).alloc (.cells #[.int .i64 B.kind, .int .i64 B.time, .int .i64 B.node, .bool B.dead, .string ⟨B.text.toArray⟩, up, um, .int .u64 (B.flags.toNat : Int)] 40)) (.cells #[.int .i64 0, .int .i64 0, .int .i64 0, .bool false, .string ⟨#[]⟩, .slice none 0 0, .slice none 0 0, .int .u64 0] 40)
  have HZ := Kept.mk (cellsN_at ((w.alloc (.cells #[.int .i64 A.kind, .int .i64 A.time, .int .i64 A.node, .bool A.dead, .string ⟨A.text.toArray⟩, vp, vm, .int .u64 (A.flags.toNat : Int)] 40)).alloc (.cells #[.int .i64 B.kind, .int .i64 B.time, .int .i64 B.node, .bool B.dead, .string ⟨B.text.toArray⟩, up, um, .int .u64 (B.flags.toNat : Int)] 40)) 40 [.int .i64 0, .int .i64 0, .int .i64 0, .bool false, .string ⟨#[]⟩, .slice none 0 0, .slice none 0 0, .int .u64 0] (w.heap.size + 2) (by simp))
  have HF := Kept.mk (free5_at ((w.alloc (.cells #[.int .i64 A.kind, .int .i64 A.time, .int .i64 A.node, .bool A.dead, .string ⟨A.text.toArray⟩, vp, vm, .int .u64 (A.flags.toNat : Int)] 40)).alloc (.cells #[.int .i64 B.kind, .int .i64 B.time, .int .i64 B.node, .bool B.dead, .string ⟨B.text.toArray⟩, up, um, .int .u64 (B.flags.toNat : Int)] 40)) #[.int .i64 0, .int .i64 0, .int .i64 0, .bool false, .string ⟨#[]⟩, .slice none 0 0, .slice none 0 0, .int .u64 0] 40 (w.heap.size + 2) (by simp))
  replace hV := Kept.mk ((hV.out.keep hB2.out).keep hB3)
  replace hU := Kept.mk (hU.out.keep hB3)
  have hB := Kept.mk ((hB1.out.trans (hB2.out.mono hB1.out.size)).trans (hB3.mono (hB1.out.trans (hB2.out.mono hB1.out.size)).size))
  have hX := Kept.mk (show isVa A (.agg #[.int .i64 A.kind, .int .i64 A.time, .int .i64 A.node, .bool A.dead, .string ⟨A.text.toArray⟩, vp, vm, .int .u64 (A.flags.toNat : Int)]) (((w.alloc (.cells #[.int .i64 A.kind, .int .i64 A.time, .int .i64 A.node, .bool A.dead, .string ⟨A.text.toArray⟩, vp, vm, .int .u64 (A.flags.toNat : Int)] 40)).alloc (.cells #[.int .i64 B.kind, .int .i64 B.time, .int .i64 B.node, .bool B.dead, .string ⟨B.text.toArray⟩, up, um, .int .u64 (B.flags.toNat : Int)] 40)).alloc (.cells #[.int .i64 0, .int .i64 0, .int .i64 0, .bool false, .string ⟨#[]⟩, .slice none 0 0, .slice none 0 0, .int .u64 0] 40)) from ⟨vp, vm, rfl, stable_cells _ _ _ _ hp hB.out, stable_cells _ _ _ _ hm hB.out⟩)
  have hs : (((w.alloc (.cells #[.int .i64 A.kind, .int .i64 A.time, .int .i64 A.node, .bool A.dead, .string ⟨A.text.toArray⟩, vp, vm, .int .u64 (A.flags.toNat : Int)] 40)).alloc (.cells #[.int .i64 B.kind, .int .i64 B.time, .int .i64 B.node, .bool B.dead, .string ⟨B.text.toArray⟩, up, um, .int .u64 (B.flags.toNat : Int)] 40)).alloc (.cells #[.int .i64 0, .int .i64 0, .int .i64 0, .bool false, .string ⟨#[]⟩, .slice none 0 0, .slice none 0 0, .int .u64 0] 40)).heap.size = w.heap.size + 3 := by simp
  clear hp hm gp gm hB1 hB2 hB3
  have HO := Kept.mk h
  have HC : Kept (checkV B = 2) := ⟨by unfold checkV; rw [h2]; rfl⟩
  clear h h2
  go_enter Tryz.func137, Tryz.ntmps137
  go_wp2_with fail
  generalize ((w.alloc (.cells #[.int .i64 A.kind, .int .i64 A.time, .int .i64 A.node, .bool A.dead, .string ⟨A.text.toArray⟩, vp, vm, .int .u64 (A.flags.toNat : Int)] 40)).alloc (.cells #[.int .i64 B.kind, .int .i64 B.time, .int .i64 B.node, .bool B.dead, .string ⟨B.text.toArray⟩, up, um, .int .u64 (B.flags.toNat : Int)] 40)).alloc (.cells #[.int .i64 0, .int .i64 0, .int .i64 0, .bool false, .string ⟨#[]⟩, .slice none 0 0, .slice none 0 0, .int .u64 0] 40) = W0 at *
  refine (kv_any A _ _ hX.out hA).mono ?_
  rintro e w1 ⟨rfl, hb1⟩
  replace hV := Kept.mk (hV.out.keep hb1)
  replace hU := Kept.mk (hU.out.keep hb1)
  replace HF := Kept.mk (HF.out.keep hb1 HZ.out.1)
  replace HZ := Kept.mk (HZ.out.keep hb1 HZ.out.1)
  replace hB := Kept.mk (hB.out.trans (hb1.mono hB.out.size))
  have hs1 := hb1.size
  clear hb1 hX
  rewrite [HO.out]
  generalize ifaceK (kindN A) = ik
  obtain ⟨qb, rb, xb, _, _, kb0, kb1, kb2, kb3, kb4, kb5, kb6, kb7⟩ := hU.out.open_
  have Xb := Kept.mk xb
  clear xb
  go_wp2_with fail
  refine (vcheck_any B _ _ Xb.out hB0).mono ?_
  rintro e w2 ⟨rfl, hb2⟩
  replace hV := Kept.mk (hV.out.keep hb2)
  replace hU := Kept.mk (hU.out.keep hb2)
  replace HF := Kept.mk (HF.out.keep hb2 HZ.out.1)
  replace HZ := Kept.mk (HZ.out.keep hb2 HZ.out.1)
  replace hB := Kept.mk (hB.out.trans (hb2.mono hB.out.size))
  have hs2 := hb2.size
  rewrite [HC.out]
  clear hb2
  clear Xb kb0 kb1 kb2 kb3 kb4 kb5 kb6 kb7
  obtain ⟨hBK, K4, K5⟩ := vset zeroV (.slice none 0 0) (.slice none 0 0) (g := w.heap.size + 2) (by omega) hB.out HZ.out rfl (.inl ⟨rfl, rfl⟩) (.inl ⟨rfl, rfl⟩) (by intro h; cases h) (by intro h; cases h)
  obtain ⟨hc', hp', hm'⟩ := K4.out
  clear K4
  go_wp2_with (refine wpList_storeN 40 rfl (.tmp 4) (.tmp 20) rfl (w.heap.size + 2) [.int .i64 0, .int .i64 0, .int .i64 0, .bool false, .string ⟨#[]⟩, .slice none 0 0, .slice none 0 0, .int .u64 0] size_va rfl rfl HZ.out rfl HF.out K5.out ?_)
  exact bodyPost_ret (resultsN2 rfl _ _ (w.heap.size + 2) _ (.int .i64 2) size_va agg_va rfl rfl hc') rfl ⟨_, rfl, ⟨_, _, rfl, hp', hm', newB_nil _, newB_nil _⟩, hBK.out⟩
set_option maxRecDepth 20000 in
set_option maxHeartbeats 1000000 in
theorem vjoin_no3 (A B : Va) (v u : Value) (w : World) (hv : isVa A v w) (hu : isVa B u w) (hA : Fit A) (hB0 : Fit B) (h : okV A = true) (h2 : okV B = true) (h3 : A.kind ≠ B.kind) :
    Calls Tryz.prog 137 #[v, u] w fun e w' => ∃ v', e = .returned (.tuple #[v', .int .i64 3]) ∧ isVaN w.heap.size zeroV v' w' ∧ Below w.heap.size w w' := by
  obtain ⟨vp, vm, rfl, hp, hm⟩ := hv
  obtain ⟨up, um, rfl, gp, gm⟩ := hu
  obtain ⟨hB1, hV⟩ := vbox w A vp vm hp hm w.heap.size rfl
  obtain ⟨hB2, hU⟩ := vbox (w.alloc (.cells #[.int .i64 A.kind, .int .i64 A.time, .int .i64 A.node, .bool A.dead, .string ⟨A.text.toArray⟩, vp, vm, .int .u64 (A.flags.toNat : Int)] 40)) B up um (stable_cells _ _ _ _ gp hB1.out) (stable_cells _ _ _ _ gm hB1.out) (w.heap.size + 1) (by simp)
  have hB3 := lit_below ((w.alloc (.cells #[.int .i64 A.kind, .int .i64 A.time, .int .i64 A.node, .bool A.dead, .string ⟨A.text.toArray⟩, vp, vm, .int .u64 (A.flags.toNat : Int)] 40)).alloc (.cells #[.int .i64 B.kind, .int .i64 B.time, .int .i64 B.node, .bool B.dead, .string ⟨B.text.toArray⟩, up, um, .int .u64 (B.flags.toNat : Int)] 40)) (.cells #[.int .i64 0, .int .i64 0, .int .i64 0, .bool false, .string ⟨#[]⟩, .slice none 0 0, .slice none 0 0, .int .u64 0] 40)
  have HZ := Kept.mk (cellsN_at ((w.alloc (.cells #[.int .i64 A.kind, .int .i64 A.time, .int .i64 A.node, .bool A.dead, .string ⟨A.text.toArray⟩, vp, vm, .int .u64 (A.flags.toNat : Int)] 40)).alloc (.cells #[.int .i64 B.kind, .int .i64 B.time, .int .i64 B.node, .bool B.dead, .string ⟨B.text.toArray⟩, up, um, .int .u64 (B.flags.toNat : Int)] 40)) 40 [.int .i64 0, .int .i64 0, .int .i64 0, .bool false, .string ⟨#[]⟩, .slice none 0 0, .slice none 0 0, .int .u64 0] (w.heap.size + 2) (by simp))
  have HF := Kept.mk (free5_at ((w.alloc (.cells #[.int .i64 A.kind, .int .i64 A.time, .int .i64 A.node, .bool A.dead, .string ⟨A.text.toArray⟩, vp, vm, .int .u64 (A.flags.toNat : Int)] 40)).alloc (.cells #[.int .i64 B.kind, .int .i64 B.time, .int .i64 B.node, .bool B.dead, .string ⟨B.text.toArray⟩, up, um, .int .u64 (B.flags.toNat : Int)] 40)) #[.int .i64 0, .int .i64 0, .int .i64 0, .bool false, .string ⟨#[]⟩, .slice none 0 0, .slice none 0 0, .int .u64 0] 40 (w.heap.size + 2) (by simp))
  replace hV := Kept.mk ((hV.out.keep hB2.out).keep hB3)
  replace hU := Kept.mk (hU.out.keep hB3)
  have hB := Kept.mk ((hB1.out.trans (hB2.out.mono hB1.out.size)).trans (hB3.mono (hB1.out.trans (hB2.out.mono hB1.out.size)).size))
  have hX := Kept.mk (show isVa A (.agg #[.int .i64 A.kind, .int .i64 A.time, .int .i64 A.node, .bool A.dead, .string ⟨A.text.toArray⟩, vp, vm, .int .u64 (A.flags.toNat : Int)]) (((w.alloc (.cells #[.int .i64 A.kind, .int .i64 A.time, .int .i64 A.node, .bool A.dead, .string ⟨A.text.toArray⟩, vp, vm, .int .u64 (A.flags.toNat : Int)] 40)).alloc (.cells #[.int .i64 B.kind, .int .i64 B.time, .int .i64 B.node, .bool B.dead, .string ⟨B.text.toArray⟩, up, um, .int .u64 (B.flags.toNat : Int)] 40)).alloc (.cells #[.int .i64 0, .int .i64 0, .int .i64 0, .bool false, .string ⟨#[]⟩, .slice none 0 0, .slice none 0 0, .int .u64 0] 40)) from ⟨vp, vm, rfl, stable_cells _ _ _ _ hp hB.out, stable_cells _ _ _ _ hm hB.out⟩)
  have hs : (((w.alloc (.cells #[.int .i64 A.kind, .int .i64 A.time, .int .i64 A.node, .bool A.dead, .string ⟨A.text.toArray⟩, vp, vm, .int .u64 (A.flags.toNat : Int)] 40)).alloc (.cells #[.int .i64 B.kind, .int .i64 B.time, .int .i64 B.node, .bool B.dead, .string ⟨B.text.toArray⟩, up, um, .int .u64 (B.flags.toNat : Int)] 40)).alloc (.cells #[.int .i64 0, .int .i64 0, .int .i64 0, .bool false, .string ⟨#[]⟩, .slice none 0 0, .slice none 0 0, .int .u64 0] 40)).heap.size = w.heap.size + 3 := by simp
  clear hp hm gp gm hB1 hB2 hB3
  have HO := Kept.mk h
  have HC : Kept (checkV B = 0) := ⟨by unfold checkV; rw [h2]; rfl⟩
  have d3 : (A.kind == B.kind) = false := by simpa using h3
  clear h h2 h3
  go_enter Tryz.func137, Tryz.ntmps137
  go_wp2_with fail
  generalize ((w.alloc (.cells #[.int .i64 A.kind, .int .i64 A.time, .int .i64 A.node, .bool A.dead, .string ⟨A.text.toArray⟩, vp, vm, .int .u64 (A.flags.toNat : Int)] 40)).alloc (.cells #[.int .i64 B.kind, .int .i64 B.time, .int .i64 B.node, .bool B.dead, .string ⟨B.text.toArray⟩, up, um, .int .u64 (B.flags.toNat : Int)] 40)).alloc (.cells #[.int .i64 0, .int .i64 0, .int .i64 0, .bool false, .string ⟨#[]⟩, .slice none 0 0, .slice none 0 0, .int .u64 0] 40) = W0 at *
  refine (kv_any A _ _ hX.out hA).mono ?_
  rintro e w1 ⟨rfl, hb1⟩
  replace hV := Kept.mk (hV.out.keep hb1)
  replace hU := Kept.mk (hU.out.keep hb1)
  replace HF := Kept.mk (HF.out.keep hb1 HZ.out.1)
  replace HZ := Kept.mk (HZ.out.keep hb1 HZ.out.1)
  replace hB := Kept.mk (hB.out.trans (hb1.mono hB.out.size))
  have hs1 := hb1.size
  clear hb1 hX
  rewrite [HO.out]
  generalize ifaceK (kindN A) = ik
  obtain ⟨qb, rb, xb, _, _, kb0, kb1, kb2, kb3, kb4, kb5, kb6, kb7⟩ := hU.out.open_
  have Xb := Kept.mk xb
  clear xb
  go_wp2_with fail
  refine (vcheck_any B _ _ Xb.out hB0).mono ?_
  rintro e w2 ⟨rfl, hb2⟩
  replace hV := Kept.mk (hV.out.keep hb2)
  replace hU := Kept.mk (hU.out.keep hb2)
  replace HF := Kept.mk (HF.out.keep hb2 HZ.out.1)
  replace HZ := Kept.mk (HZ.out.keep hb2 HZ.out.1)
  replace hB := Kept.mk (hB.out.trans (hb2.mono hB.out.size))
  have hs2 := hb2.size
  rewrite [HC.out]
  clear hb2
  clear Xb kb0 kb1 kb2 kb3 kb4 kb5 kb6 kb7
  obtain ⟨qa, ra, xa, _, _, ka0, ka1, ka2, ka3, ka4, ka5, ka6, ka7⟩ := hV.out.open_
  have Xa := Kept.mk xa
  clear xa
  obtain ⟨qb, rb, xb, _, _, kb0, kb1, kb2, kb3, kb4, kb5, kb6, kb7⟩ := hU.out.open_
  have Xb := Kept.mk xb
  clear xb
  obtain ⟨hBK, K4, K5⟩ := vset zeroV (.slice none 0 0) (.slice none 0 0) (g := w.heap.size + 2) (by omega) hB.out HZ.out rfl (.inl ⟨rfl, rfl⟩) (.inl ⟨rfl, rfl⟩) (by intro h; cases h) (by intro h; cases h)
  obtain ⟨hc', hp', hm'⟩ := K4.out
  clear K4
  go_wp2_with (refine wpList_storeN 40 rfl (.tmp 4) (.tmp 26) rfl (w.heap.size + 2) [.int .i64 0, .int .i64 0, .int .i64 0, .bool false, .string ⟨#[]⟩, .slice none 0 0, .slice none 0 0, .int .u64 0] size_va rfl rfl HZ.out rfl HF.out K5.out ?_)
  exact bodyPost_ret (resultsN2 rfl _ _ (w.heap.size + 2) _ (.int .i64 3) size_va agg_va rfl rfl hc') rfl ⟨_, rfl, ⟨_, _, rfl, hp', hm', newB_nil _, newB_nil _⟩, hBK.out⟩
set_option maxRecDepth 20000 in
set_option maxHeartbeats 1000000 in
theorem vjoin_reg (A B : Va) (v u : Value) (w : World) (hv : isVa A v w) (hu : isVa B u w) (hA : Fit A) (hB0 : Fit B) (h : kindN A = 1) (h2 : okV B = true) (h3 : A.kind = B.kind) :
    Calls Tryz.prog 137 #[v, u] w fun e w' => ∃ v', e = .returned (.tuple #[v', .int .i64 0]) ∧ isVaN w.heap.size (joinReg A B) v' w' ∧ Below w.heap.size w w' := by
  obtain ⟨vp, vm, rfl, hp, hm⟩ := hv
  obtain ⟨up, um, rfl, gp, gm⟩ := hu
  obtain ⟨hB1, hV⟩ := vbox w A vp vm hp hm w.heap.size rfl
  obtain ⟨hB2, hU⟩ := vbox (w.alloc (.cells #[.int .i64 A.kind, .int .i64 A.time, .int .i64 A.node, .bool A.dead, .string ⟨A.text.toArray⟩, vp, vm, .int .u64 (A.flags.toNat : Int)] 40)) B up um (stable_cells _ _ _ _ gp hB1.out) (stable_cells _ _ _ _ gm hB1.out) (w.heap.size + 1) (by simp)
  have hB3 := lit_below ((w.alloc (.cells #[.int .i64 A.kind, .int .i64 A.time, .int .i64 A.node, .bool A.dead, .string ⟨A.text.toArray⟩, vp, vm, .int .u64 (A.flags.toNat : Int)] 40)).alloc (.cells #[.int .i64 B.kind, .int .i64 B.time, .int .i64 B.node, .bool B.dead, .string ⟨B.text.toArray⟩, up, um, .int .u64 (B.flags.toNat : Int)] 40)) (.cells #[.int .i64 0, .int .i64 0, .int .i64 0, .bool false, .string ⟨#[]⟩, .slice none 0 0, .slice none 0 0, .int .u64 0] 40)
  have HZ := Kept.mk (cellsN_at ((w.alloc (.cells #[.int .i64 A.kind, .int .i64 A.time, .int .i64 A.node, .bool A.dead, .string ⟨A.text.toArray⟩, vp, vm, .int .u64 (A.flags.toNat : Int)] 40)).alloc (.cells #[.int .i64 B.kind, .int .i64 B.time, .int .i64 B.node, .bool B.dead, .string ⟨B.text.toArray⟩, up, um, .int .u64 (B.flags.toNat : Int)] 40)) 40 [.int .i64 0, .int .i64 0, .int .i64 0, .bool false, .string ⟨#[]⟩, .slice none 0 0, .slice none 0 0, .int .u64 0] (w.heap.size + 2) (by simp))
  have HF := Kept.mk (free5_at ((w.alloc (.cells #[.int .i64 A.kind, .int .i64 A.time, .int .i64 A.node, .bool A.dead, .string ⟨A.text.toArray⟩, vp, vm, .int .u64 (A.flags.toNat : Int)] 40)).alloc (.cells #[.int .i64 B.kind, .int .i64 B.time, .int .i64 B.node, .bool B.dead, .string ⟨B.text.toArray⟩, up, um, .int .u64 (B.flags.toNat : Int)] 40)) #[.int .i64 0, .int .i64 0, .int .i64 0, .bool false, .string ⟨#[]⟩, .slice none 0 0, .slice none 0 0, .int .u64 0] 40 (w.heap.size + 2) (by simp))
  replace hV := Kept.mk ((hV.out.keep hB2.out).keep hB3)
  replace hU := Kept.mk (hU.out.keep hB3)
  have hB := Kept.mk ((hB1.out.trans (hB2.out.mono hB1.out.size)).trans (hB3.mono (hB1.out.trans (hB2.out.mono hB1.out.size)).size))
  have hX := Kept.mk (show isVa A (.agg #[.int .i64 A.kind, .int .i64 A.time, .int .i64 A.node, .bool A.dead, .string ⟨A.text.toArray⟩, vp, vm, .int .u64 (A.flags.toNat : Int)]) (((w.alloc (.cells #[.int .i64 A.kind, .int .i64 A.time, .int .i64 A.node, .bool A.dead, .string ⟨A.text.toArray⟩, vp, vm, .int .u64 (A.flags.toNat : Int)] 40)).alloc (.cells #[.int .i64 B.kind, .int .i64 B.time, .int .i64 B.node, .bool B.dead, .string ⟨B.text.toArray⟩, up, um, .int .u64 (B.flags.toNat : Int)] 40)).alloc (.cells #[.int .i64 0, .int .i64 0, .int .i64 0, .bool false, .string ⟨#[]⟩, .slice none 0 0, .slice none 0 0, .int .u64 0] 40)) from ⟨vp, vm, rfl, stable_cells _ _ _ _ hp hB.out, stable_cells _ _ _ _ hm hB.out⟩)
  have hs : (((w.alloc (.cells #[.int .i64 A.kind, .int .i64 A.time, .int .i64 A.node, .bool A.dead, .string ⟨A.text.toArray⟩, vp, vm, .int .u64 (A.flags.toNat : Int)] 40)).alloc (.cells #[.int .i64 B.kind, .int .i64 B.time, .int .i64 B.node, .bool B.dead, .string ⟨B.text.toArray⟩, up, um, .int .u64 (B.flags.toNat : Int)] 40)).alloc (.cells #[.int .i64 0, .int .i64 0, .int .i64 0, .bool false, .string ⟨#[]⟩, .slice none 0 0, .slice none 0 0, .int .u64 0] 40)).heap.size = w.heap.size + 3 := by simp
  clear hp hm gp gm hB1 hB2 hB3
  have HO : Kept (okV A = true) := ⟨by unfold okV; rw [h]; rfl⟩
  have HC : Kept (checkV B = 0) := ⟨by unfold checkV; rw [h2]; rfl⟩
  have HK := Kept.mk h
  have HI : Kept (ifaceK 1 = .iface 142 (.agg #[])) := ⟨rfl⟩
  have d3 : (A.kind == B.kind) = true := by simpa using h3
  clear h h2 h3
  go_enter Tryz.func137, Tryz.ntmps137
  go_wp2_with fail
  generalize ((w.alloc (.cells #[.int .i64 A.kind, .int .i64 A.time, .int .i64 A.node, .bool A.dead, .string ⟨A.text.toArray⟩, vp, vm, .int .u64 (A.flags.toNat : Int)] 40)).alloc (.cells #[.int .i64 B.kind, .int .i64 B.time, .int .i64 B.node, .bool B.dead, .string ⟨B.text.toArray⟩, up, um, .int .u64 (B.flags.toNat : Int)] 40)).alloc (.cells #[.int .i64 0, .int .i64 0, .int .i64 0, .bool false, .string ⟨#[]⟩, .slice none 0 0, .slice none 0 0, .int .u64 0] 40) = W0 at *
  refine (kv_any A _ _ hX.out hA).mono ?_
  rintro e w1 ⟨rfl, hb1⟩
  replace hV := Kept.mk (hV.out.keep hb1)
  replace hU := Kept.mk (hU.out.keep hb1)
  replace HF := Kept.mk (HF.out.keep hb1 HZ.out.1)
  replace HZ := Kept.mk (HZ.out.keep hb1 HZ.out.1)
  replace hB := Kept.mk (hB.out.trans (hb1.mono hB.out.size))
  have hs1 := hb1.size
  clear hb1 hX
  rewrite [HO.out, HK.out, HI.out]
  obtain ⟨qb, rb, xb, _, _, kb0, kb1, kb2, kb3, kb4, kb5, kb6, kb7⟩ := hU.out.open_
  have Xb := Kept.mk xb
  clear xb
  go_wp2_with fail
  refine (vcheck_any B _ _ Xb.out hB0).mono ?_
  rintro e w2 ⟨rfl, hb2⟩
  replace hV := Kept.mk (hV.out.keep hb2)
  replace hU := Kept.mk (hU.out.keep hb2)
  replace HF := Kept.mk (HF.out.keep hb2 HZ.out.1)
  replace HZ := Kept.mk (HZ.out.keep hb2 HZ.out.1)
  replace hB := Kept.mk (hB.out.trans (hb2.mono hB.out.size))
  have hs2 := hb2.size
  rewrite [HC.out]
  clear hb2
  clear Xb kb0 kb1 kb2 kb3 kb4 kb5 kb6 kb7
  obtain ⟨qa, ra, xa, _, _, ka0, ka1, ka2, ka3, ka4, ka5, ka6, ka7⟩ := hV.out.open_
  have Xa := Kept.mk xa
  clear xa
  obtain ⟨qb, rb, xb, _, _, kb0, kb1, kb2, kb3, kb4, kb5, kb6, kb7⟩ := hU.out.open_
  have Xb := Kept.mk xb
  clear xb
  have hinv : ∀ W : World, (invoke (.fn (.method "ouroboros/value.join") #[]) #[.iface 142 (.agg #[]), .agg #[.int .i64 A.kind, .int .i64 A.time, .int .i64 A.node, .bool A.dead, .string ⟨A.text.toArray⟩, qa, ra, .int .u64 (A.flags.toNat : Int)], .agg #[.int .i64 B.kind, .int .i64 B.time, .int .i64 B.node, .bool B.dead, .string ⟨B.text.toArray⟩, qb, rb, .int .u64 (B.flags.toNat : Int)]]).run Tryz.prog W = .ok (.enter 162 #[.agg #[], .agg #[.int .i64 A.kind, .int .i64 A.time, .int .i64 A.node, .bool A.dead, .string ⟨A.text.toArray⟩, qa, ra, .int .u64 (A.flags.toNat : Int)], .agg #[.int .i64 B.kind, .int .i64 B.time, .int .i64 B.node, .bool B.dead, .string ⟨B.text.toArray⟩, qb, rb, .int .u64 (B.flags.toNat : Int)]]) W := fun W => by kernel_rfl
  go_wp2_with fail
  refine (regJoin_any A B _ _ _ Xa.out Xb.out).mono ?_
  rintro e w3 ⟨v', rfl, ⟨p', m', rfl, hp1, hm1, np, nm⟩, hb3⟩
  have hZ1 := HZ.out.keep hb3 HZ.out.1
  have K1 := Kept.mk hZ1
  have K2 := Kept.mk (HF.out.keep hb3 HZ.out.1)
  obtain ⟨hBK, K4, K5⟩ := vset (joinReg A B) p' m' (g := w.heap.size + 2) (by omega) (hB.out.trans (hb3.mono hB.out.size)) hZ1 rfl hp1 hm1 (np.ne (by omega)) (nm.ne (by omega))
  obtain ⟨hc', hp', hm'⟩ := K4.out
  replace np := np.low (B' := w.heap.size) (by omega)
  replace nm := nm.low (B' := w.heap.size) (by omega)
  clear K4 hp1 hm1 hZ1 hb3 hinv
  clear Xa ka0 ka1 ka2 ka3 ka4 ka5 ka6 ka7
  clear Xb kb0 kb1 kb2 kb3 kb4 kb5 kb6 kb7
  go_wp2_with (refine wpList_storeN 40 rfl (.tmp 4) (.tmp 30) rfl (w.heap.size + 2) [.int .i64 (joinReg A B).kind, .int .i64 (joinReg A B).time, .int .i64 (joinReg A B).node, .bool (joinReg A B).dead, .string ⟨(joinReg A B).text.toArray⟩, p', m', .int .u64 ((joinReg A B).flags.toNat : Int)] size_va rfl rfl K1.out rfl K2.out K5.out ?_)
  exact bodyPost_ret (resultsN2 rfl _ _ (w.heap.size + 2) _ (.int .i64 0) size_va agg_va rfl rfl hc') rfl ⟨_, rfl, ⟨_, _, rfl, hp', hm', np, nm⟩, hBK.out⟩
set_option maxRecDepth 20000 in
set_option maxHeartbeats 1000000 in
theorem vjoin_count (A B : Va) (v u : Value) (w : World) (hv : isVa A v w) (hu : isVa B u w) (hA : Fit A) (hB0 : Fit B) (h : kindN A = 2) (h2 : okV B = true) (h3 : A.kind = B.kind) (l1 : A.plus.length = 8) (l2 : A.minus.length = 8) (l3 : B.plus.length = 8) (l4 : B.minus.length = 8) :
    Calls Tryz.prog 137 #[v, u] w fun e w' => ∃ v', e = .returned (.tuple #[v', .int .i64 0]) ∧ isVaN w.heap.size (joinCount A B) v' w' ∧ Below w.heap.size w w' := by
  obtain ⟨vp, vm, rfl, hp, hm⟩ := hv
  obtain ⟨up, um, rfl, gp, gm⟩ := hu
  obtain ⟨hB1, hV⟩ := vbox w A vp vm hp hm w.heap.size rfl
  obtain ⟨hB2, hU⟩ := vbox (w.alloc (.cells #[.int .i64 A.kind, .int .i64 A.time, .int .i64 A.node, .bool A.dead, .string ⟨A.text.toArray⟩, vp, vm, .int .u64 (A.flags.toNat : Int)] 40)) B up um (stable_cells _ _ _ _ gp hB1.out) (stable_cells _ _ _ _ gm hB1.out) (w.heap.size + 1) (by simp)
  have hB3 := lit_below ((w.alloc (.cells #[.int .i64 A.kind, .int .i64 A.time, .int .i64 A.node, .bool A.dead, .string ⟨A.text.toArray⟩, vp, vm, .int .u64 (A.flags.toNat : Int)] 40)).alloc (.cells #[.int .i64 B.kind, .int .i64 B.time, .int .i64 B.node, .bool B.dead, .string ⟨B.text.toArray⟩, up, um, .int .u64 (B.flags.toNat : Int)] 40)) (.cells #[.int .i64 0, .int .i64 0, .int .i64 0, .bool false, .string ⟨#[]⟩, .slice none 0 0, .slice none 0 0, .int .u64 0] 40)
  have HZ := Kept.mk (cellsN_at ((w.alloc (.cells #[.int .i64 A.kind, .int .i64 A.time, .int .i64 A.node, .bool A.dead, .string ⟨A.text.toArray⟩, vp, vm, .int .u64 (A.flags.toNat : Int)] 40)).alloc (.cells #[.int .i64 B.kind, .int .i64 B.time, .int .i64 B.node, .bool B.dead, .string ⟨B.text.toArray⟩, up, um, .int .u64 (B.flags.toNat : Int)] 40)) 40 [.int .i64 0, .int .i64 0, .int .i64 0, .bool false, .string ⟨#[]⟩, .slice none 0 0, .slice none 0 0, .int .u64 0] (w.heap.size + 2) (by simp))
  have HF := Kept.mk (free5_at ((w.alloc (.cells #[.int .i64 A.kind, .int .i64 A.time, .int .i64 A.node, .bool A.dead, .string ⟨A.text.toArray⟩, vp, vm, .int .u64 (A.flags.toNat : Int)] 40)).alloc (.cells #[.int .i64 B.kind, .int .i64 B.time, .int .i64 B.node, .bool B.dead, .string ⟨B.text.toArray⟩, up, um, .int .u64 (B.flags.toNat : Int)] 40)) #[.int .i64 0, .int .i64 0, .int .i64 0, .bool false, .string ⟨#[]⟩, .slice none 0 0, .slice none 0 0, .int .u64 0] 40 (w.heap.size + 2) (by simp))
  replace hV := Kept.mk ((hV.out.keep hB2.out).keep hB3)
  replace hU := Kept.mk (hU.out.keep hB3)
  have hB := Kept.mk ((hB1.out.trans (hB2.out.mono hB1.out.size)).trans (hB3.mono (hB1.out.trans (hB2.out.mono hB1.out.size)).size))
  have hX := Kept.mk (show isVa A (.agg #[.int .i64 A.kind, .int .i64 A.time, .int .i64 A.node, .bool A.dead, .string ⟨A.text.toArray⟩, vp, vm, .int .u64 (A.flags.toNat : Int)]) (((w.alloc (.cells #[.int .i64 A.kind, .int .i64 A.time, .int .i64 A.node, .bool A.dead, .string ⟨A.text.toArray⟩, vp, vm, .int .u64 (A.flags.toNat : Int)] 40)).alloc (.cells #[.int .i64 B.kind, .int .i64 B.time, .int .i64 B.node, .bool B.dead, .string ⟨B.text.toArray⟩, up, um, .int .u64 (B.flags.toNat : Int)] 40)).alloc (.cells #[.int .i64 0, .int .i64 0, .int .i64 0, .bool false, .string ⟨#[]⟩, .slice none 0 0, .slice none 0 0, .int .u64 0] 40)) from ⟨vp, vm, rfl, stable_cells _ _ _ _ hp hB.out, stable_cells _ _ _ _ hm hB.out⟩)
  have hs : (((w.alloc (.cells #[.int .i64 A.kind, .int .i64 A.time, .int .i64 A.node, .bool A.dead, .string ⟨A.text.toArray⟩, vp, vm, .int .u64 (A.flags.toNat : Int)] 40)).alloc (.cells #[.int .i64 B.kind, .int .i64 B.time, .int .i64 B.node, .bool B.dead, .string ⟨B.text.toArray⟩, up, um, .int .u64 (B.flags.toNat : Int)] 40)).alloc (.cells #[.int .i64 0, .int .i64 0, .int .i64 0, .bool false, .string ⟨#[]⟩, .slice none 0 0, .slice none 0 0, .int .u64 0] 40)).heap.size = w.heap.size + 3 := by simp
  clear hp hm gp gm hB1 hB2 hB3
  have HO : Kept (okV A = true) := ⟨by unfold okV; rw [h]; rfl⟩
  have HC : Kept (checkV B = 0) := ⟨by unfold checkV; rw [h2]; rfl⟩
  have HK := Kept.mk h
  have HI : Kept (ifaceK 2 = .iface 143 (.agg #[])) := ⟨rfl⟩
  have d3 : (A.kind == B.kind) = true := by simpa using h3
  clear h h2 h3
  go_enter Tryz.func137, Tryz.ntmps137
  go_wp2_with fail
  generalize ((w.alloc (.cells #[.int .i64 A.kind, .int .i64 A.time, .int .i64 A.node, .bool A.dead, .string ⟨A.text.toArray⟩, vp, vm, .int .u64 (A.flags.toNat : Int)] 40)).alloc (.cells #[.int .i64 B.kind, .int .i64 B.time, .int .i64 B.node, .bool B.dead, .string ⟨B.text.toArray⟩, up, um, .int .u64 (B.flags.toNat : Int)] 40)).alloc (.cells #[.int .i64 0, .int .i64 0, .int .i64 0, .bool false, .string ⟨#[]⟩, .slice none 0 0, .slice none 0 0, .int .u64 0] 40) = W0 at *
  refine (kv_any A _ _ hX.out hA).mono ?_
  rintro e w1 ⟨rfl, hb1⟩
  replace hV := Kept.mk (hV.out.keep hb1)
  replace hU := Kept.mk (hU.out.keep hb1)
  replace HF := Kept.mk (HF.out.keep hb1 HZ.out.1)
  replace HZ := Kept.mk (HZ.out.keep hb1 HZ.out.1)
  replace hB := Kept.mk (hB.out.trans (hb1.mono hB.out.size))
  have hs1 := hb1.size
  clear hb1 hX
  rewrite [HO.out, HK.out, HI.out]
  obtain ⟨qb, rb, xb, _, _, kb0, kb1, kb2, kb3, kb4, kb5, kb6, kb7⟩ := hU.out.open_
  have Xb := Kept.mk xb
  clear xb
  go_wp2_with fail
  refine (vcheck_any B _ _ Xb.out hB0).mono ?_
  rintro e w2 ⟨rfl, hb2⟩
  replace hV := Kept.mk (hV.out.keep hb2)
  replace hU := Kept.mk (hU.out.keep hb2)
  replace HF := Kept.mk (HF.out.keep hb2 HZ.out.1)
  replace HZ := Kept.mk (HZ.out.keep hb2 HZ.out.1)
  replace hB := Kept.mk (hB.out.trans (hb2.mono hB.out.size))
  have hs2 := hb2.size
  rewrite [HC.out]
  clear hb2
  clear Xb kb0 kb1 kb2 kb3 kb4 kb5 kb6 kb7
  obtain ⟨qa, ra, xa, _, _, ka0, ka1, ka2, ka3, ka4, ka5, ka6, ka7⟩ := hV.out.open_
  have Xa := Kept.mk xa
  clear xa
  obtain ⟨qb, rb, xb, _, _, kb0, kb1, kb2, kb3, kb4, kb5, kb6, kb7⟩ := hU.out.open_
  have Xb := Kept.mk xb
  clear xb
  have hinv : ∀ W : World, (invoke (.fn (.method "ouroboros/value.join") #[]) #[.iface 143 (.agg #[]), .agg #[.int .i64 A.kind, .int .i64 A.time, .int .i64 A.node, .bool A.dead, .string ⟨A.text.toArray⟩, qa, ra, .int .u64 (A.flags.toNat : Int)], .agg #[.int .i64 B.kind, .int .i64 B.time, .int .i64 B.node, .bool B.dead, .string ⟨B.text.toArray⟩, qb, rb, .int .u64 (B.flags.toNat : Int)]]).run Tryz.prog W = .ok (.enter 174 #[.agg #[], .agg #[.int .i64 A.kind, .int .i64 A.time, .int .i64 A.node, .bool A.dead, .string ⟨A.text.toArray⟩, qa, ra, .int .u64 (A.flags.toNat : Int)], .agg #[.int .i64 B.kind, .int .i64 B.time, .int .i64 B.node, .bool B.dead, .string ⟨B.text.toArray⟩, qb, rb, .int .u64 (B.flags.toNat : Int)]]) W := fun W => by kernel_rfl
  go_wp2_with fail
  refine (countJoin_any A B _ _ _ Xa.out Xb.out l1 l2 l3 l4).mono ?_
  rintro e w3 ⟨v', rfl, ⟨p', m', rfl, hp1, hm1, np, nm⟩, hb3⟩
  have hZ1 := HZ.out.keep hb3 HZ.out.1
  have K1 := Kept.mk hZ1
  have K2 := Kept.mk (HF.out.keep hb3 HZ.out.1)
  obtain ⟨hBK, K4, K5⟩ := vset (joinCount A B) p' m' (g := w.heap.size + 2) (by omega) (hB.out.trans (hb3.mono hB.out.size)) hZ1 rfl hp1 hm1 (np.ne (by omega)) (nm.ne (by omega))
  obtain ⟨hc', hp', hm'⟩ := K4.out
  replace np := np.low (B' := w.heap.size) (by omega)
  replace nm := nm.low (B' := w.heap.size) (by omega)
  clear K4 hp1 hm1 hZ1 hb3 hinv
  clear Xa ka0 ka1 ka2 ka3 ka4 ka5 ka6 ka7
  clear Xb kb0 kb1 kb2 kb3 kb4 kb5 kb6 kb7
  go_wp2_with (refine wpList_storeN 40 rfl (.tmp 4) (.tmp 30) rfl (w.heap.size + 2) [.int .i64 (joinCount A B).kind, .int .i64 (joinCount A B).time, .int .i64 (joinCount A B).node, .bool (joinCount A B).dead, .string ⟨(joinCount A B).text.toArray⟩, p', m', .int .u64 ((joinCount A B).flags.toNat : Int)] size_va rfl rfl K1.out rfl K2.out K5.out ?_)
  exact bodyPost_ret (resultsN2 rfl _ _ (w.heap.size + 2) _ (.int .i64 0) size_va agg_va rfl rfl hc') rfl ⟨_, rfl, ⟨_, _, rfl, hp', hm', np, nm⟩, hBK.out⟩
set_option maxRecDepth 20000 in
set_option maxHeartbeats 1000000 in
theorem vjoin_flags (A B : Va) (v u : Value) (w : World) (hv : isVa A v w) (hu : isVa B u w) (hA : Fit A) (hB0 : Fit B) (h : kindN A = 3) (h2 : okV B = true) (h3 : A.kind = B.kind) :
    Calls Tryz.prog 137 #[v, u] w fun e w' => ∃ v', e = .returned (.tuple #[v', .int .i64 0]) ∧ isVaN w.heap.size (joinFlags A B) v' w' ∧ Below w.heap.size w w' := by
  obtain ⟨vp, vm, rfl, hp, hm⟩ := hv
  obtain ⟨up, um, rfl, gp, gm⟩ := hu
  obtain ⟨hB1, hV⟩ := vbox w A vp vm hp hm w.heap.size rfl
  obtain ⟨hB2, hU⟩ := vbox (w.alloc (.cells #[.int .i64 A.kind, .int .i64 A.time, .int .i64 A.node, .bool A.dead, .string ⟨A.text.toArray⟩, vp, vm, .int .u64 (A.flags.toNat : Int)] 40)) B up um (stable_cells _ _ _ _ gp hB1.out) (stable_cells _ _ _ _ gm hB1.out) (w.heap.size + 1) (by simp)
  have hB3 := lit_below ((w.alloc (.cells #[.int .i64 A.kind, .int .i64 A.time, .int .i64 A.node, .bool A.dead, .string ⟨A.text.toArray⟩, vp, vm, .int .u64 (A.flags.toNat : Int)] 40)).alloc (.cells #[.int .i64 B.kind, .int .i64 B.time, .int .i64 B.node, .bool B.dead, .string ⟨B.text.toArray⟩, up, um, .int .u64 (B.flags.toNat : Int)] 40)) (.cells #[.int .i64 0, .int .i64 0, .int .i64 0, .bool false, .string ⟨#[]⟩, .slice none 0 0, .slice none 0 0, .int .u64 0] 40)
  have HZ := Kept.mk (cellsN_at ((w.alloc (.cells #[.int .i64 A.kind, .int .i64 A.time, .int .i64 A.node, .bool A.dead, .string ⟨A.text.toArray⟩, vp, vm, .int .u64 (A.flags.toNat : Int)] 40)).alloc (.cells #[.int .i64 B.kind, .int .i64 B.time, .int .i64 B.node, .bool B.dead, .string ⟨B.text.toArray⟩, up, um, .int .u64 (B.flags.toNat : Int)] 40)) 40 [.int .i64 0, .int .i64 0, .int .i64 0, .bool false, .string ⟨#[]⟩, .slice none 0 0, .slice none 0 0, .int .u64 0] (w.heap.size + 2) (by simp))
  have HF := Kept.mk (free5_at ((w.alloc (.cells #[.int .i64 A.kind, .int .i64 A.time, .int .i64 A.node, .bool A.dead, .string ⟨A.text.toArray⟩, vp, vm, .int .u64 (A.flags.toNat : Int)] 40)).alloc (.cells #[.int .i64 B.kind, .int .i64 B.time, .int .i64 B.node, .bool B.dead, .string ⟨B.text.toArray⟩, up, um, .int .u64 (B.flags.toNat : Int)] 40)) #[.int .i64 0, .int .i64 0, .int .i64 0, .bool false, .string ⟨#[]⟩, .slice none 0 0, .slice none 0 0, .int .u64 0] 40 (w.heap.size + 2) (by simp))
  replace hV := Kept.mk ((hV.out.keep hB2.out).keep hB3)
  replace hU := Kept.mk (hU.out.keep hB3)
  have hB := Kept.mk ((hB1.out.trans (hB2.out.mono hB1.out.size)).trans (hB3.mono (hB1.out.trans (hB2.out.mono hB1.out.size)).size))
  have hX := Kept.mk (show isVa A (.agg #[.int .i64 A.kind, .int .i64 A.time, .int .i64 A.node, .bool A.dead, .string ⟨A.text.toArray⟩, vp, vm, .int .u64 (A.flags.toNat : Int)]) (((w.alloc (.cells #[.int .i64 A.kind, .int .i64 A.time, .int .i64 A.node, .bool A.dead, .string ⟨A.text.toArray⟩, vp, vm, .int .u64 (A.flags.toNat : Int)] 40)).alloc (.cells #[.int .i64 B.kind, .int .i64 B.time, .int .i64 B.node, .bool B.dead, .string ⟨B.text.toArray⟩, up, um, .int .u64 (B.flags.toNat : Int)] 40)).alloc (.cells #[.int .i64 0, .int .i64 0, .int .i64 0, .bool false, .string ⟨#[]⟩, .slice none 0 0, .slice none 0 0, .int .u64 0] 40)) from ⟨vp, vm, rfl, stable_cells _ _ _ _ hp hB.out, stable_cells _ _ _ _ hm hB.out⟩)
  have hs : (((w.alloc (.cells #[.int .i64 A.kind, .int .i64 A.time, .int .i64 A.node, .bool A.dead, .string ⟨A.text.toArray⟩, vp, vm, .int .u64 (A.flags.toNat : Int)] 40)).alloc (.cells #[.int .i64 B.kind, .int .i64 B.time, .int .i64 B.node, .bool B.dead, .string ⟨B.text.toArray⟩, up, um, .int .u64 (B.flags.toNat : Int)] 40)).alloc (.cells #[.int .i64 0, .int .i64 0, .int .i64 0, .bool false, .string ⟨#[]⟩, .slice none 0 0, .slice none 0 0, .int .u64 0] 40)).heap.size = w.heap.size + 3 := by simp
  clear hp hm gp gm hB1 hB2 hB3
  have HO : Kept (okV A = true) := ⟨by unfold okV; rw [h]; rfl⟩
  have HC : Kept (checkV B = 0) := ⟨by unfold checkV; rw [h2]; rfl⟩
  have HK := Kept.mk h
  have HI : Kept (ifaceK 3 = .iface 144 (.agg #[])) := ⟨rfl⟩
  have d3 : (A.kind == B.kind) = true := by simpa using h3
  clear h h2 h3
  go_enter Tryz.func137, Tryz.ntmps137
  go_wp2_with fail
  generalize ((w.alloc (.cells #[.int .i64 A.kind, .int .i64 A.time, .int .i64 A.node, .bool A.dead, .string ⟨A.text.toArray⟩, vp, vm, .int .u64 (A.flags.toNat : Int)] 40)).alloc (.cells #[.int .i64 B.kind, .int .i64 B.time, .int .i64 B.node, .bool B.dead, .string ⟨B.text.toArray⟩, up, um, .int .u64 (B.flags.toNat : Int)] 40)).alloc (.cells #[.int .i64 0, .int .i64 0, .int .i64 0, .bool false, .string ⟨#[]⟩, .slice none 0 0, .slice none 0 0, .int .u64 0] 40) = W0 at *
  refine (kv_any A _ _ hX.out hA).mono ?_
  rintro e w1 ⟨rfl, hb1⟩
  replace hV := Kept.mk (hV.out.keep hb1)
  replace hU := Kept.mk (hU.out.keep hb1)
  replace HF := Kept.mk (HF.out.keep hb1 HZ.out.1)
  replace HZ := Kept.mk (HZ.out.keep hb1 HZ.out.1)
  replace hB := Kept.mk (hB.out.trans (hb1.mono hB.out.size))
  have hs1 := hb1.size
  clear hb1 hX
  rewrite [HO.out, HK.out, HI.out]
  obtain ⟨qb, rb, xb, _, _, kb0, kb1, kb2, kb3, kb4, kb5, kb6, kb7⟩ := hU.out.open_
  have Xb := Kept.mk xb
  clear xb
  go_wp2_with fail
  refine (vcheck_any B _ _ Xb.out hB0).mono ?_
  rintro e w2 ⟨rfl, hb2⟩
  replace hV := Kept.mk (hV.out.keep hb2)
  replace hU := Kept.mk (hU.out.keep hb2)
  replace HF := Kept.mk (HF.out.keep hb2 HZ.out.1)
  replace HZ := Kept.mk (HZ.out.keep hb2 HZ.out.1)
  replace hB := Kept.mk (hB.out.trans (hb2.mono hB.out.size))
  have hs2 := hb2.size
  rewrite [HC.out]
  clear hb2
  clear Xb kb0 kb1 kb2 kb3 kb4 kb5 kb6 kb7
  obtain ⟨qa, ra, xa, _, _, ka0, ka1, ka2, ka3, ka4, ka5, ka6, ka7⟩ := hV.out.open_
  have Xa := Kept.mk xa
  clear xa
  obtain ⟨qb, rb, xb, _, _, kb0, kb1, kb2, kb3, kb4, kb5, kb6, kb7⟩ := hU.out.open_
  have Xb := Kept.mk xb
  clear xb
  have hinv : ∀ W : World, (invoke (.fn (.method "ouroboros/value.join") #[]) #[.iface 144 (.agg #[]), .agg #[.int .i64 A.kind, .int .i64 A.time, .int .i64 A.node, .bool A.dead, .string ⟨A.text.toArray⟩, qa, ra, .int .u64 (A.flags.toNat : Int)], .agg #[.int .i64 B.kind, .int .i64 B.time, .int .i64 B.node, .bool B.dead, .string ⟨B.text.toArray⟩, qb, rb, .int .u64 (B.flags.toNat : Int)]]).run Tryz.prog W = .ok (.enter 188 #[.agg #[], .agg #[.int .i64 A.kind, .int .i64 A.time, .int .i64 A.node, .bool A.dead, .string ⟨A.text.toArray⟩, qa, ra, .int .u64 (A.flags.toNat : Int)], .agg #[.int .i64 B.kind, .int .i64 B.time, .int .i64 B.node, .bool B.dead, .string ⟨B.text.toArray⟩, qb, rb, .int .u64 (B.flags.toNat : Int)]]) W := fun W => by kernel_rfl
  go_wp2_with fail
  refine (flagsJoin_any A B _ _ _ Xa.out Xb.out).mono ?_
  rintro e w3 ⟨v', rfl, ⟨p', m', rfl, hp1, hm1, np, nm⟩, hb3⟩
  have hZ1 := HZ.out.keep hb3 HZ.out.1
  have K1 := Kept.mk hZ1
  have K2 := Kept.mk (HF.out.keep hb3 HZ.out.1)
  obtain ⟨hBK, K4, K5⟩ := vset (joinFlags A B) p' m' (g := w.heap.size + 2) (by omega) (hB.out.trans (hb3.mono hB.out.size)) hZ1 rfl hp1 hm1 (np.ne (by omega)) (nm.ne (by omega))
  obtain ⟨hc', hp', hm'⟩ := K4.out
  replace np := np.low (B' := w.heap.size) (by omega)
  replace nm := nm.low (B' := w.heap.size) (by omega)
  clear K4 hp1 hm1 hZ1 hb3 hinv
  clear Xa ka0 ka1 ka2 ka3 ka4 ka5 ka6 ka7
  clear Xb kb0 kb1 kb2 kb3 kb4 kb5 kb6 kb7
  go_wp2_with (refine wpList_storeN 40 rfl (.tmp 4) (.tmp 30) rfl (w.heap.size + 2) [.int .i64 (joinFlags A B).kind, .int .i64 (joinFlags A B).time, .int .i64 (joinFlags A B).node, .bool (joinFlags A B).dead, .string ⟨(joinFlags A B).text.toArray⟩, p', m', .int .u64 ((joinFlags A B).flags.toNat : Int)] size_va rfl rfl K1.out rfl K2.out K5.out ?_)
  exact bodyPost_ret (resultsN2 rfl _ _ (w.heap.size + 2) _ (.int .i64 0) size_va agg_va rfl rfl hc') rfl ⟨_, rfl, ⟨_, _, rfl, hp', hm', np, nm⟩, hBK.out⟩
theorem vjoin_any (A B : Va) (v u : Value) (w : World) (hv : isVa A v w) (hu : isVa B u w) (hA : Fit A) (hB0 : Fit B) :
    Calls Tryz.prog 137 #[v, u] w fun e w' => ∃ v', e = .returned (.tuple #[v', .int .i64 (joinE A B)]) ∧ isVaN w.heap.size (joinF A B) v' w' ∧ Below w.heap.size w w' := by
  cases h1 : okV A with
  | false =>
    have e : joinE A B = 2 := by unfold joinE; rw [h1]; rfl
    rw [show joinF A B = zeroV by unfold joinF; rw [e]; rfl, e]
    exact vjoin_no1 A B v u w hv hu hA hB0 h1
  | true =>
    cases h2 : okV B with
    | false =>
      have e : joinE A B = 2 := by unfold joinE; rw [h1, h2]; rfl
      rw [show joinF A B = zeroV by unfold joinF; rw [e]; rfl, e]
      exact vjoin_no2 A B v u w hv hu hA hB0 h1 h2
    | true =>
      by_cases h3 : A.kind = B.kind
      · have e : joinE A B = 0 := joinE_zero.2 ⟨h1, h2, h3⟩
        have hk := kindN_ok h1
        rw [joinF_ok e, e]
        rcases ok_kind h1 with k | k | k
        · rw [joinV_reg k]; exact vjoin_reg A B v u w hv hu hA hB0 (by omega) h2 h3
        · have r1 := kindN_two (show kindN A = 2 by omega)
          have r2 := kindN_two (show kindN B = 2 by have := kindN_ok h2; omega)
          rw [joinV_count k]; exact vjoin_count A B v u w hv hu hA hB0 (by omega) h2 h3 (okRow_len r1.2.2.1) (okRow_len r1.2.2.2) (okRow_len r2.2.2.1) (okRow_len r2.2.2.2)
        · rw [joinV_flags k]; exact vjoin_flags A B v u w hv hu hA hB0 (by omega) h2 h3
      · have e : joinE A B = 3 := by unfold joinE; rw [h1, h2]; simp [h3]
        rw [show joinF A B = zeroV by unfold joinF; rw [e]; rfl, e]
        exact vjoin_no3 A B v u w hv hu hA hB0 h1 h2 h3
end Go.Proofs.YtmbnhlhanckkiaaGreat
end
section
namespace Go.Proofs.YtmbnhlhanckkiaaGreat
open Go.RowKit
set_option linter.unusedVariables false
set_option linter.unusedSimpArgs false
attribute [local irreducible] setN

theorem fit_zero : Fit zeroV := ⟨by decide, by decide, by decide⟩
theorem zip_len (l m : List Int) (h : l.length ≤ 1000000) : (List.zipWith maxI l m).length ≤ 1000000 := by rw [List.length_zipWith]; omega
theorem fit_join {A B : Va} (h1 : Fit A) (h2 : Fit B) : Fit (joinF A B) := by
  unfold joinF
  split
  · unfold joinV
    split
    · unfold joinReg
      split
      · exact ⟨h1.text, Nat.zero_le _, Nat.zero_le _⟩
      · exact ⟨h2.text, Nat.zero_le _, Nat.zero_le _⟩
    · split
      · exact ⟨Nat.zero_le _, zip_len _ _ h1.plus, zip_len _ _ h1.minus⟩
      · exact ⟨Nat.zero_le _, Nat.zero_le _, Nat.zero_le _⟩
  · exact fit_zero
theorem vsame_fit (A B : Va) (v u : Value) (w : World) (hv : isVa A v w) (hu : isVa B u w) (h1 : Fit A) (h2 : Fit B) :
    Calls Tryz.prog 119 #[v, u] w fun e w' => e = .returned (.bool (decide (A = B))) ∧ Below w.heap.size w w' :=
  vsame_any A B v u w hv hu (by have := h1.plus; omega) (by have := h1.minus; omega) (by have := h2.plus; omega) (by have := h2.minus; omega)
def fewV (A : Va) : Bool := decide ((A.text.length : Int) ≤ 100) && decide ((A.plus.length : Int) ≤ 40) && decide ((A.minus.length : Int) ≤ 40)
theorem few_fit {A : Va} (h : fewV A = true) : Fit A := by
  unfold fewV at h
  simp only [Bool.and_eq_true, decide_eq_true_eq] at h
  exact ⟨by omega, by omega, by omega⟩
set_option maxRecDepth 20000 in
set_option maxHeartbeats 1000000 in
theorem vfew_any (A : Va) (v : Value) (w : World) (hv : isVa A v w) :
    Calls Tryz.prog 69 #[v] w fun e w' => e = .returned (.bool (fewV A)) ∧ Below w.heap.size w w' := by
  obtain ⟨vp, vm, rfl, hp, hm⟩ := hv
  obtain ⟨hB, _⟩ := vbox w A vp vm hp hm w.heap.size rfl
  obtain ⟨a, cap, rfl⟩ := hp.len
  obtain ⟨a2, cap2, rfl⟩ := hm.len
  clear hp hm
  rw [List.length_map, List.length_map] at *
  have HS := Kept.mk (show fewV A = (decide ((A.text.length : Int) ≤ 100) && decide ((A.plus.length : Int) ≤ 40) && decide ((A.minus.length : Int) ≤ 40)) from rfl)
  have hsz : (⟨A.text.toArray⟩ : ByteArray).size = A.text.length := size_mk _
  cases d1 : decide ((A.text.length : Int) ≤ 100) with
  | false =>
    go_enter Tryz.func69, Tryz.ntmps69
    go_wp2
    go_ret
    exact ⟨by rw [HS.out, d1]; rfl, hB.out⟩
  | true =>
    cases d2 : decide ((A.plus.length : Int) ≤ 40) with
    | false =>
      go_enter Tryz.func69, Tryz.ntmps69
      go_wp2
      go_ret
      exact ⟨by rw [HS.out, d1, d2]; rfl, hB.out⟩
    | true =>
      go_enter Tryz.func69, Tryz.ntmps69
      go_wp2
      go_ret
      exact ⟨by rw [HS.out, d1, d2]; rfl, hB.out⟩
end Go.Proofs.YtmbnhlhanckkiaaGreat
end
section
namespace Go.Proofs.YtmbnhlhanckkiaaGreat
open Go.RowKit Go.ChangeShapes Go.WideShapes
set_option linter.unusedVariables false
set_option linter.unusedSimpArgs false

theorem spot_none {w : World} {a : Addr} {v : Value} (h : w.cell? a = some v) : a = ⟨a.block, a.off, none⟩ := by
  obtain ⟨b, o, s⟩ := a
  cases s with
  | none => rfl
  | some s =>
    simp only [World.cell?] at h
    split at h <;> simp at h
theorem add_plain (b o i : Nat) : (⟨b, o, none⟩ : Addr).add i = ⟨b, o + i, none⟩ := by
  by_cases e : i = 0
  · subst e; simp [Addr.add]
  · simp [Addr.add, e]
/-- A row that came in. -/
theorem cells_came {w : World} {a : Addr} {len cap : Nat} (cs : List Value) (hl : cs.length = len) (hc : ∀ (i : Nat) (x : Value), cs[i]? = some x → w.cell? (a.add i) = some x) : isCells cs (.slice (some a) len cap) w := by
  cases cs with
  | nil => subst hl; exact .inr (.inl ⟨a, cap, rfl, rfl⟩)
  | cons x cs =>
    have h0 := hc 0 x rfl
    have e0 : a.add 0 = a := by simp [Addr.add]
    rw [e0] at h0
    have ha := spot_none h0
    rw [ha] at hc ⊢
    subst hl
    refine .inr (.inr ⟨a.block, a.off, cap, rfl, ?_, fun j y hy => ?_⟩)
    · simp only [World.cell?] at h0
      split at h0
      · rename_i h; exact (Array.getElem?_eq_some_iff.1 h).1
      · simp at h0
    · have := hc j y hy
      rwa [add_plain] at this
section
variable {W : World} {H : Type} {enc : TypeId × Value → H} {base : Nat} {spare : Nat → Bool} {held : Bool} {n : Nat}
theorem open_row {v : Value} {y : DataW H × List MemPlace} (g : DataW.trod enc Tryz.prog W base spare held n 23 [v] = some y) :
    ∃ l : List Int, isCells (l.map intC) v W ∧ l.length ≤ maxLen ∧ (∀ x ∈ l, (Lit.int .i64 x).wf = true) := by
  rcases open_ints Tryz.underlying23 Tryz.underlying3 (by kernel_rfl) g with ⟨hc, _⟩ | ⟨a, len, cap, zs, hc, _, hl, hm, hz, hx0, hcell, hs⟩
  · injection hc with hc _
    subst hc
    exact ⟨[], .inl ⟨rfl, rfl⟩, Nat.zero_le _, (fun s hs => by simp at hs)⟩
  · injection hc with hc _
    subst hc
    have hle : len ≤ zs.length := by rw [hz]; split <;> omega
    refine ⟨zs.take len, cells_came _ (by simp; omega) (fun i x hx => ?_), by simp; omega, (fun s h => hs s (List.mem_of_mem_take h))⟩
    have hi : i < len := by have := (List.getElem?_eq_some_iff.1 hx).1; simp at this; omega
    rw [hcell i (by omega)]
    rw [List.getElem?_map, List.getElem?_take, if_pos hi, List.getElem?_eq_getElem (by omega : i < zs.length)] at hx
    simp only [Option.map_some, Option.some.injEq] at hx
    rw [← hx]
    simp [List.getD_eq_getElem?_getD, show i < zs.length by omega, intC]
end
theorem wf_u64 {x : Int} (h : (Lit.int .u64 x).wf = true) : 0 ≤ x ∧ x ≤ 18446744073709551615 := by
  unfold Lit.wf at h
  rw [Bool.and_eq_true] at h
  exact ⟨of_decide_eq_true h.1, of_decide_eq_true h.2⟩
/-- What a value that came in is. -/
structure CameV (A : Va) : Prop where
  kind : (Lit.int .i64 A.kind).wf = true
  time : (Lit.int .i64 A.time).wf = true
  node : (Lit.int .i64 A.node).wf = true
  text : A.text.length ≤ maxLen
  plus : ∀ x ∈ A.plus, (Lit.int .i64 x).wf = true
  minus : ∀ x ∈ A.minus, (Lit.int .i64 x).wf = true
  np : A.plus.length ≤ maxLen
  nm : A.minus.length ≤ maxLen
end Go.Proofs.YtmbnhlhanckkiaaGreat
end
section
namespace Go.Proofs.YtmbnhlhanckkiaaGreat
open Go.RowKit
set_option linter.unusedVariables false
set_option linter.unusedSimpArgs false
attribute [local irreducible] setN

def noCountB (A : Va) : Bool := decide (A.plus.length + A.minus.length = 0)
def noRegB (A : Va) : Bool := (A.time == 0) && (A.node == 0) && !A.dead && A.text.isEmpty
set_option maxRecDepth 20000 in
set_option maxHeartbeats 1000000 in
theorem noCount_any (A : Va) (v : Value) (w : World) (hv : isVa A v w) (hF : Fit A) :
    Calls Tryz.prog 140 #[v] w fun e w' => e = .returned (.bool (noCountB A)) ∧ Below w.heap.size w w' := by
  obtain ⟨vp, vm, rfl, hp, hm⟩ := hv
  obtain ⟨hB, _⟩ := vbox w A vp vm hp hm w.heap.size rfl
  obtain ⟨a, cap, rfl⟩ := hp.len
  obtain ⟨a2, cap2, rfl⟩ := hm.len
  clear hp hm
  rw [List.length_map, List.length_map] at *
  have h1 := hF.plus
  have h2 := hF.minus
  have HS := Kept.mk (show noCountB A = ((A.plus.length : Int) + (A.minus.length : Int) == 0) by unfold noCountB; rw [Bool.eq_iff_iff, decide_eq_true_eq, beq_iff_eq]; omega)
  generalize A.plus.length = n1 at *
  generalize A.minus.length = n2 at *
  go_enter Tryz.func140, Tryz.ntmps140
  go_wp2
  go_ret
  exact ⟨by rw [HS.out]; rfl, hB.out⟩
set_option maxRecDepth 20000 in
set_option maxHeartbeats 1000000 in
theorem noReg_any (A : Va) (v : Value) (w : World) (hv : isVa A v w) :
    Calls Tryz.prog 142 #[v] w fun e w' => e = .returned (.bool (noRegB A)) ∧ Below w.heap.size w w' := by
  obtain ⟨vp, vm, rfl, hp, hm⟩ := hv
  obtain ⟨hB, _⟩ := vbox w A vp vm hp hm w.heap.size rfl
  clear hp hm
  have HS := Kept.mk (show noRegB A = ((A.time == 0) && (A.node == 0) && !A.dead && A.text.isEmpty) from rfl)
  cases d0 : (A.time == 0) with
  | false =>
    go_enter Tryz.func142, Tryz.ntmps142
    go_wp2
    go_ret
    exact ⟨by rw [HS.out, d0]; rfl, hB.out⟩
  | true =>
    cases d1 : (A.node == 0) with
    | false =>
      go_enter Tryz.func142, Tryz.ntmps142
      go_wp2
      go_ret
      exact ⟨by rw [HS.out, d0, d1]; rfl, hB.out⟩
    | true =>
      cases d2 : A.dead with
      | true =>
        rw [d2] at hB
        go_enter Tryz.func142, Tryz.ntmps142
        go_wp2
        go_ret
        exact ⟨by rw [HS.out, d0, d1, d2]; rfl, hB.out⟩
      | false =>
        rw [d2] at hB
        go_enter Tryz.func142, Tryz.ntmps142
        go_wp2
        go_ret
        exact ⟨by rw [HS.out, d0, d1, d2]; rfl, hB.out⟩
set_option maxRecDepth 20000 in
set_option maxHeartbeats 1000000 in
theorem counts_any (l : List Int) (v : Value) (w : World) (hv : isCells (l.map intC) v w) (hl : l.length ≤ 1000000) :
    Calls Tryz.prog 141 #[v] w fun e w' => e = .returned (.bool (okRow l)) ∧ w = w' := by
  obtain ⟨a, cap, hva⟩ := hv.len
  rw [List.length_map] at hva
  subst hva
  have HV := Kept.mk hv
  clear hv
  go_enter Tryz.func141, Tryz.ntmps141
  go_wp2
  go_loop [3] (fun i => ∃ k : Nat, k ≤ l.length ∧ i = .int .i64 (k : Int) ∧ Kept ((l.take k).all okNum = true)) (fun i => l.length - (intOf i).toNat)
  case atStart => exact ⟨0, Nat.zero_le _, rfl, ⟨rfl⟩⟩
  case round =>
    obtain ⟨k, hk, rfl, HB⟩ := hrel
    by_cases hlt : k < l.length
    · obtain ⟨b, off, cap', hs, hb, hc⟩ := HV.out.some_ (by rw [List.length_map]; omega)
      rw [List.length_map] at hs
      injection hs with h1 h2 h3
      subst h1 h3
      have hcell := hc k _ (get_map intC l k hlt)
      have HD := Kept.mk (show (l.take (k + 1)).all okNum = ((l.take k).all okNum && okNum l[k]) by rw [List.take_succ_eq_append_getElem hlt, List.all_append]; simp)
      have HM := Kept.mk (List.getElem_mem hlt)
      obtain ⟨x, hx⟩ : ∃ x, x = l[k] := ⟨_, rfl⟩
      rw [← hx] at hcell HD HM
      unfold intC at hcell
      clear hc hx
      have d0 : decide ((k : Int) < (l.length : Int)) = true := by simp; omega
      have bad : okNum x = false → okRow l = false := fun h => by
        unfold okRow
        rw [Bool.and_eq_false_iff]
        right
        rw [List.all_eq_false]
        exact ⟨x, HM.out, by rw [h]; simp⟩
      by_cases hz : x < 0
      · have d : decide (x < 0) = true := by simpa using hz
        have HR := Kept.mk (bad (by unfold okNum; simp; omega))
        clear hz bad
        go_wp2
        all_goals go_ret
        all_goals exact ⟨by rw [HR.out]; rfl, rfl⟩
      · have d : decide (x < 0) = false := by simpa using hz
        by_cases hy : 65535 < x
        · have d2 : decide (65535 < x) = true := by simpa using hy
          have HR := Kept.mk (bad (by unfold okNum; simp; omega))
          clear hz hy bad
          go_wp2
          all_goals go_ret
          all_goals exact ⟨by rw [HR.out]; rfl, rfl⟩
        · have d2 : decide (65535 < x) = false := by simpa using hy
          have HR := Kept.mk (show (l.take (k + 1)).all okNum = true by rw [HD.out, HB.out, Bool.true_and]; unfold okNum; simp; omega)
          clear hz hy bad
          go_wp2
          all_goals go_round
          case rel => exact ⟨k + 1, by omega, by go_num, HR⟩
          case measure => simp [intOf]; omega
    · have HR := Kept.mk (show okRow l = ((l.length : Int) == 8) by
        have := HB.out
        rw [List.take_of_length_le (by omega)] at this
        unfold okRow
        rw [this, Bool.and_true, Bool.eq_iff_iff]
        simp
        omega)
      have d0 : decide ((k : Int) < (l.length : Int)) = false := by simp; omega
      go_wp2
      go_ret
      exact ⟨by rw [HR.out]; rfl, rfl⟩
theorem flags_zero (fl : UInt64) : fl = 0 ↔ (fl.toNat : Int) = 0 := by
  rw [← UInt64.toNat_inj]
  simp
theorem beq_nil (l : List UInt8) : (l == []) = l.isEmpty := by cases l <;> rfl
theorem ok_regs (A : Va) (h : A.kind = 1) : okV A = (decide (0 ≤ A.time) && decide (A.time ≤ 2147483647) && decide (0 ≤ A.node) && decide (A.node ≤ 7) && decide ((A.text.length : Int) ≤ 8) && (!A.dead || A.text.isEmpty) && noCountB A && ((A.flags.toNat : Int) == 0)) := by
  rw [Bool.eq_iff_iff]
  constructor
  · intro ho
    obtain ⟨r1, r2⟩ := ok_reg ho h
    have e1 : A.plus = [] := congrArg Va.plus r2
    have e2 : A.minus = [] := congrArg Va.minus r2
    have e3 : A.flags = 0 := congrArg Va.flags r2
    unfold inReg at r1
    rw [beq_nil] at r1
    simp only [Bool.and_eq_true, decide_eq_true_eq] at r1
    obtain ⟨⟨⟨⟨c1, c2⟩, ⟨c3, c4⟩⟩, c5⟩, c6⟩ := r1
    simp only [Bool.and_eq_true, decide_eq_true_eq]
    exact ⟨⟨⟨⟨⟨⟨⟨c1, c2⟩, c3⟩, c4⟩, c5⟩, c6⟩, by unfold noCountB; rw [e1, e2]; rfl⟩, by rw [e3]; rfl⟩
  · intro hh
    simp only [Bool.and_eq_true, decide_eq_true_eq] at hh
    obtain ⟨⟨⟨⟨⟨⟨⟨c1, c2⟩, c3⟩, c4⟩, c5⟩, c6⟩, c7⟩, c8⟩ := hh
    unfold noCountB at c7
    simp only [decide_eq_true_eq] at c7
    have e1 : A.plus = [] := List.eq_nil_of_length_eq_zero (by omega)
    have e2 : A.minus = [] := List.eq_nil_of_length_eq_zero (by omega)
    have e3 : A.flags = 0 := (flags_zero _).2 (by simpa using c8)
    refine reg_ok h ?_ ?_
    · unfold inReg
      rw [beq_nil]
      simp only [Bool.and_eq_true, decide_eq_true_eq]
      exact ⟨⟨⟨⟨c1, c2⟩, ⟨c3, c4⟩⟩, c5⟩, c6⟩
    · unfold onlyReg
      obtain ⟨k, t, n, d, tx, p, mi, fl⟩ := A
      simp only at h e1 e2 e3
      subst h e1 e2 e3
      rfl
theorem ok_counts (A : Va) (h : A.kind = 2) : okV A = (okRow A.plus && okRow A.minus && noRegB A && ((A.flags.toNat : Int) == 0)) := by
  rw [Bool.eq_iff_iff]
  constructor
  · intro ho
    obtain ⟨r1, r2⟩ := ok_count ho h
    have e1 : A.time = 0 := congrArg Va.time r2
    have e2 : A.node = 0 := congrArg Va.node r2
    have e3 : A.flags = 0 := congrArg Va.flags r2
    have e4 : A.dead = false := congrArg Va.dead r2
    have e5 : A.text = [] := congrArg Va.text r2
    unfold inCount at r1
    rw [r1, e3]
    unfold noRegB
    rw [e1, e2, e4, e5]
    rfl
  · intro hh
    simp only [Bool.and_eq_true] at hh
    obtain ⟨⟨⟨c1, c2⟩, c3⟩, c8⟩ := hh
    unfold noRegB at c3
    simp only [Bool.and_eq_true, beq_iff_eq] at c3
    obtain ⟨⟨⟨e1, e2⟩, e4⟩, e5⟩ := c3
    have e3 : A.flags = 0 := (flags_zero _).2 (by simpa using c8)
    refine count_ok h (by unfold inCount; rw [c1, c2]; rfl) ?_
    unfold onlyCount
    obtain ⟨k, t, n, d, tx, p, mi, fl⟩ := A
    simp only at h e1 e2 e3 e4 e5
    have e4' : d = false := by simpa using e4
    have e5' : tx = [] := by simpa using e5
    subst h e1 e2 e3 e4' e5'
    rfl
theorem ok_flagss (A : Va) (h : A.kind = 3) : okV A = (noRegB A && noCountB A) := by
  rw [Bool.eq_iff_iff]
  constructor
  · intro ho
    have r2 := ok_flags ho h
    have e1 : A.time = 0 := congrArg Va.time r2
    have e2 : A.node = 0 := congrArg Va.node r2
    have e4 : A.dead = false := congrArg Va.dead r2
    have e5 : A.text = [] := congrArg Va.text r2
    have e6 : A.plus = [] := congrArg Va.plus r2
    have e7 : A.minus = [] := congrArg Va.minus r2
    unfold noRegB noCountB
    rw [e1, e2, e4, e5, e6, e7]
    rfl
  · intro hh
    simp only [Bool.and_eq_true] at hh
    obtain ⟨c3, c7⟩ := hh
    unfold noRegB at c3
    simp only [Bool.and_eq_true, beq_iff_eq] at c3
    obtain ⟨⟨⟨e1, e2⟩, e4⟩, e5⟩ := c3
    unfold noCountB at c7
    simp only [decide_eq_true_eq] at c7
    have e6 : A.plus = [] := List.eq_nil_of_length_eq_zero (by omega)
    have e7 : A.minus = [] := List.eq_nil_of_length_eq_zero (by omega)
    refine flags_ok h ?_
    unfold onlyFlags
    obtain ⟨k, t, n, d, tx, p, mi, fl⟩ := A
    simp only at h e1 e2 e4 e5 e6 e7
    have e4' : d = false := by simpa using e4
    have e5' : tx = [] := by simpa using e5
    subst h e1 e2 e4' e5' e6 e7
    rfl
set_option maxRecDepth 20000 in
set_option maxHeartbeats 1000000 in
theorem rcheck_reg (A : Va) (v : Value) (w : World) (hv : isVa A v w) (hF : Fit A) (hk : A.kind = 1) :
    Calls Tryz.prog 132 #[v] w fun e w' => e = .returned (.bool (okV A)) ∧ Below w.heap.size w w' := by
  obtain ⟨vp, vm, rfl, hp, hm⟩ := hv
  obtain ⟨hB, hV⟩ := vbox w A vp vm hp hm w.heap.size rfl
  have HP := Kept.mk (stable_cells _ _ _ _ hp hB.out)
  have HM := Kept.mk (stable_cells _ _ _ _ hm hB.out)
  have HXa := Kept.mk (show isVa A (.agg #[.int .i64 A.kind, .int .i64 A.time, .int .i64 A.node, .bool A.dead, .string ⟨A.text.toArray⟩, vp, vm, .int .u64 (A.flags.toNat : Int)]) (w.alloc (.cells #[.int .i64 A.kind, .int .i64 A.time, .int .i64 A.node, .bool A.dead, .string ⟨A.text.toArray⟩, vp, vm, .int .u64 (A.flags.toNat : Int)] 40)) from ⟨vp, vm, rfl, HP.out, HM.out⟩)
  clear hp hm
  have HS := Kept.mk (ok_regs A hk)
  have kk : (A.kind == 1) = true := by simpa using hk
  have hsz : (⟨A.text.toArray⟩ : ByteArray).size = A.text.length := size_mk _
  clear hk
  cases d0 : decide (0 ≤ A.time) with
  | false =>
    go_enter Tryz.func132, Tryz.ntmps132
    go_wp2
    all_goals go_ret
    all_goals exact ⟨by rw [HS.out, d0]; rfl, hB.out⟩
  | true =>
    cases d1 : decide (A.time ≤ 2147483647) with
    | false =>
      go_enter Tryz.func132, Tryz.ntmps132
      go_wp2
      all_goals go_ret
      all_goals exact ⟨by rw [HS.out, d0, d1]; rfl, hB.out⟩
    | true =>
      cases d2 : decide (0 ≤ A.node) with
      | false =>
        go_enter Tryz.func132, Tryz.ntmps132
        go_wp2
        all_goals go_ret
        all_goals exact ⟨by rw [HS.out, d0, d1, d2]; rfl, hB.out⟩
      | true =>
        cases d3 : decide (A.node ≤ 7) with
        | false =>
          go_enter Tryz.func132, Tryz.ntmps132
          go_wp2
          all_goals go_ret
          all_goals exact ⟨by rw [HS.out, d0, d1, d2, d3]; rfl, hB.out⟩
        | true =>
          cases d4 : decide ((A.text.length : Int) ≤ 8) with
          | false =>
            go_enter Tryz.func132, Tryz.ntmps132
            go_wp2
            all_goals go_ret
            all_goals exact ⟨by rw [HS.out, d0, d1, d2, d3, d4]; rfl, hB.out⟩
          | true =>
            cases dd : A.dead with
            | false =>
              rw [dd] at hB hV HXa HS
              have dd2 := Kept.mk dd
              clear dd
              go_enter Tryz.func132, Tryz.ntmps132
              go_wp2_with fail
              ((with_reducible refine (noCount_any A _ _ HXa.out hF).mono ?_); rintro e w1 ⟨rfl, hb1⟩)
              obtain ⟨q, r, -, -, -, k0, k1, k2, k3, k4, k5, k6, k7⟩ := (hV.out.keep hb1).open_
              replace hB := Kept.mk (hB.out.trans (hb1.mono hB.out.size))
              clear hb1
              cases dn : noCountB A with
              | false =>
                go_wp2
                all_goals go_ret
                all_goals exact ⟨by rw [HS.out, d0, d1, d2, d3, d4, dn]; rfl, hB.out⟩
              | true =>
                go_wp2
                all_goals go_ret
                all_goals exact ⟨by rw [HS.out, d0, d1, d2, d3, d4, dn]; rfl, hB.out⟩
            | true =>
              rw [dd] at hB hV HXa HS
              clear dd
              cases de : A.text.isEmpty with
              | false =>
                go_enter Tryz.func132, Tryz.ntmps132
                go_wp2
                all_goals go_ret
                all_goals exact ⟨by rw [HS.out, d0, d1, d2, d3, d4, de]; rfl, hB.out⟩
              | true =>
                go_enter Tryz.func132, Tryz.ntmps132
                go_wp2_with fail
                ((with_reducible refine (noCount_any A _ _ HXa.out hF).mono ?_); rintro e w1 ⟨rfl, hb1⟩)
                obtain ⟨q, r, -, -, -, k0, k1, k2, k3, k4, k5, k6, k7⟩ := (hV.out.keep hb1).open_
                replace hB := Kept.mk (hB.out.trans (hb1.mono hB.out.size))
                clear hb1
                cases dn : noCountB A with
                | false =>
                  go_wp2
                  all_goals go_ret
                  all_goals exact ⟨by rw [HS.out, d0, d1, d2, d3, d4, de, dn]; rfl, hB.out⟩
                | true =>
                  go_wp2
                  all_goals go_ret
                  all_goals exact ⟨by rw [HS.out, d0, d1, d2, d3, d4, de, dn]; rfl, hB.out⟩
set_option maxRecDepth 20000 in
set_option maxHeartbeats 1000000 in
theorem rcheck_count (A : Va) (v : Value) (w : World) (hv : isVa A v w) (hF : Fit A) (hk : A.kind = 2) :
    Calls Tryz.prog 132 #[v] w fun e w' => e = .returned (.bool (okV A)) ∧ Below w.heap.size w w' := by
  obtain ⟨vp, vm, rfl, hp, hm⟩ := hv
  obtain ⟨hB, hV⟩ := vbox w A vp vm hp hm w.heap.size rfl
  have HP := Kept.mk (stable_cells _ _ _ _ hp hB.out)
  have HM := Kept.mk (stable_cells _ _ _ _ hm hB.out)
  have HXa := Kept.mk (show isVa A (.agg #[.int .i64 A.kind, .int .i64 A.time, .int .i64 A.node, .bool A.dead, .string ⟨A.text.toArray⟩, vp, vm, .int .u64 (A.flags.toNat : Int)]) (w.alloc (.cells #[.int .i64 A.kind, .int .i64 A.time, .int .i64 A.node, .bool A.dead, .string ⟨A.text.toArray⟩, vp, vm, .int .u64 (A.flags.toNat : Int)] 40)) from ⟨vp, vm, rfl, HP.out, HM.out⟩)
  clear hp hm
  have HS := Kept.mk (ok_counts A hk)
  have kk : (A.kind == 1) = false := by rw [hk]; decide
  have kk2 : (A.kind == 2) = true := by rw [hk]; decide
  clear hk
  go_enter Tryz.func132, Tryz.ntmps132
  go_wp2_with fail
  ((with_reducible refine (counts_any A.plus _ _ HP.out hF.plus).mono ?_); rintro e w1 ⟨rfl, rfl⟩)
  cases d1 : okRow A.plus with
  | false =>
    go_wp2
    all_goals go_ret
    all_goals exact ⟨by rw [HS.out, d1]; rfl, hB.out⟩
  | true =>
    go_wp2_with fail
    ((with_reducible refine (counts_any A.minus _ _ HM.out hF.minus).mono ?_); rintro e w1 ⟨rfl, rfl⟩)
    cases d2 : okRow A.minus with
    | false =>
      go_wp2
      all_goals go_ret
      all_goals exact ⟨by rw [HS.out, d1, d2]; rfl, hB.out⟩
    | true =>
      go_wp2_with fail
      ((with_reducible refine (noReg_any A _ _ HXa.out).mono ?_); rintro e w1 ⟨rfl, hb1⟩)
      obtain ⟨q, r, -, -, -, k0, k1, k2, k3, k4, k5, k6, k7⟩ := (hV.out.keep hb1).open_
      replace hB := Kept.mk (hB.out.trans (hb1.mono hB.out.size))
      clear hb1
      cases dn : noRegB A with
      | false =>
        go_wp2
        all_goals go_ret
        all_goals exact ⟨by rw [HS.out, d1, d2, dn]; rfl, hB.out⟩
      | true =>
        go_wp2
        all_goals go_ret
        all_goals exact ⟨by rw [HS.out, d1, d2, dn]; rfl, hB.out⟩
set_option maxRecDepth 20000 in
set_option maxHeartbeats 1000000 in
theorem rcheck_flags (A : Va) (v : Value) (w : World) (hv : isVa A v w) (hF : Fit A) (hk : A.kind = 3) :
    Calls Tryz.prog 132 #[v] w fun e w' => e = .returned (.bool (okV A)) ∧ Below w.heap.size w w' := by
  obtain ⟨vp, vm, rfl, hp, hm⟩ := hv
  obtain ⟨hB, hV⟩ := vbox w A vp vm hp hm w.heap.size rfl
  have HP := Kept.mk (stable_cells _ _ _ _ hp hB.out)
  have HM := Kept.mk (stable_cells _ _ _ _ hm hB.out)
  have HXa := Kept.mk (show isVa A (.agg #[.int .i64 A.kind, .int .i64 A.time, .int .i64 A.node, .bool A.dead, .string ⟨A.text.toArray⟩, vp, vm, .int .u64 (A.flags.toNat : Int)]) (w.alloc (.cells #[.int .i64 A.kind, .int .i64 A.time, .int .i64 A.node, .bool A.dead, .string ⟨A.text.toArray⟩, vp, vm, .int .u64 (A.flags.toNat : Int)] 40)) from ⟨vp, vm, rfl, HP.out, HM.out⟩)
  clear hp hm
  have HS := Kept.mk (ok_flagss A hk)
  have kk : (A.kind == 1) = false := by rw [hk]; decide
  have kk2 : (A.kind == 2) = false := by rw [hk]; decide
  have kk3 : (A.kind == 3) = true := by rw [hk]; decide
  clear hk
  go_enter Tryz.func132, Tryz.ntmps132
  go_wp2_with fail
  ((with_reducible refine (noReg_any A _ _ HXa.out).mono ?_); rintro e w1 ⟨rfl, hb1⟩)
  obtain ⟨q, r, x1, -, -, k0, k1, k2, k3, k4, k5, k6, k7⟩ := (hV.out.keep hb1).open_
  have X1 := Kept.mk x1
  replace hB := Kept.mk (hB.out.trans (hb1.mono hB.out.size))
  clear hb1 x1
  cases dn : noRegB A with
  | false =>
    go_wp2
    all_goals go_ret
    all_goals exact ⟨by rw [HS.out, dn]; rfl, hB.out⟩
  | true =>
    go_wp2_with fail
    ((with_reducible refine (noCount_any A _ _ X1.out hF).mono ?_); rintro e w2 ⟨rfl, hb1⟩)
    replace hB := Kept.mk (hB.out.trans (hb1.mono hB.out.size))
    clear hb1 X1 k0 k1 k2 k3 k4 k5 k6 k7
    cases d2 : noCountB A with
    | false =>
      go_wp2
      all_goals go_ret
      all_goals exact ⟨by rw [HS.out, dn, d2]; rfl, hB.out⟩
    | true =>
      go_wp2
      all_goals go_ret
      all_goals exact ⟨by rw [HS.out, dn, d2]; rfl, hB.out⟩
set_option maxRecDepth 20000 in
set_option maxHeartbeats 1000000 in
theorem rcheck_none (A : Va) (v : Value) (w : World) (hv : isVa A v w) (hF : Fit A) (h1 : A.kind ≠ 1) (h2 : A.kind ≠ 2) (h3 : A.kind ≠ 3) :
    Calls Tryz.prog 132 #[v] w fun e w' => e = .returned (.bool (okV A)) ∧ Below w.heap.size w w' := by
  obtain ⟨vp, vm, rfl, hp, hm⟩ := hv
  obtain ⟨hB, hV⟩ := vbox w A vp vm hp hm w.heap.size rfl
  have HP := Kept.mk (stable_cells _ _ _ _ hp hB.out)
  have HM := Kept.mk (stable_cells _ _ _ _ hm hB.out)
  have HXa := Kept.mk (show isVa A (.agg #[.int .i64 A.kind, .int .i64 A.time, .int .i64 A.node, .bool A.dead, .string ⟨A.text.toArray⟩, vp, vm, .int .u64 (A.flags.toNat : Int)]) (w.alloc (.cells #[.int .i64 A.kind, .int .i64 A.time, .int .i64 A.node, .bool A.dead, .string ⟨A.text.toArray⟩, vp, vm, .int .u64 (A.flags.toNat : Int)] 40)) from ⟨vp, vm, rfl, HP.out, HM.out⟩)
  clear hp hm
  have HS := Kept.mk (show okV A = false by unfold okV kindN; rw [if_neg h1, if_neg h2, if_neg h3]; rfl)
  have kk : (A.kind == 1) = false := by simpa using h1
  have kk2 : (A.kind == 2) = false := by simpa using h2
  have kk3 : (A.kind == 3) = false := by simpa using h3
  clear h1 h2 h3
  go_enter Tryz.func132, Tryz.ntmps132
  go_wp2
  all_goals go_ret
  all_goals exact ⟨by rw [HS.out]; rfl, hB.out⟩
theorem rcheck_any (A : Va) (v : Value) (w : World) (hv : isVa A v w) (hF : Fit A) :
    Calls Tryz.prog 132 #[v] w fun e w' => e = .returned (.bool (okV A)) ∧ Below w.heap.size w w' := by
  by_cases h1 : A.kind = 1
  · exact rcheck_reg A v w hv hF h1
  · by_cases h2 : A.kind = 2
    · exact rcheck_count A v w hv hF h2
    · by_cases h3 : A.kind = 3
      · exact rcheck_flags A v w hv hF h3
      · exact rcheck_none A v w hv hF h1 h2 h3
end Go.Proofs.YtmbnhlhanckkiaaGreat
end
section
namespace Go.Proofs.YtmbnhlhanckkiaaGreat
open Go.RowKit
set_option linter.unusedVariables false
set_option linter.unusedSimpArgs false

noncomputable def refIntsops : Array Oper := regionOf Tryz.f56 6
set_option maxRecDepth 100000 in
theorem refInts_region (Q : Exit → Act → World → Prop) (a0 : Act) (w0 : World) (hsz : a0.tmps.size = 26) (b1 o1 c1 b2 o2 c2 n j : Nat) (x y : Int) (z : Bool)
    (e0 : a0.tmps.getD 0 undef = .slice (some ⟨b1, o1, none⟩) n c1) (e1 : a0.tmps.getD 1 undef = .slice (some ⟨b2, o2, none⟩) n c2) (e5 : a0.tmps.getD 5 undef = .int .i64 (j : Int)) (hj : j < n)
    (p1 : w0.cell? ⟨b1, o1 + j, none⟩ = some (.int .i64 x)) (l1 : b1 < w0.heap.size) (p2 : w0.cell? ⟨b2, o2 + j, none⟩ = some (.int .i64 y)) (l2 : b2 < w0.heap.size) (hz : (x != y) = z)
    (hQ : ∀ (f : Nat → Value) (w : World), f 25 = .bool z → Below w0.heap.size w0 w → Q .normal { tmps := [17, 18, 19, 20, 21, 22, 23, 24, 25].foldl (fun t s => t.setIfInBounds s (f s)) a0.tmps, defers := a0.defers } w) :
    (Code.region 6 refIntsops true).wp Tryz.prog Q a0 w0 := by
  refine wp_region_flow mixed (by rw [hsz]; kernel_rfl) ?_
  rw [show refIntsops.size = 9 by kernel_rfl]
  refine ⟨isVal (.slice (some ⟨b1, o1, none⟩) n c1), step_move (.tmp 0) (by kernel_rfl) (wanted_none (by kernel_rfl)) (stable_val _) (knows_old 0 (.slice (some ⟨b1, o1, none⟩) n c1) (by kernel_rfl) e0), ?_⟩
  refine ⟨isVal (.int .i64 (j : Int)), step_move (.tmp 5) (by kernel_rfl) (wanted_none (by kernel_rfl)) (stable_val _) (knows_old 5 (.int .i64 (j : Int)) (by kernel_rfl) e5), ?_⟩
  refine ⟨isVal (.pointer (some ⟨b1, o1 + j, none⟩)), step_place 23 3 (.tmp 17) (.tmp 18) b1 o1 n c1 j (by kernel_rfl) (wanted_none (by kernel_rfl)) (knows_new (V := isVal (.slice (some ⟨b1, o1, none⟩) n c1)) 17 0 (by kernel_rfl) (by kernel_rfl) (by kernel_rfl)) (knows_new (V := isVal (.int .i64 (j : Int))) 18 1 (by kernel_rfl) (by kernel_rfl) (by kernel_rfl)) Tryz.underlying23 (by kernel_rfl) hj, ?_⟩
  refine ⟨isVal (.int .i64 x), step_read 3 (.tmp 19) ⟨b1, o1 + j, none⟩ (.int .i64 x) (by kernel_rfl) (wanted_none (by kernel_rfl)) (knows_new (V := isVal (.pointer (some ⟨b1, o1 + j, none⟩))) 19 2 (by kernel_rfl) (by kernel_rfl) (by kernel_rfl)) p1 l1 agg_int, ?_⟩
  refine ⟨isVal (.slice (some ⟨b2, o2, none⟩) n c2), step_move (.tmp 1) (by kernel_rfl) (wanted_none (by kernel_rfl)) (stable_val _) (knows_old 1 (.slice (some ⟨b2, o2, none⟩) n c2) (by kernel_rfl) e1), ?_⟩
  refine ⟨isVal (.int .i64 (j : Int)), step_move (.tmp 5) (by kernel_rfl) (wanted_none (by kernel_rfl)) (stable_val _) (knows_old 5 (.int .i64 (j : Int)) (by kernel_rfl) e5), ?_⟩
  refine ⟨isVal (.pointer (some ⟨b2, o2 + j, none⟩)), step_place 23 3 (.tmp 21) (.tmp 22) b2 o2 n c2 j (by kernel_rfl) (wanted_none (by kernel_rfl)) (knows_new (V := isVal (.slice (some ⟨b2, o2, none⟩) n c2)) 21 4 (by kernel_rfl) (by kernel_rfl) (by kernel_rfl)) (knows_new (V := isVal (.int .i64 (j : Int))) 22 5 (by kernel_rfl) (by kernel_rfl) (by kernel_rfl)) Tryz.underlying23 (by kernel_rfl) hj, ?_⟩
  refine ⟨isVal (.int .i64 y), step_read 3 (.tmp 23) ⟨b2, o2 + j, none⟩ (.int .i64 y) (by kernel_rfl) (wanted_none (by kernel_rfl)) (knows_new (V := isVal (.pointer (some ⟨b2, o2 + j, none⟩))) 23 6 (by kernel_rfl) (by kernel_rfl) (by kernel_rfl)) p2 l2 agg_int, ?_⟩
  refine ⟨isVal (.bool z), step_bin .neq 3 3 (.tmp 20) (.tmp 24) (.int .i64 x) (.int .i64 y) (.bool z) (by kernel_rfl) (wanted_none (by kernel_rfl)) (knows_new (V := isVal (.int .i64 x)) 20 3 (by kernel_rfl) (by kernel_rfl) (by kernel_rfl)) (knows_new (V := isVal (.int .i64 y)) 24 7 (by kernel_rfl) (by kernel_rfl) (by kernel_rfl)) (fun _ => rfl) (neq_int _ _ _ _ _ hz), ?_⟩
  intro a w hkp hb hd
  rw [kept_of hkp ((List.range 9).map fun i => some (i + 17)) [17, 18, 19, 20, 21, 22, 23, 24, 25] (by kernel_rfl) (by decide)]
  exact hQ (fun s => a.tmps.getD s undef) w (fdone_of (hd 8 (by rw [show refIntsops.size = 9 by kernel_rfl]; decide)) (t := 25) (V := isVal (.bool z)) (by kernel_rfl) (by kernel_rfl)) hb
set_option maxRecDepth 20000 in
set_option maxHeartbeats 1000000 in
theorem refInts_any (l m : List (Int)) (v u : Value) (w : World) (hv : isCells (l.map intC) v w) (hu : isCells (m.map intC) u w) (h1 : l.length ≤ 1000000000) (h2 : m.length ≤ 1000000000) :
    Calls Tryz.prog 56 #[v, u] w fun e w' => e = .returned (.bool (decide (l = m))) ∧ Below w.heap.size w w' := by
  by_cases hlen : l.length = m.length
  case neg =>
    obtain ⟨a, cap, rfl⟩ := hv.len
    obtain ⟨b, cap2, rfl⟩ := hu.len
    rw [List.length_map, List.length_map]
    have HN := Kept.mk (show decide (l = m) = false by simp; rintro rfl; exact hlen rfl)
    have d1 : ((l.length : Int) != (m.length : Int)) = true := by simp [bne]; omega
    clear hv hu hlen
    go_enter Tryz.func56, Tryz.ntmps56
    go_wp2
    go_ret
    exact ⟨by rw [HN.out]; rfl, Below.refl _ _⟩
  by_cases h0 : l = []
  · subst h0
    obtain rfl : m = [] := List.eq_nil_of_length_eq_zero (by simpa using hlen.symm)
    obtain ⟨a, cap, rfl⟩ := hv.len
    obtain ⟨b, cap2, rfl⟩ := hu.len
    clear hv hu
    simp only [List.map_nil, List.length_nil]
    go_enter Tryz.func56, Tryz.ntmps56
    go_wp2
    go_loop [5] (fun i => i = .int .i64 0) (fun _ => 0)
    case atStart => rfl
    case round =>
      subst hrel
      go_wp2
      go_ret
      exact ⟨by simp, Below.refl _ _⟩
  · have hl0 : 0 < l.length := List.length_pos_iff.2 h0
    obtain ⟨b1, o1, c1, hv', l1, hc1⟩ := hv.some_ (by simpa using hl0)
    obtain ⟨b2, o2, c2, hu', l2, hc2⟩ := hu.some_ (by rw [List.length_map]; omega)
    rw [List.length_map] at hv' hu'
    subst hv' hu'
    have HM := Kept.mk hlen
    have hmn : m.length = l.length := hlen.symm
    rw [hmn]
    obtain ⟨n, hn⟩ : ∃ n, n = l.length := ⟨_, rfl⟩
    have HN := Kept.mk hn
    rw [← hn] at h1 hl0 ⊢
    have HC1 := Kept.mk hc1
    have HC2 := Kept.mk hc2
    have hB : Below w.heap.size w w := Below.refl _ _
    clear hv hu hlen hmn hn hc1 hc2 h0
    go_enter Tryz.func56, Tryz.ntmps56
    go_wp2
    go_loopw [5] (fun i wr => ∃ j : Nat, j ≤ n ∧ i = .int .i64 (j : Int) ∧ Kept (l.take j = m.take j) ∧ Below w.heap.size w wr) (fun i _ => n - (intOf i).toNat)
    case atStart => exact ⟨0, Nat.zero_le _, rfl, ⟨rfl⟩, hB⟩
    case round =>
      clear hB
      obtain ⟨j, hj, rfl, HT, hB⟩ := hrel
      by_cases hlt : j < n
      · have d1 : decide ((j : Int) < (n : Int)) = true := by simpa using hlt
        have HA := Kept.mk (show j < l.length by rw [← HN.out]; exact hlt)
        have HB := Kept.mk (show j < m.length by rw [← HM.out, ← HN.out]; exact hlt)
        have q1 := Kept.mk ((hB.cell (p := ⟨b1, o1 + j, none⟩) l1).trans (HC1.out j _ (get_map intC l j HA.out)))
        have q2 := Kept.mk ((hB.cell (p := ⟨b2, o2 + j, none⟩) l2).trans (HC2.out j _ (get_map intC m j HB.out)))
        cases hz : (l[j]'HA.out != m[j]'HB.out) with
        | true =>
          have HR := Kept.mk (show decide (l = m) = false by
            simp only [decide_eq_false_iff_not]
            rintro rfl
            simp at hz)
          have HZ := Kept.mk hz
          clear hz
          go_wp2_with fail
          refine refInts_region _ _ _ rfl b1 o1 c1 b2 o2 c2 n j _ _ true rfl rfl rfl hlt q1.out (Nat.lt_of_lt_of_le l1 hB.size) q2.out (Nat.lt_of_lt_of_le l2 hB.size) HZ.out ?_
          clear q1 q2 HZ
          intro f9 W9 hg hb9
          replace hB := hB.trans (hb9.mono hB.size)
          clear hb9
          simp only [List.foldl_cons, List.foldl_nil, hg]
          generalize f9 17 = y17
          generalize f9 18 = y18
          generalize f9 19 = y19
          generalize f9 20 = y20
          generalize f9 21 = y21
          generalize f9 22 = y22
          generalize f9 23 = y23
          generalize f9 24 = y24
          clear hg
          simp only [List.setIfInBounds_toArray, List.set_cons_succ, List.set_cons_zero]
          go_wp2
          go_ret
          exact ⟨by rw [HR.out]; rfl, hB⟩
        | false =>
          have HR := Kept.mk (show l.take (j + 1) = m.take (j + 1) by
            rw [List.take_succ_eq_append_getElem HA.out, List.take_succ_eq_append_getElem HB.out, HT.out]
            simp at hz
            rw [hz])
          have HZ := Kept.mk hz
          clear hz HT
          go_wp2_with fail
          refine refInts_region _ _ _ rfl b1 o1 c1 b2 o2 c2 n j _ _ false rfl rfl rfl hlt q1.out (Nat.lt_of_lt_of_le l1 hB.size) q2.out (Nat.lt_of_lt_of_le l2 hB.size) HZ.out ?_
          clear q1 q2 HZ
          intro f9 W9 hg hb9
          replace hB := hB.trans (hb9.mono hB.size)
          clear hb9
          simp only [List.foldl_cons, List.foldl_nil, hg]
          generalize f9 17 = y17
          generalize f9 18 = y18
          generalize f9 19 = y19
          generalize f9 20 = y20
          generalize f9 21 = y21
          generalize f9 22 = y22
          generalize f9 23 = y23
          generalize f9 24 = y24
          clear hg
          simp only [List.setIfInBounds_toArray, List.set_cons_succ, List.set_cons_zero]
          go_wp2
          go_roundw
          case rel => exact ⟨j + 1, by omega, by go_num, HR, hB⟩
          case measure => simp [intOf]; omega
      · have d1 : decide ((j : Int) < (n : Int)) = false := by simp; omega
        have HR := Kept.mk (show decide (l = m) = true by
          have h := HT.out
          rw [List.take_of_length_le (by rw [← HN.out]; omega), List.take_of_length_le (by rw [← HM.out, ← HN.out]; omega)] at h
          simpa using h)
        go_wp2
        go_ret
        exact ⟨by rw [HR.out]; rfl, hB⟩
end Go.Proofs.YtmbnhlhanckkiaaGreat
end
section
namespace Go.Proofs.YtmbnhlhanckkiaaGreat
open Go.RowKit
set_option linter.unusedVariables false
set_option linter.unusedSimpArgs false
attribute [local irreducible] setN

theorem same_split2 (A B : Va) : decide (A = B) = ((A.kind == B.kind) && (A.time == B.time) && (A.node == B.node) && (A.dead == B.dead) && (A.text == B.text) && ((A.flags.toNat : Int) == (B.flags.toNat : Int)) && decide (A.plus = B.plus) && decide (A.minus = B.minus)) := by
  rw [same_split]
  generalize (A.kind == B.kind) = a
  generalize (A.time == B.time) = b
  generalize (A.node == B.node) = c
  generalize (A.dead == B.dead) = d
  generalize (A.text == B.text) = e
  generalize decide (A.plus = B.plus) = f
  generalize decide (A.minus = B.minus) = g
  generalize ((A.flags.toNat : Int) == (B.flags.toNat : Int)) = h
  cases a <;> cases b <;> cases c <;> cases d <;> cases e <;> cases f <;> cases g <;> cases h <;> rfl
set_option maxRecDepth 20000 in
set_option maxHeartbeats 2000000 in
theorem rsame_any (A B : Va) (v u : Value) (w : World) (hv : isVa A v w) (hu : isVa B u w) (hA : Fit A) (hC : Fit B) :
    Calls Tryz.prog 92 #[v, u] w fun e w' => e = .returned (.bool (decide (A = B))) ∧ Below w.heap.size w w' := by
  have hv0 := hv
  have hu0 := hu
  obtain ⟨pa, ma, rfl, hpa, hma⟩ := hv
  obtain ⟨pb, mb, rfl, hpb, hmb⟩ := hu
  obtain ⟨hB, Va⟩ := vbox w A pa ma hpa hma (w.heap.size) (by simp)
  obtain ⟨hBn, Vb⟩ := vbox (w.alloc (.cells #[.int .i64 A.kind, .int .i64 A.time, .int .i64 A.node, .bool A.dead, .string ⟨A.text.toArray⟩, pa, ma, .int .u64 (A.flags.toNat : Int)] 40)) B pb mb (stable_cells _ _ _ _ hpb hB.out) (stable_cells _ _ _ _ hmb hB.out) (w.heap.size + 1) (by simp)
  replace Va := Kept.mk (Va.out.keep hBn.out)
  replace hB := Kept.mk (hB.out.trans (hBn.out.mono hB.out.size))
  clear hBn
  clear hpa hma hpb hmb
  have HS := Kept.mk (same_split2 A B)
  have HA0 := Kept.mk (va_grow hv0 hB.out)
  have HU0 := Kept.mk (va_grow hu0 hB.out)
  clear hv0 hu0
  cases d0 : (A.kind == B.kind) with
  | false =>
    go_enter Tryz.func92, Tryz.ntmps92
    go_wp2
    all_goals go_ret
    all_goals exact ⟨by rw [HS.out, d0]; rfl, hB.out⟩
  | true =>
    cases d1 : (A.time == B.time) with
    | false =>
      go_enter Tryz.func92, Tryz.ntmps92
      go_wp2
      all_goals go_ret
      all_goals exact ⟨by rw [HS.out, d0, d1]; rfl, hB.out⟩
    | true =>
      cases d2 : (A.node == B.node) with
      | false =>
        go_enter Tryz.func92, Tryz.ntmps92
        go_wp2
        all_goals go_ret
        all_goals exact ⟨by rw [HS.out, d0, d1, d2]; rfl, hB.out⟩
      | true =>
        cases d3 : (A.dead == B.dead) with
        | false =>
          go_enter Tryz.func92, Tryz.ntmps92
          go_wp2
          all_goals go_ret
          all_goals exact ⟨by rw [HS.out, d0, d1, d2, d3]; rfl, hB.out⟩
        | true =>
          cases d4 : (A.text == B.text) with
          | false =>
            go_enter Tryz.func92, Tryz.ntmps92
            go_wp2
            all_goals go_ret
            all_goals exact ⟨by rw [HS.out, d0, d1, d2, d3, d4]; rfl, hB.out⟩
          | true =>
            cases d5 : ((A.flags.toNat : Int) == (B.flags.toNat : Int)) with
            | false =>
              go_enter Tryz.func92, Tryz.ntmps92
              go_wp2
              all_goals go_ret
              all_goals exact ⟨by rw [HS.out, d0, d1, d2, d3, d4, d5]; rfl, hB.out⟩
            | true =>
              go_enter Tryz.func92, Tryz.ntmps92
              go_wp2_with fail
              generalize (w.alloc (.cells #[.int .i64 A.kind, .int .i64 A.time, .int .i64 A.node, .bool A.dead, .string ⟨A.text.toArray⟩, pa, ma, .int .u64 (A.flags.toNat : Int)] 40)).alloc (.cells #[.int .i64 B.kind, .int .i64 B.time, .int .i64 B.node, .bool B.dead, .string ⟨B.text.toArray⟩, pb, mb, .int .u64 (B.flags.toNat : Int)] 40) = W0 at *
              obtain ⟨_, _, e1, e2, e3⟩ := HA0.out
              obtain ⟨_, _, e4, e5, e6⟩ := HU0.out
              cases e1
              cases e4
              ((with_reducible refine (refInts_any A.plus B.plus _ _ _ e2 e5 (by have := hA.plus; omega) (by have := hC.plus; omega)).mono ?_); rintro e W1 ⟨rfl, hb1⟩)
              replace hB := Kept.mk (hB.out.trans ((hb1).mono hB.out.size))
              replace Va := Kept.mk (Va.out.keep (hb1))
              replace Vb := Kept.mk (Vb.out.keep (hb1))
              clear hb1 e2 e3 e5 e6 HA0 HU0
              cases d6 : decide (A.plus = B.plus) with
              | false =>
                go_wp2
                all_goals go_ret
                all_goals exact ⟨by rw [HS.out, d0, d1, d2, d3, d4, d5, d6]; rfl, hB.out⟩
              | true =>
                obtain ⟨qa, ra, -, -, ma2, ka0, ka1, ka2, ka3, ka4, ka5, ka6, ka7⟩ := Va.out.open_
                obtain ⟨qb, rb, -, -, mb2, kb0, kb1, kb2, kb3, kb4, kb5, kb6, kb7⟩ := Vb.out.open_
                go_wp2_with fail
                ((with_reducible refine (refInts_any A.minus B.minus _ _ _ ma2.out mb2.out (by have := hA.minus; omega) (by have := hC.minus; omega)).mono ?_); rintro e W2 ⟨rfl, hb1⟩)
                clear ma2 mb2 ka0 ka1 ka2 ka3 ka4 ka5 ka6 ka7 kb0 kb1 kb2 kb3 kb4 kb5 kb6 kb7
                replace hB := Kept.mk (hB.out.trans ((hb1).mono hB.out.size))
                replace Va := Kept.mk (Va.out.keep (hb1))
                replace Vb := Kept.mk (Vb.out.keep (hb1))
                clear hb1
                obtain ⟨z, hz⟩ : ∃ z, z = decide (A.minus = B.minus) := ⟨_, rfl⟩
                rw [← hz] at HS ⊢
                clear hz
                go_wp2
                all_goals go_ret
                all_goals exact ⟨by rw [HS.out, d0, d1, d2, d3, d4, d5, d6]; rfl, hB.out⟩
theorem behind_split (A B : Va) : behindB A B = if A.time = B.time then (if A.node = B.node then (if A.dead = B.dead then (!(Op.bytesLess A.text B.text || A.text == B.text)) else A.dead) else decide (B.node < A.node)) else decide (B.time < A.time) := by
  rw [Bool.eq_iff_iff, behindB_iff]
  unfold Behind
  by_cases h1 : A.time = B.time
  · rw [if_pos h1]
    by_cases h2 : A.node = B.node
    · rw [if_pos h2]
      by_cases h3 : A.dead = B.dead
      · rw [if_pos h3]
        have e : (!(Op.bytesLess A.text B.text || A.text == B.text)) = Op.bytesLess B.text A.text := by
          cases a : Op.bytesLess A.text B.text with
          | true => rw [less_asymm a]; rfl
          | false =>
            cases b : Op.bytesLess B.text A.text with
            | true =>
              have : A.text ≠ B.text := by intro e; rw [e, less_irrefl] at b; cases b
              simp [this]
            | false => simp [less_total _ _ a b]
        rw [e]
        simp [h1, h2, h3]
      · rw [if_neg h3]
        cases ha : A.dead <;> cases hb : B.dead <;> simp [ha, hb] at h3 <;> simp [h1, h2, rankI]
    · rw [if_neg h2]
      simp [h1, h2]
  · rw [if_neg h1]
    simp [h1]
set_option maxRecDepth 20000 in
set_option maxHeartbeats 2000000 in
theorem rbehind_any (A B : Va) (v u : Value) (w : World) (hv : isVa A v w) (hu : isVa B u w) :
    Calls Tryz.prog 135 #[v, u] w fun e w' => e = .returned (.bool (behindB A B)) ∧ Below w.heap.size w w' := by
  obtain ⟨pa, ma, rfl, hpa, hma⟩ := hv
  obtain ⟨pb, mb, rfl, hpb, hmb⟩ := hu
  obtain ⟨hB, Va⟩ := vbox w A pa ma hpa hma (w.heap.size) (by simp)
  obtain ⟨hBn, Vb⟩ := vbox (w.alloc (.cells #[.int .i64 A.kind, .int .i64 A.time, .int .i64 A.node, .bool A.dead, .string ⟨A.text.toArray⟩, pa, ma, .int .u64 (A.flags.toNat : Int)] 40)) B pb mb (stable_cells _ _ _ _ hpb hB.out) (stable_cells _ _ _ _ hmb hB.out) (w.heap.size + 1) (by simp)
  replace Va := Kept.mk (Va.out.keep hBn.out)
  replace hB := Kept.mk (hB.out.trans (hBn.out.mono hB.out.size))
  clear hBn
  clear hpa hma hpb hmb
  have HS := Kept.mk (behind_split A B)
  clear Va Vb
  by_cases h1 : A.time = B.time
  case neg =>
    have d1 : (A.time == B.time) = false := by simpa using h1
    have HR := Kept.mk (show behindB A B = decide (B.time < A.time) by rw [HS.out, if_neg h1])
    clear h1 HS
    go_enter Tryz.func135, Tryz.ntmps135
    go_wp2
    all_goals go_ret
    all_goals exact ⟨by rw [HR.out]; rfl, hB.out⟩
  rw [if_pos h1] at HS
  have d1 : (A.time == B.time) = true := by simpa using h1
  clear h1
  by_cases h2 : A.node = B.node
  case neg =>
    have d2 : (A.node == B.node) = false := by simpa using h2
    have HR := Kept.mk (show behindB A B = decide (B.node < A.node) by rw [HS.out, if_neg h2])
    clear h2 HS
    go_enter Tryz.func135, Tryz.ntmps135
    go_wp2
    all_goals go_ret
    all_goals exact ⟨by rw [HR.out]; rfl, hB.out⟩
  rw [if_pos h2] at HS
  have d2 : (A.node == B.node) = true := by simpa using h2
  clear h2
  cases ha : A.dead with
  | false =>
    cases hb : B.dead with
    | false =>
      rw [ha, hb] at HS hB
      rw [if_pos rfl, Bool.not_or] at HS
      go_enter Tryz.func135, Tryz.ntmps135
      go_wp2
      all_goals go_ret
      all_goals exact ⟨by rw [HS.out]; rfl, hB.out⟩
    | true =>
      rw [ha, hb] at HS hB
      rw [if_neg (by decide)] at HS
      go_enter Tryz.func135, Tryz.ntmps135
      go_wp2
      all_goals go_ret
      all_goals exact ⟨by rw [HS.out]; rfl, hB.out⟩
  | true =>
    cases hb : B.dead with
    | false =>
      rw [ha, hb] at HS hB
      rw [if_neg (by decide)] at HS
      go_enter Tryz.func135, Tryz.ntmps135
      go_wp2
      all_goals go_ret
      all_goals exact ⟨by rw [HS.out]; rfl, hB.out⟩
    | true =>
      rw [ha, hb] at HS hB
      rw [if_pos rfl, Bool.not_or] at HS
      go_enter Tryz.func135, Tryz.ntmps135
      go_wp2
      all_goals go_ret
      all_goals exact ⟨by rw [HS.out]; rfl, hB.out⟩
end Go.Proofs.YtmbnhlhanckkiaaGreat
end
section
namespace Go.Proofs.YtmbnhlhanckkiaaGreat
open Go.RowKit
set_option linter.unusedVariables false
set_option linter.unusedSimpArgs false

/-- What may happen to memory. -/
structure Pre (R : World → World → Prop) : Prop where
  refl : ∀ w, R w w
  trans : ∀ a b c, R a b → R b c → R a c
  grow : ∀ w w', Below w.heap.size w w' → R w w'
  drew : ∀ w, R w w.drew
/-- What the first k operations do not write is as it was. -/
def FKeptN (ops : Array Oper) (k : Nat) (a0 a : Act) : Prop := a.defers = a0.defers ∧ a.tmps.size = a0.tmps.size ∧ ∀ t, ((List.range k).all fun i => (ops[i]?).all fun o => o.dst != some t) = true → a.tmps.getD t undef = a0.tmps.getD t undef
theorem FKeptN.f {ops : Array Oper} {k : Nat} {a0 a : Act} (h : FKeptN ops k a0 a) : FKept ops a0 a := by
  refine ⟨h.1, h.2.1, fun t ht => h.2.2 t ?_⟩
  rw [List.all_eq_true]
  intro i _
  cases ho : ops[i]? with
  | none => rfl
  | some o => exact List.all_eq_true.1 ht o (by rw [Array.mem_toList_iff]; exact Array.mem_of_getElem? ho)
def StableR (R : World → World → Prop) (V : VP) : Prop := ∀ v w w', V v w → R w w' → V v w'

section
variable (R : World → World → Prop) (P : Program) (ops : Array Oper) (base : World) (a0 : Act) (Q : Exit → Act → World → Prop)
/-- What operation j yielded, or did, is as it should be. -/
def RDone (kn : Nat → VP) (a : Act) (w : World) (j : Nat) : Prop := ∀ o, ops[j]? = some o → kn j (match o.dst with | some t => a.tmps.getD t undef | none => undef) w
def RDeps (kn : Nat → VP) (i : Nat) (a : Act) (w : World) : Prop := ∀ o, ops[i]? = some o → ∀ e ∈ o.after.toList, Region.binds .any e = true → RDone ops kn a w e.on
def RStep (k0 : Nat) (kn : Nat → VP) (i : Nat) (V : VP) : Prop := StableR R V ∧ ∀ o, ops[i]? = some o → ∀ a w, FKeptN ops k0 a0 a → R base w → RDeps ops kn i a w →
  wpOp P ops Q i (fun a' w' => ∃ v, a' = a.put o.dst v ∧ (o.dst = none → v = undef) ∧ V v w' ∧ R w w') a w
def RelTail (k0 c : Nat) : Nat → Nat → (Nat → VP) → Prop
  | 0, _, kn => ∀ a w, FKeptN ops k0 a0 a → R base w → (∀ j, j < k0 → RDone ops kn a w j) → Tail P ops Q c k0 a w
  | k + 1, i, kn => ∃ V, RStep R P ops base a0 Q k0 kn i V ∧ RelTail k0 c k (i + 1) (upd kn i V)
end

section
variable {R : World → World → Prop} {P : Program} {ops : Array Oper} {base : World} {a0 : Act} {Q : Exit → Act → World → Prop}
theorem rdone_congr {kn kn' : Nat → VP} {a : Act} {w : World} {j : Nat} (h : kn j = kn' j) (hd : RDone ops kn a w j) : RDone ops kn' a w j := by
  intro o ho
  rw [← h]
  exact hd o ho
theorem rdone_f {kn : Nat → VP} {a : Act} {w : World} {j : Nat} (h : RDone ops kn a w j) : FDone ops kn a w j := by
  intro o ho t ht
  have := h o ho
  rwa [ht] at this
/-- An operation that only reads, or makes memory. -/
theorem RStep.of {k0 : Nat} {kn : Nat → VP} {i : Nat} {V : VP} (hR : Pre R) (hst : StableR R V) (hd : ((ops[i]?).bind (·.dst)).isSome = true) (h : ∀ w, R base w → FStep P ops w a0 Q kn i V) : RStep R P ops base a0 Q k0 kn i V := by
  refine ⟨hst, fun o ho a w hk hb hdp => ?_⟩
  refine wpOp_mono ?_ ((h w hb).2 o ho a w hk.f (Below.refl _ _) (fun o' ho' e he hbd => rdone_f (hdp o' ho' e he hbd)))
  rintro a' w' ⟨v, e, hV, hbw⟩
  refine ⟨v, e, fun hn => ?_, hV, hR.grow _ _ hbw⟩
  rw [ho] at hd
  simp [hn] at hd

theorem relTail_family {n k0 c : Nat} (hok : flowOk ops n = true) : ∀ k i kn, i + k = k0 → (∀ m, m < i → RStep R P ops base a0 Q k0 kn m (kn m)) → RelTail R P ops base a0 Q k0 c k i kn →
    ∃ kn', (∀ m, m < k0 → RStep R P ops base a0 Q k0 kn' m (kn' m)) ∧ RelTail R P ops base a0 Q k0 c 0 k0 kn'
  | 0, i, kn, hi, hs, hf => ⟨kn, fun m hm => hs m (by omega), hf⟩
  | k + 1, i, kn, hi, hs, ⟨V, hV, hf⟩ => by
    have agree : ∀ m, m ≠ i → upd kn i V m = kn m := fun m hm => by simp [upd, hm]
    have self : upd kn i V i = V := by simp [upd]
    have shift : ∀ m W, m ≤ i → RStep R P ops base a0 Q k0 kn m W → RStep R P ops base a0 Q k0 (upd kn i V) m W := by
      intro m W hm h
      refine ⟨h.1, fun o ho a w hk hb hd => h.2 o ho a w hk hb ?_⟩
      intro o' ho' e he hbd
      have hlt := (flowOk_spec hok).1 m o' ho' e he hbd
      exact rdone_congr (agree e.on (by omega)) (hd o' ho' e he hbd)
    refine relTail_family hok k (i + 1) (upd kn i V) (by omega) (fun m hm => ?_) hf
    by_cases hmi : m = i
    · subst hmi; rw [self]; exact shift m V (Nat.le_refl _) hV
    · rw [agree m hmi]; exact shift m _ (by omega) (hs m (by omega))

end
end Go.Proofs.YtmbnhlhanckkiaaGreat
end
section
namespace Go.Proofs.YtmbnhlhanckkiaaGreat
open Go.RowKit
set_option linter.unusedVariables false
set_option linter.unusedSimpArgs false
/-- Each of the first ones is waited for by a later one of them, or by the first of the last ones; each other of these waits for the one ahead of it. -/
def tailOkC (ops : Array Oper) (k0 : Nat) : Bool :=
  decide (k0 ≤ ops.size) && (List.range ops.size).all fun j => if j < k0 then ((List.range (k0 + 1)).any fun i => decide (j < i) && waits ops i j) else if j = k0 then true else waits ops j (j - 1)
section
variable {P : Program} {ops : Array Oper} {base : World} {a0 : Act} {Q : Exit → Act → World → Prop}
theorem wpAny_tailC {n k0 : Nat} (hok : flowOk ops n = true) (ht : tailOkC ops k0 = true) : ∀ (c i fuel : Nat) (listed : Array Bool) (a : Act) (w : World), i + c = ops.size → k0 ≤ i → c ≤ fuel → listed.size = ops.size →
    (∀ j, j < ops.size → listed.getD j false = decide (j < i)) → Tail P ops Q c i a w → wpAny P .any ops Q fuel listed a w := by
  have tk : ∀ j, j < ops.size → k0 < j → waits ops j (j - 1) = true := by
    intro j hj hk
    unfold tailOkC at ht
    simp only [Bool.and_eq_true, List.all_eq_true, List.mem_range] at ht
    have := ht.2 j hj
    rwa [if_neg (by omega), if_neg (by omega)] at this
  intro c
  induction c with
  | zero =>
    intro i fuel listed a w hi hk hc hl hd h
    have hr : Region.ready .any ops listed = [] := by
      apply List.eq_nil_iff_forall_not_mem.2
      intro j hj
      have := ready_un hl hj
      rw [hd j this.1] at this
      simp at this
      omega
    cases fuel with
    | zero => exact ⟨hr, h⟩
    | succ fuel => exact ⟨fun _ => h, fun j hj => by rw [hr] at hj; cases hj⟩
  | succ c ih =>
    intro i fuel listed a w hi hk hc hl hd h
    cases fuel with
    | zero => omega
    | succ fuel =>
      have hmem : i ∈ Region.ready .any ops listed := ready_of hok hl (by omega) (by rw [hd i (by omega)]; simp) (fun j hj => by rw [hd j (by omega)]; simpa using hj)
      refine ⟨fun hr => (by rw [hr] at hmem; cases hmem), fun j hj => ?_⟩
      have hju := ready_un hl hj
      have hji : j = i := by
        rw [hd j hju.1] at hju
        have hge : i ≤ j := by simpa using hju.2
        by_cases e : j = i
        · exact e
        · exfalso
          have := waits_ready hj (tk j hju.1 (by omega))
          rw [hd (j - 1) (by omega)] at this
          simp at this
          omega
      subst hji
      refine wpOp_mono ?_ h
      intro a' w' h'
      refine ih (j + 1) fuel (listed.setIfInBounds j true) a' w' (by omega) (by omega) (by omega) (by simpa using hl) ?_ h'
      intro m hm
      by_cases e : m = j
      · subst e; rw [getD_set_same (by omega)]; simp
      · rw [getD_set_ne e, hd m hm, decide_eq_decide]; omega

theorem wpAny_flowTailC {k0 : Nat} (hok : flowOk ops a0.tmps.size = true) (ht : tailOkC ops k0 = true) {kn : Nat → VP} (hs : ∀ m, m < k0 → FStep P ops base a0 Q kn m (kn m))
    (he : FlowTail P ops base a0 Q k0 (ops.size - k0) 0 k0 kn) :
    ∀ (u fuel : Nat) (listed : Array Bool) (a : Act) (w : World), listed.size = ops.size → ((List.range k0).filter fun i => !listed.getD i false).length ≤ u → u + (ops.size - k0) ≤ fuel → (∀ j, k0 ≤ j → listed.getD j false = false) → (∀ j, listed.getD j false = true → ∀ m, waits ops j m = true → listed.getD m false = true) →
      FKept ops a0 a → Below base.heap.size base w → (∀ j, listed.getD j false = true → FDone ops kn a w j) → wpAny P .any ops Q fuel listed a w := by
  obtain ⟨ok1, ok2, ok3⟩ := flowOk_spec hok
  have hk0 : k0 ≤ ops.size := by unfold tailOkC at ht; simp only [Bool.and_eq_true, decide_eq_true_eq] at ht; exact ht.1
  have tk : ∀ j, j < ops.size → k0 < j → waits ops j (j - 1) = true := by
    intro j hj hk
    unfold tailOkC at ht
    simp only [Bool.and_eq_true, List.all_eq_true, List.mem_range] at ht
    have := ht.2 j hj
    rwa [if_neg (by omega), if_neg (by omega)] at this
  have tk0 : ∀ m, m < k0 → ∃ j, m < j ∧ j ≤ k0 ∧ waits ops j m = true := by
    intro m hk
    unfold tailOkC at ht
    simp only [Bool.and_eq_true, List.all_eq_true, List.mem_range] at ht
    have := ht.2 m (by omega)
    rw [if_pos hk, List.any_eq_true] at this
    obtain ⟨j, hj, h⟩ := this
    rw [Bool.and_eq_true, decide_eq_true_eq] at h
    exact ⟨j, h.1, by simpa [Nat.lt_succ_iff] using hj, h.2⟩
  intro u
  induction u with
  | zero =>
    intro fuel listed a w hl hu hf htl hcl hk hb hd
    have hall : ∀ j, j < k0 → listed.getD j false = true := by
      intro j hj
      have h0 : ((List.range k0).filter fun i => !listed.getD i false) = [] := List.eq_nil_of_length_eq_zero (by omega)
      rw [List.filter_eq_nil_iff] at h0
      have := h0 j (by simpa using hj)
      simpa using this
    refine wpAny_tailC hok ht (ops.size - k0) k0 fuel listed a w (by omega) (Nat.le_refl _) (by omega) hl ?_ (he a w hk hb (fun j hj => hd j (hall j hj)))
    intro j hj
    by_cases e : j < k0
    · rw [hall j e]; simp [e]
    · rw [htl j (by omega)]; simp [e]
  | succ u ih =>
    intro fuel listed a w hl hu hf htl hcl hk hb hd
    by_cases hall : ∀ j, j < k0 → listed.getD j false = true
    · refine wpAny_tailC hok ht (ops.size - k0) k0 fuel listed a w (by omega) (Nat.le_refl _) (by omega) hl ?_ (he a w hk hb (fun j hj => hd j (hall j hj)))
      intro j hj
      by_cases e : j < k0
      · rw [hall j e]; simp [e]
      · rw [htl j (by omega)]; simp [e]
    · -- the least that is not yet done
      have hex : ∃ m, m < k0 ∧ listed.getD m false = false ∧ ∀ j, j < m → listed.getD j false = true := by
        have key : ∀ n, n ≤ k0 → (∀ j, j < n → listed.getD j false = true) ∨ ∃ m, m < n ∧ listed.getD m false = false ∧ ∀ j, j < m → listed.getD j false = true := by
          intro n
          induction n with
          | zero => intro _; exact .inl (fun j hj => absurd hj (by omega))
          | succ n ihn =>
            intro hn
            rcases ihn (by omega) with h | ⟨m, hm, h1, h2⟩
            · cases hc : listed.getD n false with
              | true => exact .inl (fun j hj => by by_cases e : j = n; exact e ▸ hc; exact h j (by omega))
              | false => exact .inr ⟨n, by omega, hc, h⟩
            · exact .inr ⟨m, by omega, h1, h2⟩
        rcases key k0 (Nat.le_refl _) with h | h
        · exact absurd h hall
        · exact h
      obtain ⟨m, hm, hmu, hmd⟩ := hex
      have hmem : m ∈ Region.ready .any ops listed := ready_of hok hl (by omega) hmu hmd
      cases fuel with
      | zero => omega
      | succ fuel =>
        refine ⟨fun hr => (by rw [hr] at hmem; cases hmem), fun i hi => ?_⟩
        have hiu := ready_un hl hi
        have hik : i < k0 := by
          by_cases e : i < k0
          · exact e
          · exfalso
            by_cases e2 : i = k0
            · subst e2
              have cov : ∀ d m, m + d = i → 0 < d → listed.getD m false = true := by
                intro d
                induction d using Nat.strongRecOn with
                | _ d ihd =>
                  intro m' hm' hd'
                  obtain ⟨j, h1, h2, h3⟩ := tk0 m' (by omega)
                  by_cases e3 : j = i
                  · rw [e3] at h3; exact waits_ready hi h3
                  · exact hcl j (ihd (i - j) (by omega) j (by omega) (by omega)) m' h3
              have := cov (i - m) m (by omega) (by omega)
              rw [hmu] at this
              cases this
            · have := waits_ready hi (tk i hiu.1 (by omega))
              rw [htl (i - 1) (by omega)] at this
              cases this
        obtain ⟨o, ho⟩ : ∃ o, ops[i]? = some o := ⟨_, Array.getElem?_eq_getElem hiu.1⟩
        have hstep := (hs i hik).2 o ho a w hk hb (by
          intro o' ho' e he' hbd
          rw [ho] at ho'
          cases ho'
          refine hd e.on (waits_ready hi ?_)
          unfold waits
          rw [ho]
          simp only [Option.any_some, List.any_eq_true, Bool.and_eq_true, beq_iff_eq]
          exact ⟨e, he', rfl, hbd⟩)
        refine wpOp_mono ?_ hstep
        rintro a' w' ⟨v, rfl, hV, hbw⟩
        refine ih fuel (listed.setIfInBounds i true) _ w' (by simpa using hl) ?_ (by omega) ?_ ?_ ?_ (hb.trans (hbw.mono hb.size)) ?_
        · have hsub : ((List.range k0).filter fun j => !(listed.setIfInBounds i true).getD j false).length < ((List.range k0).filter fun j => !listed.getD j false).length := by
            have e1 : ((List.range k0).filter fun j => !(listed.setIfInBounds i true).getD j false) = ((List.range k0).filter fun j => !listed.getD j false).filter (fun j => j != i) := by
              rw [List.filter_filter]
              apply List.filter_congr
              intro j hj
              by_cases e : j = i
              · subst e; rw [getD_set_same (by omega)]; simp
              · rw [getD_set_ne e]; simp [e]
            rw [e1]
            refine List.length_filter_lt_length_iff_exists.2 ⟨i, ?_, by simp⟩
            simp only [List.mem_filter, List.mem_range]
            exact ⟨hik, by rw [hiu.2]; rfl⟩
          omega
        · intro j hj
          rw [getD_set_ne (by omega)]
          exact htl j hj
        · intro j hj m' hm'
          by_cases e4 : m' = i
          · subst e4; exact getD_set_same (by omega)
          · rw [getD_set_ne e4]
            by_cases e5 : j = i
            · subst e5; exact waits_ready hi hm'
            · rw [getD_set_ne e5] at hj; exact hcl j hj m' hm'
        · refine ⟨by rw [defers_put]; exact hk.1, by rw [size_put]; exact hk.2.1, fun t ht' => ?_⟩
          cases hdst : o.dst with
          | none => simp only [Act.put]; exact hk.2.2 t ht'
          | some s =>
            have : s ≠ t := by
              rintro rfl
              have := List.all_eq_true.1 ht' o (by rw [Array.mem_toList_iff]; exact Array.mem_of_getElem? ho)
              rw [hdst] at this
              simp at this
            rw [getD_put (fun h => this h.symm)]
            exact hk.2.2 t ht'
        · intro j hj o' ho' t ht'
          by_cases e : j = i
          · subst e
            rw [ho] at ho'
            cases ho'
            rw [ht', getD_put_self (by rw [hk.2.1]; exact ok3 j o t ho ht')]
            exact hV
          · rw [getD_set_ne e] at hj
            have hne : o.dst ≠ some t := fun hh => e (ok2 j i o' o t ho' ho ht' hh)
            have hold := hd j hj o' ho' t ht'
            have hslot : (a.put o.dst v).tmps.getD t undef = a.tmps.getD t undef := by
              cases hdst : o.dst with
              | none => rfl
              | some s => exact getD_put (fun h => hne (by rw [hdst, h]))
            rw [hslot]
            have hjk : j < k0 := by
              by_cases e2 : j < k0
              · exact e2
              · rw [htl j (by omega)] at hj; cases hj
            exact (hs j hjk).1 _ _ _ hold hbw

/-- THE LAW. -/
theorem wp_region_cov (k0 : Nat) {id : Nat} {a : Act} {w : World} (hm : P.follows .mixedOrders = true) (hok : flowOk ops a.tmps.size = true) (ht : tailOkC ops k0 = true)
    (h : FlowTail P ops w a Q k0 (ops.size - k0) k0 0 (fun _ _ _ => False)) : (Code.region id ops true).wp P Q a w := by
  refine wp_region_any hm ?_
  obtain ⟨kn, hs, he⟩ := flowTail_family hok k0 0 _ (by omega) (fun m hm => absurd hm (by omega)) h
  have hk0 : k0 ≤ ops.size := by unfold tailOkC at ht; simp only [Bool.and_eq_true, decide_eq_true_eq] at ht; exact ht.1
  refine wpAny_flowTailC hok ht hs he k0 ops.size _ a _ (by simp) ?_ (by omega) ?_ ?_ ⟨rfl, rfl, fun _ _ => rfl⟩ ((Below.refl _ w).drew) ?_
  · exact Nat.le_trans (List.length_filter_le _ _) (by simp)
  · intro j hj
    simp [Array.getD_eq_getD_getElem?, Array.getElem?_replicate]
    split <;> rfl
  · intro j hj
    simp [Array.getD_eq_getD_getElem?, Array.getElem?_replicate] at hj
    split at hj <;> simp at hj
  · intro j hj
    simp [Array.getD_eq_getD_getElem?, Array.getElem?_replicate] at hj
    split at hj <;> simp at hj
end
section
variable {R : World → World → Prop} {P : Program} {ops : Array Oper} {base : World} {a0 : Act} {Q : Exit → Act → World → Prop}
theorem wpAny_relTailC {k0 : Nat} (hR : Pre R) (hok : flowOk ops a0.tmps.size = true) (ht : tailOkC ops k0 = true) {kn : Nat → VP} (hs : ∀ m, m < k0 → RStep R P ops base a0 Q k0 kn m (kn m))
    (he : RelTail R P ops base a0 Q k0 (ops.size - k0) 0 k0 kn) :
    ∀ (u fuel : Nat) (listed : Array Bool) (a : Act) (w : World), listed.size = ops.size → ((List.range k0).filter fun i => !listed.getD i false).length ≤ u → u + (ops.size - k0) ≤ fuel → (∀ j, k0 ≤ j → listed.getD j false = false) → (∀ j, listed.getD j false = true → ∀ m, waits ops j m = true → listed.getD m false = true) →
      FKeptN ops k0 a0 a → R base w → (∀ j, listed.getD j false = true → RDone ops kn a w j) → wpAny P .any ops Q fuel listed a w := by
  obtain ⟨ok1, ok2, ok3⟩ := flowOk_spec hok
  have hk0 : k0 ≤ ops.size := by unfold tailOkC at ht; simp only [Bool.and_eq_true, decide_eq_true_eq] at ht; exact ht.1
  have tk : ∀ j, j < ops.size → k0 < j → waits ops j (j - 1) = true := by
    intro j hj hk
    unfold tailOkC at ht
    simp only [Bool.and_eq_true, List.all_eq_true, List.mem_range] at ht
    have := ht.2 j hj
    rwa [if_neg (by omega), if_neg (by omega)] at this
  have tk0 : ∀ m, m < k0 → ∃ j, m < j ∧ j ≤ k0 ∧ waits ops j m = true := by
    intro m hk
    unfold tailOkC at ht
    simp only [Bool.and_eq_true, List.all_eq_true, List.mem_range] at ht
    have := ht.2 m (by omega)
    rw [if_pos hk, List.any_eq_true] at this
    obtain ⟨j, hj, h⟩ := this
    rw [Bool.and_eq_true, decide_eq_true_eq] at h
    exact ⟨j, h.1, by simpa [Nat.lt_succ_iff] using hj, h.2⟩
  intro u
  induction u with
  | zero =>
    intro fuel listed a w hl hu hf htl hcl hk hb hd
    have hall : ∀ j, j < k0 → listed.getD j false = true := by
      intro j hj
      have h0 : ((List.range k0).filter fun i => !listed.getD i false) = [] := List.eq_nil_of_length_eq_zero (by omega)
      rw [List.filter_eq_nil_iff] at h0
      have := h0 j (by simpa using hj)
      simpa using this
    refine wpAny_tailC hok ht (ops.size - k0) k0 fuel listed a w (by omega) (Nat.le_refl _) (by omega) hl ?_ (he a w hk hb (fun j hj => hd j (hall j hj)))
    intro j hj
    by_cases e : j < k0
    · rw [hall j e]; simp [e]
    · rw [htl j (by omega)]; simp [e]
  | succ u ih =>
    intro fuel listed a w hl hu hf htl hcl hk hb hd
    by_cases hall : ∀ j, j < k0 → listed.getD j false = true
    · refine wpAny_tailC hok ht (ops.size - k0) k0 fuel listed a w (by omega) (Nat.le_refl _) (by omega) hl ?_ (he a w hk hb (fun j hj => hd j (hall j hj)))
      intro j hj
      by_cases e : j < k0
      · rw [hall j e]; simp [e]
      · rw [htl j (by omega)]; simp [e]
    · -- the least that is not yet done
      have hex : ∃ m, m < k0 ∧ listed.getD m false = false ∧ ∀ j, j < m → listed.getD j false = true := by
        have key : ∀ n, n ≤ k0 → (∀ j, j < n → listed.getD j false = true) ∨ ∃ m, m < n ∧ listed.getD m false = false ∧ ∀ j, j < m → listed.getD j false = true := by
          intro n
          induction n with
          | zero => intro _; exact .inl (fun j hj => absurd hj (by omega))
          | succ n ihn =>
            intro hn
            rcases ihn (by omega) with h | ⟨m, hm, h1, h2⟩
            · cases hc : listed.getD n false with
              | true => exact .inl (fun j hj => by by_cases e : j = n; exact e ▸ hc; exact h j (by omega))
              | false => exact .inr ⟨n, by omega, hc, h⟩
            · exact .inr ⟨m, by omega, h1, h2⟩
        rcases key k0 (Nat.le_refl _) with h | h
        · exact absurd h hall
        · exact h
      obtain ⟨m, hm, hmu, hmd⟩ := hex
      have hmem : m ∈ Region.ready .any ops listed := ready_of hok hl (by omega) hmu hmd
      cases fuel with
      | zero => omega
      | succ fuel =>
        refine ⟨fun hr => (by rw [hr] at hmem; cases hmem), fun i hi => ?_⟩
        have hiu := ready_un hl hi
        have hik : i < k0 := by
          by_cases e : i < k0
          · exact e
          · exfalso
            by_cases e2 : i = k0
            · subst e2
              have cov : ∀ d m, m + d = i → 0 < d → listed.getD m false = true := by
                intro d
                induction d using Nat.strongRecOn with
                | _ d ihd =>
                  intro m' hm' hd'
                  obtain ⟨j, h1, h2, h3⟩ := tk0 m' (by omega)
                  by_cases e3 : j = i
                  · rw [e3] at h3; exact waits_ready hi h3
                  · exact hcl j (ihd (i - j) (by omega) j (by omega) (by omega)) m' h3
              have := cov (i - m) m (by omega) (by omega)
              rw [hmu] at this
              cases this
            · have := waits_ready hi (tk i hiu.1 (by omega))
              rw [htl (i - 1) (by omega)] at this
              cases this
        obtain ⟨o, ho⟩ : ∃ o, ops[i]? = some o := ⟨_, Array.getElem?_eq_getElem hiu.1⟩
        have hstep := (hs i hik).2 o ho a w hk hb (by
          intro o' ho' e he' hbd
          rw [ho] at ho'
          cases ho'
          refine hd e.on (waits_ready hi ?_)
          unfold waits
          rw [ho]
          simp only [Option.any_some, List.any_eq_true, Bool.and_eq_true, beq_iff_eq]
          exact ⟨e, he', rfl, hbd⟩)
        refine wpOp_mono ?_ hstep
        rintro a' w' ⟨v, rfl, hvn, hV, hbw⟩
        refine ih fuel (listed.setIfInBounds i true) _ w' (by simpa using hl) ?_ (by omega) ?_ ?_ ?_ (hR.trans _ _ _ hb hbw) ?_
        · have hsub : ((List.range k0).filter fun j => !(listed.setIfInBounds i true).getD j false).length < ((List.range k0).filter fun j => !listed.getD j false).length := by
            have e1 : ((List.range k0).filter fun j => !(listed.setIfInBounds i true).getD j false) = ((List.range k0).filter fun j => !listed.getD j false).filter (fun j => j != i) := by
              rw [List.filter_filter]
              apply List.filter_congr
              intro j hj
              by_cases e : j = i
              · subst e; rw [getD_set_same (by omega)]; simp
              · rw [getD_set_ne e]; simp [e]
            rw [e1]
            refine List.length_filter_lt_length_iff_exists.2 ⟨i, ?_, by simp⟩
            simp only [List.mem_filter, List.mem_range]
            exact ⟨hik, by rw [hiu.2]; rfl⟩
          omega
        · intro j hj
          rw [getD_set_ne (by omega)]
          exact htl j hj
        · intro j hj m' hm'
          by_cases e4 : m' = i
          · subst e4; exact getD_set_same (by omega)
          · rw [getD_set_ne e4]
            by_cases e5 : j = i
            · subst e5; exact waits_ready hi hm'
            · rw [getD_set_ne e5] at hj; exact hcl j hj m' hm'
        · refine ⟨by rw [defers_put]; exact hk.1, by rw [size_put]; exact hk.2.1, fun t ht' => ?_⟩
          cases hdst : o.dst with
          | none => simp only [Act.put]; exact hk.2.2 t ht'
          | some s =>
            have : s ≠ t := by
              rintro rfl
              have := List.all_eq_true.1 ht' i (by simpa using hik)
              rw [ho] at this
              simp [hdst] at this
            rw [getD_put (fun h => this h.symm)]
            exact hk.2.2 t ht'
        · intro j hj o' ho'
          by_cases e : j = i
          · subst e
            rw [ho] at ho'
            cases ho'
            cases hdst : o.dst with
            | none => rw [hvn hdst] at hV; exact hV
            | some t =>
              show kn j (_) w'
              simp only []
              rw [getD_put_self (by rw [hk.2.1]; exact ok3 j o t ho hdst)]
              exact hV
          · rw [getD_set_ne e] at hj
            have hold := hd j hj o' ho'
            have hjk : j < k0 := by
              by_cases e2 : j < k0
              · exact e2
              · rw [htl j (by omega)] at hj; cases hj
            refine (hs j hjk).1 _ _ _ ?_ hbw
            cases hdst' : o'.dst with
            | none => rw [hdst'] at hold; exact hold
            | some t =>
              rw [hdst'] at hold
              have hne : o.dst ≠ some t := fun hh => e (ok2 j i o' o t ho' ho hdst' hh)
              have hslot : (a.put o.dst v).tmps.getD t undef = a.tmps.getD t undef := by
                cases hdst : o.dst with
                | none => rfl
                | some s => exact getD_put (fun h => hne (by rw [hdst, h]))
              simp only [hslot]
              exact hold

theorem wp_region_relC (hR : Pre R) (k0 : Nat) {id : Nat} {a : Act} {w : World} (hm : P.follows .mixedOrders = true) (hok : flowOk ops a.tmps.size = true) (ht : tailOkC ops k0 = true)
    (h : RelTail R P ops w a Q k0 (ops.size - k0) k0 0 (fun _ _ _ => False)) : (Code.region id ops true).wp P Q a w := by
  refine wp_region_any hm ?_
  obtain ⟨kn, hs, he⟩ := relTail_family hok k0 0 _ (by omega) (fun m hm => absurd hm (by omega)) h
  have hk0 : k0 ≤ ops.size := by unfold tailOkC at ht; simp only [Bool.and_eq_true, decide_eq_true_eq] at ht; exact ht.1
  refine wpAny_relTailC hR hok ht hs he k0 ops.size _ a _ (by simp) ?_ (by omega) ?_ ?_ ⟨rfl, rfl, fun _ _ => rfl⟩ (hR.drew w) ?_
  · exact Nat.le_trans (List.length_filter_le _ _) (by simp)
  · intro j hj
    simp [Array.getD_eq_getD_getElem?, Array.getElem?_replicate]
    split <;> rfl
  · intro j hj
    simp [Array.getD_eq_getD_getElem?, Array.getElem?_replicate] at hj
    split at hj <;> simp at hj
  · intro j hj
    simp [Array.getD_eq_getD_getElem?, Array.getElem?_replicate] at hj
    split at hj <;> simp at hj
/-- Memory grows. -/
def Grows (w w' : World) : Prop := Below w.heap.size w w'
theorem grows_pre : Pre Grows where
  refl w := Below.refl _ _
  trans a b c h1 h2 := h1.trans (h2.mono h1.size)
  grow w w' h := h
  drew w := (Below.refl _ w).drew
/-- What stood in a slot that the last ones alone write. -/
theorem RStep.old {k0 : Nat} {kn : Nat → VP} {i : Nat} (t : Tmp) (v : Value) (hop : (ops[i]?).map (fun o => (o.op, o.guard)) = some (.move (.tmp t), none)) (hd : ((ops[i]?).bind (·.dst)).isSome = true) (hk : ((List.range k0).all fun i => (ops[i]?).all fun o => o.dst != some t) = true)
    (hv : a0.tmps.getD t undef = v) : RStep Grows P ops base a0 Q k0 kn i (isVal v) := by
  refine ⟨fun _ _ _ h _ => h, fun o ho a w hkp hb hdp => ?_⟩
  rw [ho] at hop hd
  simp only [Option.map_some, Option.some.injEq, Prod.mk.injEq] at hop
  have e : a.eval (.tmp t) = v := (hkp.2.2 t hk).trans hv
  unfold wpOp
  simp only [ho]
  rw [show Region.wanted o (yielded ops a.tmps) = true by simp [Region.wanted, hop.2]]
  refine .inl ?_
  unfold Oper.wp execOp
  rw [hop.1]
  refine ⟨_, rfl, fun hn => ?_, e, Below.refl _ _⟩
  simp [hn] at hd
end
end Go.Proofs.YtmbnhlhanckkiaaGreat
end
section
namespace Go.Proofs.YtmbnhlhanckkiaaGreat
open Go.RowKit
set_option linter.unusedVariables false
section
variable {P : Program} {ops : Array Oper} {base : World} {a0 : Act} {Q : Exit → Act → World → Prop} {kn : Nat → VP} {i : Nat} {V : VP}
theorem step_max (k : IntKind) (t1 t2 : TypeId) (x y : Operand) (m n r : Int) (hop : (ops[i]?).map (·.op) = some (.call { callee := .builtin .max, args := #[x, y], argTypes := #[t1, t2] })) (hw : Wanted ops a0 kn i) (hx : Knows ops a0 kn i x (isVal (.int k m))) (hy : Knows ops a0 kn i y (isVal (.int k n)))
    (hr : (if n > m then n else m) = r) : FStep P ops base a0 Q kn i (isVal (.int k r)) :=
  step_pure _ hop hw fun o a w ho hk hd => by
    have e1 : a.eval x = .int k m := hx a w hk hd
    have e2 : a.eval y = .int k n := hy a w hk hd
    unfold execOp
    rw [ho]
    simp only [resolve, Sem.run_bind, Sem.run_pure, Result.andThen_ok, invoke, builtin, List.map_toArray, List.map_cons, List.map_nil, e1, e2, run_max_int2, hr]
end
end Go.Proofs.YtmbnhlhanckkiaaGreat
end
section
namespace Go.Proofs.YtmbnhlhanckkiaaGreat
open Go.RowKit
set_option linter.unusedVariables false
set_option linter.unusedSimpArgs false

section
variable {P : Program} {ops : Array Oper} {base : World} {a0 : Act} {Q : Exit → Act → World → Prop} {kn : Nat → VP} {i : Nat} {V : VP}
theorem step_int1 (t e : TypeId) (x : Operand) (a1 : Int) (ie : TypeInfo) (hop : (ops[i]?).map (·.op) = some (.buildSlice t 1 #[(0, x)])) (hw : Wanted ops a0 kn i) (h0 : Knows ops a0 kn i x (isVal (.int .i64 a1)))
    (hu : P.underlying t = some (.slice e)) (hie : P.info? e = some ie) (hz : ie.zero = some (.int .i64 0)) (hsz : ie.size = 1) : FStep P ops base a0 Q kn i (isCells [intC a1]) :=
  step_mk (stable_cells _) hw fun o ho a w hk hb hd => by
    have e0 : a.eval x = intC a1 := h0 a w hk hd
    have hf : Instr.fill (fun i => some (i * ie.size, ie.size)) ((Array.range (1 * ie.size)).map ((Value.int .i64 0).cells[· % (Value.int .i64 0).cells.size]!)) ((#[(0, x)] : Array (Nat × Operand)).map fun (i, x) => (i, a.eval x)).toList = some #[intC a1] := by
      have e1 : ((#[(0, x)] : Array (Nat × Operand)).map fun (i, x) => (i, a.eval x)).toList = (([intC a1] : List Value).zipIdx 0).map fun x => (x.2, x.1) := by simp [e0]
      rw [e1, hsz, Great.fill_flat _ _ (fun v hv => by simp only [List.mem_cons, List.not_mem_nil, or_false] at hv; subst hv; rfl) (by simp)]
    refine wp_buildSlice t e 1 _ (op_of hop ho) _ ie (.int .i64 0) hu hie hz (by rw [hsz]; omega) (by rw [hsz]; omega) hf ?_
    refine ⟨_, rfl, .inr (.inr ⟨w.heap.size, 0, 1, rfl, by simp, fun j v hv => ?_⟩), (Below.refl _ _).alloc (Nat.le_refl _) _⟩
    rw [World.cell?_alloc_new]
    simpa using hv
end
theorem ownsRow_grow {W W' : World} {n₀ : Nat} {e : TypeId} {size : Nat} {v : Value} {k : Nat} {xs : List Value} (h : W.ownsRow n₀ e size v k xs) (hb : Below W.heap.size W W') : W'.ownsRow n₀ e size v k xs := by
  obtain ⟨hl, h | ⟨g, cap, cur, hv, hB, hg, rest⟩⟩ := h
  · exact ⟨hl, .inl h⟩
  · exact ⟨hl, .inr ⟨g, cap, cur, hv, hB, (hb.block g (Array.getElem?_eq_some_iff.1 hg).1).trans hg, rest⟩⟩
theorem ownsRow_at {w : World} {base : Nat} {e : TypeId} {z : Nat} {v : Value} {k : Nat} {xs : List Value} (h : w.ownsRow base e z v k xs) : ∀ j, v.ownBlock = some j → base ≤ j := by
  intro j hj
  obtain ⟨_, ⟨rfl, _⟩ | ⟨g, cap, cur, rfl, hB, _⟩⟩ := h
  · simp [Value.ownBlock] at hj
  · simp [Value.ownBlock] at hj; omega
noncomputable def mostOps : Array Oper := regionOf Tryz.f136 5
set_option maxRecDepth 100000 in
set_option maxHeartbeats 2000000 in
theorem most_region (Q : Exit → Act → World → Prop) (a0 : Act) (w0 : World) (hsz : a0.tmps.size = 26) (B : Nat) (v0 : Value) (xs : List Int) (b1 o1 c1 b2 o2 c2 n k : Nat) (x y : Int) (e5 : a0.tmps.getD 5 undef = v0) (e0 : a0.tmps.getD 0 undef = (.slice (some ⟨b1, o1, none⟩) n c1)) (e1 : a0.tmps.getD 1 undef = (.slice (some ⟨b2, o2, none⟩) n c2)) (e6 : a0.tmps.getD 6 undef = .int .i64 (k : Int)) (hk : k < n)
    (p1 : w0.cell? ⟨b1, o1 + k, none⟩ = some (.int .i64 x)) (l1 : b1 < w0.heap.size) (p2 : w0.cell? ⟨b2, o2 + k, none⟩ = some (.int .i64 y)) (l2 : b2 < w0.heap.size) (hown : w0.ownsRow B 3 1 v0 xs.length (xs.map intC)) (hx : xs.length ≤ 1000000) (hBs : B ≤ w0.heap.size)
    (hQ : ∀ (f : Nat → Value) (w1 : World), f 5 = f 24 → w1.ownsRow B 3 1 (f 24) (xs ++ [maxI x y]).length ((xs ++ [maxI x y]).map intC) → Below B w0 w1 → Q .normal { tmps := [13, 14, 15, 16, 17, 18, 19, 20, 21, 22, 23, 24, 5].foldl (fun t s => t.setIfInBounds s (f s)) a0.tmps, defers := a0.defers } w1) :
    (Code.region 5 mostOps true).wp Tryz.prog Q a0 w0 := by
  obtain ⟨iint, hiint, hzint, hsint, hbint⟩ := info_parts Tryz.infoInt
  refine wp_region_relC grows_pre 11 mixed (by rw [hsz]; kernel_rfl) (by kernel_rfl) ?_
  rw [show mostOps.size - 11 = 2 by kernel_rfl]
  refine ⟨isVal v0, RStep.old 5 v0 (by kernel_rfl) (by kernel_rfl) (by kernel_rfl) e5, ?_⟩
  refine ⟨isVal (.slice (some ⟨b1, o1, none⟩) n c1), RStep.of grows_pre (stable_val _) (by kernel_rfl) (by intro w hbw; exact step_move (.tmp 0) (by kernel_rfl) (wanted_none (by kernel_rfl)) (stable_val _) (knows_old 0 (.slice (some ⟨b1, o1, none⟩) n c1) (by kernel_rfl) e0)), ?_⟩
  refine ⟨isVal (.int .i64 (k : Int)), RStep.of grows_pre (stable_val _) (by kernel_rfl) (by intro w hbw; exact step_move (.tmp 6) (by kernel_rfl) (wanted_none (by kernel_rfl)) (stable_val _) (knows_old 6 (.int .i64 (k : Int)) (by kernel_rfl) e6)), ?_⟩
  refine ⟨isVal (.pointer (some ⟨b1, o1 + k, none⟩)), RStep.of grows_pre (stable_val _) (by kernel_rfl) (by intro w hbw; exact step_place 23 3 (.tmp 14) (.tmp 15) b1 o1 n c1 k (by kernel_rfl) (wanted_none (by kernel_rfl)) (knows_new (V := isVal (.slice (some ⟨b1, o1, none⟩) n c1)) 14 1 (by kernel_rfl) (by kernel_rfl) (by kernel_rfl)) (knows_new (V := isVal (.int .i64 (k : Int))) 15 2 (by kernel_rfl) (by kernel_rfl) (by kernel_rfl)) Tryz.underlying23 (by kernel_rfl) hk), ?_⟩
  refine ⟨isVal (.int .i64 x), RStep.of grows_pre (stable_val _) (by kernel_rfl) (by intro w hbw; exact step_read 3 (.tmp 16) ⟨b1, o1 + k, none⟩ (.int .i64 x) (by kernel_rfl) (wanted_none (by kernel_rfl)) (knows_new (V := isVal (.pointer (some ⟨b1, o1 + k, none⟩))) 16 3 (by kernel_rfl) (by kernel_rfl) (by kernel_rfl)) ((hbw.cell (p := ⟨b1, o1 + k, none⟩) l1).trans p1) (Nat.lt_of_lt_of_le l1 hbw.size) agg_int), ?_⟩
  refine ⟨isVal (.slice (some ⟨b2, o2, none⟩) n c2), RStep.of grows_pre (stable_val _) (by kernel_rfl) (by intro w hbw; exact step_move (.tmp 1) (by kernel_rfl) (wanted_none (by kernel_rfl)) (stable_val _) (knows_old 1 (.slice (some ⟨b2, o2, none⟩) n c2) (by kernel_rfl) e1)), ?_⟩
  refine ⟨isVal (.int .i64 (k : Int)), RStep.of grows_pre (stable_val _) (by kernel_rfl) (by intro w hbw; exact step_move (.tmp 6) (by kernel_rfl) (wanted_none (by kernel_rfl)) (stable_val _) (knows_old 6 (.int .i64 (k : Int)) (by kernel_rfl) e6)), ?_⟩
  refine ⟨isVal (.pointer (some ⟨b2, o2 + k, none⟩)), RStep.of grows_pre (stable_val _) (by kernel_rfl) (by intro w hbw; exact step_place 23 3 (.tmp 18) (.tmp 19) b2 o2 n c2 k (by kernel_rfl) (wanted_none (by kernel_rfl)) (knows_new (V := isVal (.slice (some ⟨b2, o2, none⟩) n c2)) 18 5 (by kernel_rfl) (by kernel_rfl) (by kernel_rfl)) (knows_new (V := isVal (.int .i64 (k : Int))) 19 6 (by kernel_rfl) (by kernel_rfl) (by kernel_rfl)) Tryz.underlying23 (by kernel_rfl) hk), ?_⟩
  refine ⟨isVal (.int .i64 y), RStep.of grows_pre (stable_val _) (by kernel_rfl) (by intro w hbw; exact step_read 3 (.tmp 20) ⟨b2, o2 + k, none⟩ (.int .i64 y) (by kernel_rfl) (wanted_none (by kernel_rfl)) (knows_new (V := isVal (.pointer (some ⟨b2, o2 + k, none⟩))) 20 7 (by kernel_rfl) (by kernel_rfl) (by kernel_rfl)) ((hbw.cell (p := ⟨b2, o2 + k, none⟩) l2).trans p2) (Nat.lt_of_lt_of_le l2 hbw.size) agg_int), ?_⟩
  refine ⟨isVal (.int .i64 (maxI x y)), RStep.of grows_pre (stable_val _) (by kernel_rfl) (by intro w hbw; exact step_max .i64 3 3 (.tmp 17) (.tmp 21) x y (maxI x y) (by kernel_rfl) (wanted_none (by kernel_rfl)) (knows_new (V := isVal (.int .i64 x)) 17 4 (by kernel_rfl) (by kernel_rfl) (by kernel_rfl)) (knows_new (V := isVal (.int .i64 y)) 21 8 (by kernel_rfl) (by kernel_rfl) (by kernel_rfl)) rfl), ?_⟩
  refine ⟨isCells [intC (maxI x y)], RStep.of grows_pre (stable_cells _) (by kernel_rfl) (by intro w hbw; exact step_int1 23 3 (.tmp 22) (maxI x y) iint (by kernel_rfl) (wanted_none (by kernel_rfl)) (knows_new (V := isVal (.int .i64 (maxI x y))) 22 9 (by kernel_rfl) (by kernel_rfl) (by kernel_rfl)) Tryz.underlying23 hiint hzint hsint), ?_⟩
  intro a w hk0 hb0 hd
  have hb : Below w0.heap.size w0 w := hb0
  have d13 := fdone_of (rdone_f (hd 0 (by decide))) (t := 13) (V := isVal v0) (by kernel_rfl) (by kernel_rfl)
  have d23 := fdone_of (rdone_f (hd 10 (by decide))) (t := 23) (V := isCells [intC (maxI x y)]) (by kernel_rfl) (by kernel_rfl)
  obtain ⟨bb, off, cap, hs23, hlt, hc⟩ := d23.some_ (by simp)
  have hown2 := ownsRow_grow hown hb
  have h24 : 24 < a.tmps.size := by rw [hk0.2.1, hsz]; decide
  refine tail_op (fun _ _ => True) (OP := .call { callee := .builtin .append, args := #[.tmp 13, .tmp 23], argTypes := #[23, 23] }) (by kernel_rfl) (fun o ho e => ?_)
  have hdst : o.dst = some 24 := by have : (mostOps[11]?).map (·.dst) = some (some 24) := by kernel_rfl
                                    rw [ho] at this; simpa using this
  refine wp_append_own _ (.tmp 13) (.tmp 23) 23 e B 3 iint (.int .i64 0) 1 8 Tryz.underlying23 hiint hzint hsint hbint rfl (by decide) v0 xs.length (xs.map intC) d13 hown2 ⟨bb, off, none⟩ 1 cap [intC (maxI x y)] hs23 rfl (fun j u hu => ?_) (fun u hu => by simp at hu; subst hu; rfl) (by unfold maxLen; omega) (by omega) (Nat.le_trans hBs hb.size) (fun v' w1 ho1 hgr _ => ?_)
  · have := hc j u hu
    by_cases e0 : j = 0
    · subst e0; simpa [Addr.add] using this
    · simpa [Addr.add, e0] using this
  rw [hdst]
  have hB1 : Below B w0 w1 := (hb.mono hBs).trans ((Below.refl B w).grown hgr (Nat.le_trans hBs hb.size) (ownsRow_at hown2))
  refine tail_op (fun _ _ => True) (OP := .assign (.tmp 24)) (by kernel_rfl) (fun o2 ho2 e2 => ?_)
  have hdst2 : o2.dst = some 5 := by have : (mostOps[12]?).map (·.dst) = some (some 5) := by kernel_rfl
                                     rw [ho2] at this; simpa using this
  have e24 : (a.put (some 24) v').tmps.getD 24 undef = v' := getD_put_self h24
  unfold Oper.wp execOp
  rw [e2]
  simp only [Oper.upon, Sem.run_pure, hdst2]
  show Tail Tryz.prog mostOps Q 0 13 (((a.put (some 24) v')).put (some 5) ((a.put (some 24) v').tmps.getD 24 undef)) w1
  rw [e24]
  have h5 : 5 < (a.put (some 24) v').tmps.size := by rw [size_put, hk0.2.1, hsz]; decide
  have f5 : ((a.put (some 24) v').put (some 5) v').tmps.getD 5 undef = v' := getD_put_self h5
  have f24 : ((a.put (some 24) v').put (some 5) v').tmps.getD 24 undef = v' := (getD_put (by decide)).trans e24
  show Q .normal ((a.put (some 24) v').put (some 5) v') w1
  have key := act_of (a := (a.put (some 24) v').put (some 5) v') (a0 := a0) (by rw [defers_put, defers_put]; exact hk0.1) (by rw [size_put, size_put]; exact hk0.2.1) [13, 14, 15, 16, 17, 18, 19, 20, 21, 22, 23, 24, 5] (fun t ht => by
    have n1 : t ≠ 5 := by rintro rfl; revert ht; decide
    have n2 : t ≠ 24 := by rintro rfl; revert ht; decide
    rw [getD_put n1, getD_put n2]
    refine hk0.2.2 t ?_
    have e13 : ((List.range 11).all fun i => (mostOps[i]?).all fun o => o.dst != some t) = ([13, 14, 15, 16, 17, 18, 19, 20, 21, 22, 23].all fun d => some d != some t) := by kernel_rfl
    rw [e13, List.all_eq_true]
    intro d hd'
    simp only [bne_iff_ne, ne_eq, Option.some.injEq]
    rintro rfl
    rw [List.contains_eq_mem] at ht
    simp only [decide_eq_false_iff_not] at ht
    exact ht (by simp only [List.mem_cons, List.not_mem_nil, or_false] at hd' ⊢; omega))
  rw [key]
  refine hQ (fun s => ((a.put (some 24) v').put (some 5) v').tmps.getD s undef) w1 (f5.trans f24.symm) ?_ hB1
  show w1.ownsRow B 3 1 (((a.put (some 24) v').put (some 5) v').tmps.getD 24 undef) _ _
  rw [f24]
  simpa using ho1
end Go.Proofs.YtmbnhlhanckkiaaGreat
end
