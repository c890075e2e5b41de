/- Joined texts: contracts of the program's functions, and the mathematics that they lean on. -/
import Derived.Test.YtmbnhlhanckkiaaPartF
section
namespace Go.Proofs.Ytmbnhlhanckkiaa
open Go.RowKit
set_option linter.unusedVariables false
set_option linter.unusedSimpArgs false
attribute [local irreducible] setN

theorem ejoin_tup (X Y : En) (v u : Value) (w : World) (hv : isEn X v w) (hu : isEn Y u w) (hX : FitE X) (hY : FitE Y) (h0 : joinEE X Y = 0) (hJ : joinEF X Y = X) : Calls Try.prog 16 #[v, u] w fun e w' => ∃ x, e = .returned x ∧ isTup2 (isEn X) (.int .i64 0) x w' ∧ Below w.heap.size w w' :=
  (ejoin_any X Y v u w hv hu hX hY).mono (by
    rintro e w' ⟨v', rfl, hv', hb⟩
    rw [h0]
    rw [hJ] at hv'
    exact ⟨_, rfl, ⟨v', rfl, hv'.en⟩, hb⟩)
theorem stable_newEn (X : En) : Stable (fun v w => ∃ g, v = .pointer (some ⟨g, 0, none⟩) ∧ VarN w g X) := fun v w w' ⟨g, e, h⟩ hb => ⟨g, e, h.keep hb⟩
noncomputable def ahl1Ops : Array Oper := regionOf Try.f3 13
set_option maxRecDepth 100000 in
set_option maxHeartbeats 2000000 in
theorem ahl1_region (Q : Exit → Act → World → Prop) (a0 : Act) (w0 : World) (hsz : a0.tmps.size = 126) (p g h bs os n cs : Nat) (A : Ar) (vi : Value) (X Y : En) (xp xm yp ym : Value) (e10 : a0.tmps.getD 10 undef = .int .i64 (p : Int)) (e3 : a0.tmps.getD 3 undef = .pointer (some ⟨h, 0, none⟩)) (e7 : a0.tmps.getD 7 undef = .pointer (some ⟨g, 0, none⟩)) (HG : CellsN w0 g [.int .i64 A.cap, .slice (some ⟨bs, os, none⟩) n cs, vi]) (hbs : bs < w0.heap.size) (hp : p < n) (hxc : ∀ (j : Nat) (x : Value), [.string ⟨X.key.toArray⟩, .int .i64 X.val.kind, .int .i64 X.val.time, .int .i64 X.val.node, .bool X.val.dead, .string ⟨X.val.text.toArray⟩, xp, xm, .int .u64 (X.val.flags.toNat : Int)][j]? = some x → w0.cell? ⟨bs, os + p * 9 + j, none⟩ = some x) (HY : CellsN w0 h [.string ⟨Y.key.toArray⟩, .int .i64 Y.val.kind, .int .i64 Y.val.time, .int .i64 Y.val.node, .bool Y.val.dead, .string ⟨Y.val.text.toArray⟩, yp, ym, .int .u64 (Y.val.flags.toNat : Int)]) (hxp : isCells (X.val.plus.map intC) xp w0) (hxm : isCells (X.val.minus.map intC) xm w0) (hyp : isCells (Y.val.plus.map intC) yp w0) (hym : isCells (Y.val.minus.map intC) ym w0) (fX : FitE X) (fY : FitE Y) (hj : joinEE X Y = 0) (hJ : joinEF X Y = X) (okX : okE X = true)
    (hQ : ∀ (g : Nat → Value) (w : World), (fun v w => ∃ g, v = .pointer (some ⟨g, 0, none⟩) ∧ VarN w g X) (g 11) w → g 12 = .int .i64 0 → Below w0.heap.size w0 w → Q .normal { tmps := [75, 76, 77, 78, 79, 80, 81, 74, 82, 83, 11, 12].foldl (fun t s => t.setIfInBounds s (g s)) a0.tmps, defers := a0.defers } w) :
    (Code.region 13 ahl1Ops true).wp Try.prog Q a0 w0 := by
  have hn : ahl1Ops.size = 13 := by kernel_rfl
  refine wp_region_phase 11 [0, 1, 2, 3, 4, 5, 6, 7, 8, 10] (fun i => match i with | 0 => isVal (.pointer (some ⟨g, 1, none⟩)) | 1 => isVal (.slice (some ⟨bs, os, none⟩) n cs) | 2 => isVal (.int .i64 (p : Int)) | 3 => isVal (.pointer (some ⟨bs, os + p * 9, none⟩)) | 4 => isVal (.agg #[.string ⟨X.key.toArray⟩, .int .i64 X.val.kind, .int .i64 X.val.time, .int .i64 X.val.node, .bool X.val.dead, .string ⟨X.val.text.toArray⟩, xp, xm, .int .u64 (X.val.flags.toNat : Int)]) | 5 => isVal (.agg #[.string ⟨Y.key.toArray⟩, .int .i64 Y.val.kind, .int .i64 Y.val.time, .int .i64 Y.val.node, .bool Y.val.dead, .string ⟨Y.val.text.toArray⟩, yp, ym, .int .u64 (Y.val.flags.toNat : Int)]) | 6 => (isTup2 (isEn X) (.int .i64 0)) | 7 => (isTup2 (isEn X) (.int .i64 0)) | 8 => (isEn X) | 9 => isVal (.int .i64 0) | 10 => isNewS 30 ([.string ⟨#[]⟩, .int .i64 0, .int .i64 0, .int .i64 0, .bool false, .string ⟨#[]⟩, .slice none 0 0, .slice none 0 0, .int .u64 0] : List Value) w0.heap.size | 11 => anyV | 12 => isVal (.int .i64 0) | _ => anyV) (fun i => match i with | 0 => isVal (.pointer (some ⟨g, 1, none⟩)) | 1 => isVal (.slice (some ⟨bs, os, none⟩) n cs) | 2 => isVal (.int .i64 (p : Int)) | 3 => isVal (.pointer (some ⟨bs, os + p * 9, none⟩)) | 4 => isVal (.agg #[.string ⟨X.key.toArray⟩, .int .i64 X.val.kind, .int .i64 X.val.time, .int .i64 X.val.node, .bool X.val.dead, .string ⟨X.val.text.toArray⟩, xp, xm, .int .u64 (X.val.flags.toNat : Int)]) | 5 => isVal (.agg #[.string ⟨Y.key.toArray⟩, .int .i64 Y.val.kind, .int .i64 Y.val.time, .int .i64 Y.val.node, .bool Y.val.dead, .string ⟨Y.val.text.toArray⟩, yp, ym, .int .u64 (Y.val.flags.toNat : Int)]) | 6 => (isTup2 anyV (.int .i64 0)) | 7 => (isTup2 anyV (.int .i64 0)) | 8 => anyV | 9 => isVal (.int .i64 0) | 10 => (fun v w => ∃ g, v = .pointer (some ⟨g, 0, none⟩) ∧ VarN w g X) | 11 => anyV | 12 => isVal (.int .i64 0) | _ => anyV) mixed (by kernel_rfl) (by rw [hsz]; kernel_rfl) (by rw [hn]; decide) (by kernel_rfl) ?h0 ?hst ?hs ?h1 ?he
  case h0 =>
    intro m hm hne
    rw [hn] at hm
    match m, hm, hne with
    | 0, _, hne => exact step_field 25 (.tmp 7) 1 ⟨g, 0, none⟩ ⟨g, 1, none⟩ (by kernel_rfl) (wanted_none (by kernel_rfl)) (knows_old 7 (.pointer (some ⟨g, 0, none⟩)) (by kernel_rfl) e7) (f_ar_0_1 (g))
    | 1, _, hne => exact step_read 22 (.tmp 75) ⟨g, 1, none⟩ (.slice (some ⟨bs, os, none⟩) n cs) (by kernel_rfl) (wanted_none (by kernel_rfl)) (knows_new (V := isVal (.pointer (some ⟨g, 1, none⟩))) 75 0 (by kernel_rfl) (by kernel_rfl) (by kernel_rfl)) (HG.2 1 _ rfl) (HG.1) (agg_noS)
    | 2, _, hne => exact step_move (.tmp 10) (by kernel_rfl) (wanted_none (by kernel_rfl)) (stable_val _) (knows_old 10 (.int .i64 (p : Int)) (by kernel_rfl) e10)
    | 3, _, hne => exact step_placeE 22 30 (.tmp 76) (.tmp 77) bs (os) (n) (cs) (p) (os + p * 9) (by kernel_rfl) (wanted_none (by kernel_rfl)) (knows_new (V := isVal (.slice (some ⟨bs, os, none⟩) n cs)) 76 1 (by kernel_rfl) (by kernel_rfl) (by kernel_rfl)) (knows_new (V := isVal (.int .i64 (p : Int))) 77 2 (by kernel_rfl) (by kernel_rfl) (by kernel_rfl)) Try.underlying22 (by kernel_rfl) (⟨hp, rfl⟩)
    | 4, _, hne => exact step_loadA 30 (.tmp 78) (bs) (os + p * 9) [.string ⟨X.key.toArray⟩, .int .i64 X.val.kind, .int .i64 X.val.time, .int .i64 X.val.node, .bool X.val.dead, .string ⟨X.val.text.toArray⟩, xp, xm, .int .u64 (X.val.flags.toNat : Int)] (by kernel_rfl) (wanted_none (by kernel_rfl)) (knows_new (V := isVal (.pointer (some ⟨bs, os + p * 9, none⟩))) 78 3 (by kernel_rfl) (by kernel_rfl) (by kernel_rfl)) size_en agg_en (⟨hbs, hxc⟩)
    | 5, _, hne => exact step_loadA 30 (.tmp 3) (h) (0) [.string ⟨Y.key.toArray⟩, .int .i64 Y.val.kind, .int .i64 Y.val.time, .int .i64 Y.val.node, .bool Y.val.dead, .string ⟨Y.val.text.toArray⟩, yp, ym, .int .u64 (Y.val.flags.toNat : Int)] (by kernel_rfl) (wanted_none (by kernel_rfl)) (knows_old 3 (.pointer (some ⟨h, 0, none⟩)) (by kernel_rfl) e3) size_en agg_en (⟨HY.1, fun j x hx => by rw [Nat.zero_add]; exact HY.2 j x hx⟩)
    | 6, _, hne => exact step_call 16 #[.tmp 79, .tmp 80] #[30, 30] #[.agg #[.string ⟨X.key.toArray⟩, .int .i64 X.val.kind, .int .i64 X.val.time, .int .i64 X.val.node, .bool X.val.dead, .string ⟨X.val.text.toArray⟩, xp, xm, .int .u64 (X.val.flags.toNat : Int)], .agg #[.string ⟨Y.key.toArray⟩, .int .i64 Y.val.kind, .int .i64 Y.val.time, .int .i64 Y.val.node, .bool Y.val.dead, .string ⟨Y.val.text.toArray⟩, yp, ym, .int .u64 (Y.val.flags.toNat : Int)]] (by kernel_rfl) (wanted_none (by kernel_rfl)) (stable_tup2 (stable_en X) _) (args2 (.tmp 79) (.tmp 80) (.agg #[.string ⟨X.key.toArray⟩, .int .i64 X.val.kind, .int .i64 X.val.time, .int .i64 X.val.node, .bool X.val.dead, .string ⟨X.val.text.toArray⟩, xp, xm, .int .u64 (X.val.flags.toNat : Int)]) (.agg #[.string ⟨Y.key.toArray⟩, .int .i64 Y.val.kind, .int .i64 Y.val.time, .int .i64 Y.val.node, .bool Y.val.dead, .string ⟨Y.val.text.toArray⟩, yp, ym, .int .u64 (Y.val.flags.toNat : Int)]) (knows_new (V := isVal (.agg #[.string ⟨X.key.toArray⟩, .int .i64 X.val.kind, .int .i64 X.val.time, .int .i64 X.val.node, .bool X.val.dead, .string ⟨X.val.text.toArray⟩, xp, xm, .int .u64 (X.val.flags.toNat : Int)])) 79 4 (by kernel_rfl) (by kernel_rfl) (by kernel_rfl)) (knows_new (V := isVal (.agg #[.string ⟨Y.key.toArray⟩, .int .i64 Y.val.kind, .int .i64 Y.val.time, .int .i64 Y.val.node, .bool Y.val.dead, .string ⟨Y.val.text.toArray⟩, yp, ym, .int .u64 (Y.val.flags.toNat : Int)])) 80 5 (by kernel_rfl) (by kernel_rfl) (by kernel_rfl))) (enters_of Try.func16 (by kernel_rfl) rfl) (by intro w' hb; exact ejoin_tup X Y _ _ w' (en_mk hxp hxm hb) (en_mk hyp hym hb) fX fY hj hJ)
    | 7, _, hne => exact step_movP (.tmp 81) (stable_tup2 (stable_en X) _) (by kernel_rfl) (wanted_none (by kernel_rfl)) (knows_new (V := (isTup2 (isEn X) (.int .i64 0))) 81 6 (by kernel_rfl) (by kernel_rfl) (by kernel_rfl))
    | 8, _, hne => exact step_ext20 (.int .i64 0) (.tmp 74) (stable_en X) (by kernel_rfl) (wanted_none (by kernel_rfl)) (knows_new (V := (isTup2 (isEn X) (.int .i64 0))) 74 7 (by kernel_rfl) (by kernel_rfl) (by kernel_rfl))
    | 9, _, hne => exact step_ext21 (.int .i64 0) (.tmp 74) (by kernel_rfl) (wanted_none (by kernel_rfl)) (knows_new (V := (isTup2 (isEn X) (.int .i64 0))) 74 7 (by kernel_rfl) (by kernel_rfl) (by kernel_rfl))
    | 10, _, hne => exact step_newS 30 ([.string ⟨#[]⟩, .int .i64 0, .int .i64 0, .int .i64 0, .bool false, .string ⟨#[]⟩, .slice none 0 0, .slice none 0 0, .int .u64 0] : List Value) w0.heap.size (Nat.le_refl _) (by kernel_rfl) (wanted_none (by kernel_rfl)) alloc_en
    | 11, _, hne => exact absurd rfl hne
    | 12, _, hne => exact step_asgP (.tmp 83) (stable_val _) (by kernel_rfl) (wanted_none (by kernel_rfl)) (knows_new (V := isVal (.int .i64 0)) 83 9 (by kernel_rfl) (by kernel_rfl) (by kernel_rfl))
    | q + 13, hm, _ => omega
  case hst =>
    intro m
    match m with
    | 0 => exact (stable_val _)
    | 1 => exact (stable_val _)
    | 2 => exact (stable_val _)
    | 3 => exact (stable_val _)
    | 4 => exact (stable_val _)
    | 5 => exact (stable_val _)
    | 6 => exact (stable_tup2 stable_any _)
    | 7 => exact (stable_tup2 stable_any _)
    | 8 => exact stable_any
    | 9 => exact (stable_val _)
    | 10 => exact (stable_newEn X)
    | 11 => exact stable_any
    | 12 => exact (stable_val _)
    | q + 13 => exact stable_any
  case hs =>
    refine phase_store 30 11 82 ([.string ⟨#[]⟩, .int .i64 0, .int .i64 0, .int .i64 0, .bool false, .string ⟨#[]⟩, .slice none 0 0, .slice none 0 0, .int .u64 0] : List Value) (isEn X) 10 (by kernel_rfl) (knows_new (V := isNewS 30 ([.string ⟨#[]⟩, .int .i64 0, .int .i64 0, .int .i64 0, .bool false, .string ⟨#[]⟩, .slice none 0 0, .slice none 0 0, .int .u64 0] : List Value) w0.heap.size) 11 10 (by kernel_rfl) (by kernel_rfl) (by kernel_rfl)) (knows_new (V := (isEn X)) 82 8 (by kernel_rfl) (by kernel_rfl) (by kernel_rfl)) (fun v w h => isEn_list h) size_en (by kernel_rfl) ?_ ?_
    · intro j h1 h2 v w w' h
      match j, h1, h2, h with
      | 0, _, _, h => exact h
      | 1, _, _, h => exact h
      | 2, _, _, h => exact h
      | 3, _, _, h => exact h
      | 4, _, _, h => exact h
      | 5, _, _, h => exact h
      | 6, _, _, h => obtain ⟨x, e, _⟩ : (isTup2 (isEn X) (.int .i64 0)) v w := h; exact ⟨x, e, trivial⟩
      | 7, _, _, h => obtain ⟨x, e, _⟩ : (isTup2 (isEn X) (.int .i64 0)) v w := h; exact ⟨x, e, trivial⟩
      | 8, _, _, _ => exact trivial
      | 9, _, _, h => exact h
      | 10, h1, h2, _ => exact absurd rfl h2
      | 11, h1, h2, _ => exact absurd rfl h1
      | 12, _, _, h => exact h
      | q + 13, _, _, _ => exact trivial
    · exact fun g l w hg hc hk hl => ⟨g, rfl, en_laid okX hc hk⟩
  case h1 =>
    intro w1 _ m hm hne hu
    rw [hn] at hm
    match m, hm, hne, hu with
    | 0, _, hne, hu => exact absurd (by decide) hu
    | 1, _, hne, hu => exact absurd (by decide) hu
    | 2, _, hne, hu => exact absurd (by decide) hu
    | 3, _, hne, hu => exact absurd (by decide) hu
    | 4, _, hne, hu => exact absurd (by decide) hu
    | 5, _, hne, hu => exact absurd (by decide) hu
    | 6, _, hne, hu => exact absurd (by decide) hu
    | 7, _, hne, hu => exact absurd (by decide) hu
    | 8, _, hne, hu => exact absurd (by decide) hu
    | 9, _, hne, hu => exact step_ext21 (.int .i64 0) (.tmp 74) (by kernel_rfl) (wanted_none (by kernel_rfl)) (knows_new (V := (isTup2 anyV (.int .i64 0))) 74 7 (by kernel_rfl) (by kernel_rfl) (by kernel_rfl))
    | 10, _, hne, hu => exact absurd (by decide) hu
    | 11, _, hne, hu => exact absurd rfl hne
    | 12, _, hne, hu => exact step_asgP (.tmp 83) (stable_val _) (by kernel_rfl) (wanted_none (by kernel_rfl)) (knows_new (V := isVal (.int .i64 0)) 83 9 (by kernel_rfl) (by kernel_rfl) (by kernel_rfl))
    | q + 13, hm, _, _ => omega
  case he =>
    intro a w hkp hb hd
    rw [kept_of hkp [some 75, some 76, some 77, some 78, some 79, some 80, some 81, some 74, some 82, some 83, some 11, none, some 12] [75, 76, 77, 78, 79, 80, 81, 74, 82, 83, 11, 12] (by kernel_rfl) (by decide)]
    have d11 := fdone_of (hd 10 (by rw [hn]; decide)) (t := 11) (V := (fun v w => ∃ g, v = .pointer (some ⟨g, 0, none⟩) ∧ VarN w g X)) (by kernel_rfl) (by kernel_rfl)
    have d12 := fdone_of (hd 12 (by rw [hn]; decide)) (t := 12) (V := isVal (.int .i64 0)) (by kernel_rfl) (by kernel_rfl)
    exact hQ (fun s => a.tmps.getD s undef) w d11 d12 hb
theorem eql_bool_self (b : Bool) (w : World) : (binOp .eql 4 (.bool b) (.bool b)).run Try.prog w = .ok (.bool true) w := by simp [binOp, run_equal_bool w 4 b b Try.underlying4]
theorem call_val {f : FuncId} {vs : Array Value} {w : World} {r : Value} (h : Calls Try.prog f vs w fun e w' => e = .returned r ∧ Below w.heap.size w w') : Calls Try.prog f vs w fun e w' => ∃ x, e = .returned x ∧ isVal r x w' ∧ Below w.heap.size w w' := h.mono (by rintro e w' ⟨rfl, hb⟩; exact ⟨_, rfl, rfl, hb⟩)
noncomputable def ahl2Ops : Array Oper := regionOf Try.f3 15
set_option maxRecDepth 100000 in
set_option maxHeartbeats 2000000 in
theorem ahl2_region (Q : Exit → Act → World → Prop) (a0 : Act) (w0 : World) (hsz : a0.tmps.size = 126) (p ga gb gc gy bs os n cs : Nat) (A B : Ar) (al : Bool) (sa ia ib sc ic : Value) (X : En) (xp xm yp ym : Value) (e5 : a0.tmps.getD 5 undef = .bool true) (e12 : a0.tmps.getD 12 undef = .int .i64 0) (e14 : a0.tmps.getD 14 undef = .bool false) (e15 : a0.tmps.getD 15 undef = .int .i64 0) (e8 : a0.tmps.getD 8 undef = .bool !al) (e10 : a0.tmps.getD 10 undef = .int .i64 (p : Int)) (e2 : a0.tmps.getD 2 undef = .pointer (some ⟨ga, 0, none⟩)) (e7 : a0.tmps.getD 7 undef = .pointer (some ⟨gb, 0, none⟩)) (e13 : a0.tmps.getD 13 undef = .pointer (some ⟨gc, 0, none⟩)) (e11 : a0.tmps.getD 11 undef = .pointer (some ⟨gy, 0, none⟩)) (HA : CellsN w0 ga [.int .i64 A.cap, sa, ia]) (HB : CellsN w0 gb [.int .i64 B.cap, .slice (some ⟨bs, os, none⟩) n cs, ib]) (HC : CellsN w0 gc [.int .i64 B.cap, sc, ic]) (HY : CellsN w0 gy [.string ⟨X.key.toArray⟩, .int .i64 X.val.kind, .int .i64 X.val.time, .int .i64 X.val.node, .bool X.val.dead, .string ⟨X.val.text.toArray⟩, yp, ym, .int .u64 (X.val.flags.toNat : Int)]) (hbs : bs < w0.heap.size) (hp : p < n) (hxc : ∀ (j : Nat) (x : Value), [.string ⟨X.key.toArray⟩, .int .i64 X.val.kind, .int .i64 X.val.time, .int .i64 X.val.node, .bool X.val.dead, .string ⟨X.val.text.toArray⟩, xp, xm, .int .u64 (X.val.flags.toNat : Int)][j]? = some x → w0.cell? ⟨bs, os + p * 9 + j, none⟩ = some x) (hxp : isCells (X.val.plus.map intC) xp w0) (hxm : isCells (X.val.minus.map intC) xm w0) (hyp : isCells (X.val.plus.map intC) yp w0) (hym : isCells (X.val.minus.map intC) ym w0) (XA : isAr A (.agg #[.int .i64 A.cap, sa, ia]) w0) (XB : isAr B (.agg #[.int .i64 B.cap, .slice (some ⟨bs, os, none⟩) n cs, ib]) w0) (XC : isAr B (.agg #[.int .i64 B.cap, sc, ic]) w0) (fA : FitA A) (fB : FitA B) (fX : FitE X) (hal : alikeA A B = al)
    (hQ : ∀ (g : Nat → Value) (w : World), g 4 = .bool true → Below w0.heap.size w0 w → Q .normal { tmps := [91, 92, 93, 94, 95, 96, 97, 98, 99, 100, 101, 102, 103, 104, 105, 106, 107, 108, 109, 110, 111, 112, 113, 114, 115, 116, 117, 118, 119, 120, 121, 122, 123, 124, 125, 4].foldl (fun t s => t.setIfInBounds s (g s)) a0.tmps, defers := a0.defers } w) :
    (Code.region 15 ahl2Ops true).wp Try.prog Q a0 w0 := by
  refine wp_region_flow mixed (by rw [hsz]; kernel_rfl) ?_
  rw [show ahl2Ops.size = 36 by kernel_rfl]
  refine ⟨isVal (.bool true), step_move (.tmp 5) (by kernel_rfl) (wanted_none (by kernel_rfl)) (stable_val _) (knows_old 5 (.bool true) (by kernel_rfl) e5), ?_⟩
  refine ⟨isVal (.bool true), step_move (.tmp 91) (by kernel_rfl) (wanted_none (by kernel_rfl)) (stable_val _) (knows_new (V := isVal (.bool true)) 91 0 (by kernel_rfl) (by kernel_rfl) (by kernel_rfl)), ?_⟩
  refine ⟨isVal (.int .i64 0), step_move (.tmp 12) (by kernel_rfl) (wanted_some 1 92 true (by kernel_rfl) (by kernel_rfl) (by kernel_rfl) (by kernel_rfl)) (stable_val _) (knows_old 12 (.int .i64 0) (by kernel_rfl) e12), ?_⟩
  refine ⟨isVal (.bool true), step_bin .eql 34 34 (.tmp 93) (.const (.int .i64 0)) (.int .i64 0) (.int .i64 0) (.bool true) (by kernel_rfl) (wanted_some 1 92 true (by kernel_rfl) (by kernel_rfl) (by kernel_rfl) (by kernel_rfl)) (knows_new (V := isVal (.int .i64 0)) 93 2 (by kernel_rfl) (by kernel_rfl) (by kernel_rfl)) (knows_const _) (fun _ => rfl) (eql_int _ _ _ _ _ (by decide)), ?_⟩
  refine ⟨isVal (.bool true), step_pick (.tmp 92) (.tmp 94) (.const (.bool false)) true (by kernel_rfl) (wanted_none (by kernel_rfl)) (stable_val _) (knows_new (V := isVal (.bool true)) 92 1 (by kernel_rfl) (by kernel_rfl) (by kernel_rfl)) (knows_new (V := isVal (.bool true)) 94 3 (by kernel_rfl) (by kernel_rfl) (by kernel_rfl)), ?_⟩
  refine ⟨isVal (.bool true), step_move (.tmp 95) (by kernel_rfl) (wanted_none (by kernel_rfl)) (stable_val _) (knows_new (V := isVal (.bool true)) 95 4 (by kernel_rfl) (by kernel_rfl) (by kernel_rfl)), ?_⟩
  refine ⟨isVal (.agg #[.string ⟨X.key.toArray⟩, .int .i64 X.val.kind, .int .i64 X.val.time, .int .i64 X.val.node, .bool X.val.dead, .string ⟨X.val.text.toArray⟩, yp, ym, .int .u64 (X.val.flags.toNat : Int)]), step_loadA 30 (.tmp 11) (gy) (0) [.string ⟨X.key.toArray⟩, .int .i64 X.val.kind, .int .i64 X.val.time, .int .i64 X.val.node, .bool X.val.dead, .string ⟨X.val.text.toArray⟩, yp, ym, .int .u64 (X.val.flags.toNat : Int)] (by kernel_rfl) (wanted_some 5 96 true (by kernel_rfl) (by kernel_rfl) (by kernel_rfl) (by kernel_rfl)) (knows_old 11 (.pointer (some ⟨gy, 0, none⟩)) (by kernel_rfl) e11) size_en agg_en (⟨HY.1, fun j x hx => by rw [Nat.zero_add]; exact HY.2 j x hx⟩), ?_⟩
  refine ⟨isVal (.pointer (some ⟨gb, 1, none⟩)), step_field 25 (.tmp 7) 1 ⟨gb, 0, none⟩ ⟨gb, 1, none⟩ (by kernel_rfl) (wanted_some 5 96 true (by kernel_rfl) (by kernel_rfl) (by kernel_rfl) (by kernel_rfl)) (knows_old 7 (.pointer (some ⟨gb, 0, none⟩)) (by kernel_rfl) e7) (f_ar_0_1 (gb)), ?_⟩
  refine ⟨isVal (.slice (some ⟨bs, os, none⟩) n cs), step_read 22 (.tmp 98) ⟨gb, 1, none⟩ (.slice (some ⟨bs, os, none⟩) n cs) (by kernel_rfl) (wanted_some 5 96 true (by kernel_rfl) (by kernel_rfl) (by kernel_rfl) (by kernel_rfl)) (knows_new (V := isVal (.pointer (some ⟨gb, 1, none⟩))) 98 7 (by kernel_rfl) (by kernel_rfl) (by kernel_rfl)) (HB.2 1 _ rfl) (HB.1) (agg_noS), ?_⟩
  refine ⟨isVal (.int .i64 (p : Int)), step_move (.tmp 10) (by kernel_rfl) (wanted_some 5 96 true (by kernel_rfl) (by kernel_rfl) (by kernel_rfl) (by kernel_rfl)) (stable_val _) (knows_old 10 (.int .i64 (p : Int)) (by kernel_rfl) e10), ?_⟩
  refine ⟨isVal (.pointer (some ⟨bs, os + p * 9, none⟩)), step_placeE 22 30 (.tmp 99) (.tmp 100) bs (os) (n) (cs) (p) (os + p * 9) (by kernel_rfl) (wanted_some 5 96 true (by kernel_rfl) (by kernel_rfl) (by kernel_rfl) (by kernel_rfl)) (knows_new (V := isVal (.slice (some ⟨bs, os, none⟩) n cs)) 99 8 (by kernel_rfl) (by kernel_rfl) (by kernel_rfl)) (knows_new (V := isVal (.int .i64 (p : Int))) 100 9 (by kernel_rfl) (by kernel_rfl) (by kernel_rfl)) Try.underlying22 (by kernel_rfl) (⟨hp, rfl⟩), ?_⟩
  refine ⟨isVal (.agg #[.string ⟨X.key.toArray⟩, .int .i64 X.val.kind, .int .i64 X.val.time, .int .i64 X.val.node, .bool X.val.dead, .string ⟨X.val.text.toArray⟩, xp, xm, .int .u64 (X.val.flags.toNat : Int)]), step_loadA 30 (.tmp 101) (bs) (os + p * 9) [.string ⟨X.key.toArray⟩, .int .i64 X.val.kind, .int .i64 X.val.time, .int .i64 X.val.node, .bool X.val.dead, .string ⟨X.val.text.toArray⟩, xp, xm, .int .u64 (X.val.flags.toNat : Int)] (by kernel_rfl) (wanted_some 5 96 true (by kernel_rfl) (by kernel_rfl) (by kernel_rfl) (by kernel_rfl)) (knows_new (V := isVal (.pointer (some ⟨bs, os + p * 9, none⟩))) 101 10 (by kernel_rfl) (by kernel_rfl) (by kernel_rfl)) size_en agg_en (⟨hbs, hxc⟩), ?_⟩
  refine ⟨isVal (.bool true), step_call 17 #[.tmp 97, .tmp 102] #[30, 30] #[.agg #[.string ⟨X.key.toArray⟩, .int .i64 X.val.kind, .int .i64 X.val.time, .int .i64 X.val.node, .bool X.val.dead, .string ⟨X.val.text.toArray⟩, yp, ym, .int .u64 (X.val.flags.toNat : Int)], .agg #[.string ⟨X.key.toArray⟩, .int .i64 X.val.kind, .int .i64 X.val.time, .int .i64 X.val.node, .bool X.val.dead, .string ⟨X.val.text.toArray⟩, xp, xm, .int .u64 (X.val.flags.toNat : Int)]] (by kernel_rfl) (wanted_some 5 96 true (by kernel_rfl) (by kernel_rfl) (by kernel_rfl) (by kernel_rfl)) (stable_val _) (args2 (.tmp 97) (.tmp 102) (.agg #[.string ⟨X.key.toArray⟩, .int .i64 X.val.kind, .int .i64 X.val.time, .int .i64 X.val.node, .bool X.val.dead, .string ⟨X.val.text.toArray⟩, yp, ym, .int .u64 (X.val.flags.toNat : Int)]) (.agg #[.string ⟨X.key.toArray⟩, .int .i64 X.val.kind, .int .i64 X.val.time, .int .i64 X.val.node, .bool X.val.dead, .string ⟨X.val.text.toArray⟩, xp, xm, .int .u64 (X.val.flags.toNat : Int)]) (knows_new (V := isVal (.agg #[.string ⟨X.key.toArray⟩, .int .i64 X.val.kind, .int .i64 X.val.time, .int .i64 X.val.node, .bool X.val.dead, .string ⟨X.val.text.toArray⟩, yp, ym, .int .u64 (X.val.flags.toNat : Int)])) 97 6 (by kernel_rfl) (by kernel_rfl) (by kernel_rfl)) (knows_new (V := isVal (.agg #[.string ⟨X.key.toArray⟩, .int .i64 X.val.kind, .int .i64 X.val.time, .int .i64 X.val.node, .bool X.val.dead, .string ⟨X.val.text.toArray⟩, xp, xm, .int .u64 (X.val.flags.toNat : Int)])) 102 11 (by kernel_rfl) (by kernel_rfl) (by kernel_rfl))) (enters_of Try.func17 (by kernel_rfl) rfl) (by intro w' hb; exact call_val (ga_esame X X true _ _ w' (en_mk hyp hym hb) (en_mk hxp hxm hb) fX.val fX.val (by simp))), ?_⟩
  refine ⟨isVal (.bool true), step_pick (.tmp 96) (.tmp 103) (.const (.bool false)) true (by kernel_rfl) (wanted_none (by kernel_rfl)) (stable_val _) (knows_new (V := isVal (.bool true)) 96 5 (by kernel_rfl) (by kernel_rfl) (by kernel_rfl)) (knows_new (V := isVal (.bool true)) 103 12 (by kernel_rfl) (by kernel_rfl) (by kernel_rfl)), ?_⟩
  refine ⟨isVal (.bool true), step_move (.tmp 104) (by kernel_rfl) (wanted_none (by kernel_rfl)) (stable_val _) (knows_new (V := isVal (.bool true)) 104 13 (by kernel_rfl) (by kernel_rfl) (by kernel_rfl)), ?_⟩
  refine ⟨isVal (.bool false), step_move (.tmp 14) (by kernel_rfl) (wanted_some 14 105 true (by kernel_rfl) (by kernel_rfl) (by kernel_rfl) (by kernel_rfl)) (stable_val _) (knows_old 14 (.bool false) (by kernel_rfl) e14), ?_⟩
  refine ⟨isVal (.bool true), step_un .not 4 (.tmp 106) (.bool false) (.bool true) (by kernel_rfl) (wanted_some 14 105 true (by kernel_rfl) (by kernel_rfl) (by kernel_rfl) (by kernel_rfl)) (knows_new (V := isVal (.bool false)) 106 15 (by kernel_rfl) (by kernel_rfl) (by kernel_rfl)) (fun _ => rfl), ?_⟩
  refine ⟨isVal (.bool true), step_pick (.tmp 105) (.tmp 107) (.const (.bool false)) true (by kernel_rfl) (wanted_none (by kernel_rfl)) (stable_val _) (knows_new (V := isVal (.bool true)) 105 14 (by kernel_rfl) (by kernel_rfl) (by kernel_rfl)) (knows_new (V := isVal (.bool true)) 107 16 (by kernel_rfl) (by kernel_rfl) (by kernel_rfl)), ?_⟩
  refine ⟨isVal (.bool true), step_move (.tmp 108) (by kernel_rfl) (wanted_none (by kernel_rfl)) (stable_val _) (knows_new (V := isVal (.bool true)) 108 17 (by kernel_rfl) (by kernel_rfl) (by kernel_rfl)), ?_⟩
  refine ⟨isVal (.int .i64 0), step_move (.tmp 15) (by kernel_rfl) (wanted_some 18 109 true (by kernel_rfl) (by kernel_rfl) (by kernel_rfl) (by kernel_rfl)) (stable_val _) (knows_old 15 (.int .i64 0) (by kernel_rfl) e15), ?_⟩
  refine ⟨isVal (.bool true), step_bin .eql 34 34 (.tmp 110) (.const (.int .i64 0)) (.int .i64 0) (.int .i64 0) (.bool true) (by kernel_rfl) (wanted_some 18 109 true (by kernel_rfl) (by kernel_rfl) (by kernel_rfl) (by kernel_rfl)) (knows_new (V := isVal (.int .i64 0)) 110 19 (by kernel_rfl) (by kernel_rfl) (by kernel_rfl)) (knows_const _) (fun _ => rfl) (eql_int _ _ _ _ _ (by decide)), ?_⟩
  refine ⟨isVal (.bool true), step_pick (.tmp 109) (.tmp 111) (.const (.bool false)) true (by kernel_rfl) (wanted_none (by kernel_rfl)) (stable_val _) (knows_new (V := isVal (.bool true)) 109 18 (by kernel_rfl) (by kernel_rfl) (by kernel_rfl)) (knows_new (V := isVal (.bool true)) 111 20 (by kernel_rfl) (by kernel_rfl) (by kernel_rfl)), ?_⟩
  refine ⟨isVal (.bool true), step_move (.tmp 112) (by kernel_rfl) (wanted_none (by kernel_rfl)) (stable_val _) (knows_new (V := isVal (.bool true)) 112 21 (by kernel_rfl) (by kernel_rfl) (by kernel_rfl)), ?_⟩
  refine ⟨isVal (.agg #[.int .i64 B.cap, .slice (some ⟨bs, os, none⟩) n cs, ib]), step_loadA 25 (.tmp 7) (gb) (0) [.int .i64 B.cap, .slice (some ⟨bs, os, none⟩) n cs, ib] (by kernel_rfl) (wanted_some 22 113 true (by kernel_rfl) (by kernel_rfl) (by kernel_rfl) (by kernel_rfl)) (knows_old 7 (.pointer (some ⟨gb, 0, none⟩)) (by kernel_rfl) e7) size_ar agg_ar (⟨HB.1, fun j x hx => by rw [Nat.zero_add]; exact HB.2 j x hx⟩), ?_⟩
  refine ⟨isVal (.agg #[.int .i64 B.cap, sc, ic]), step_loadA 25 (.tmp 13) (gc) (0) [.int .i64 B.cap, sc, ic] (by kernel_rfl) (wanted_some 22 113 true (by kernel_rfl) (by kernel_rfl) (by kernel_rfl) (by kernel_rfl)) (knows_old 13 (.pointer (some ⟨gc, 0, none⟩)) (by kernel_rfl) e13) size_ar agg_ar (⟨HC.1, fun j x hx => by rw [Nat.zero_add]; exact HC.2 j x hx⟩), ?_⟩
  refine ⟨isVal (.bool true), step_call 12 #[.tmp 114, .tmp 115] #[25, 25] #[.agg #[.int .i64 B.cap, .slice (some ⟨bs, os, none⟩) n cs, ib], .agg #[.int .i64 B.cap, sc, ic]] (by kernel_rfl) (wanted_some 22 113 true (by kernel_rfl) (by kernel_rfl) (by kernel_rfl) (by kernel_rfl)) (stable_val _) (args2 (.tmp 114) (.tmp 115) (.agg #[.int .i64 B.cap, .slice (some ⟨bs, os, none⟩) n cs, ib]) (.agg #[.int .i64 B.cap, sc, ic]) (knows_new (V := isVal (.agg #[.int .i64 B.cap, .slice (some ⟨bs, os, none⟩) n cs, ib])) 114 23 (by kernel_rfl) (by kernel_rfl) (by kernel_rfl)) (knows_new (V := isVal (.agg #[.int .i64 B.cap, sc, ic])) 115 24 (by kernel_rfl) (by kernel_rfl) (by kernel_rfl))) (enters_of Try.func12 (by kernel_rfl) rfl) (by intro w' hb; exact call_val (w_same B B true _ _ w' (stable_ar _ _ _ _ XB hb) (stable_ar _ _ _ _ XC hb) fB fB (by simp))), ?_⟩
  refine ⟨isVal (.bool true), step_pick (.tmp 113) (.tmp 116) (.const (.bool false)) true (by kernel_rfl) (wanted_none (by kernel_rfl)) (stable_val _) (knows_new (V := isVal (.bool true)) 113 22 (by kernel_rfl) (by kernel_rfl) (by kernel_rfl)) (knows_new (V := isVal (.bool true)) 116 25 (by kernel_rfl) (by kernel_rfl) (by kernel_rfl)), ?_⟩
  refine ⟨isVal (.bool true), step_move (.tmp 117) (by kernel_rfl) (wanted_none (by kernel_rfl)) (stable_val _) (knows_new (V := isVal (.bool true)) 117 26 (by kernel_rfl) (by kernel_rfl) (by kernel_rfl)), ?_⟩
  refine ⟨isVal (.bool !al), step_move (.tmp 8) (by kernel_rfl) (wanted_some 27 118 true (by kernel_rfl) (by kernel_rfl) (by kernel_rfl) (by kernel_rfl)) (stable_val _) (knows_old 8 (.bool !al) (by kernel_rfl) e8), ?_⟩
  refine ⟨isVal (.agg #[.int .i64 A.cap, sa, ia]), step_loadA 25 (.tmp 2) (ga) (0) [.int .i64 A.cap, sa, ia] (by kernel_rfl) (wanted_some 27 118 true (by kernel_rfl) (by kernel_rfl) (by kernel_rfl) (by kernel_rfl)) (knows_old 2 (.pointer (some ⟨ga, 0, none⟩)) (by kernel_rfl) e2) size_ar agg_ar (⟨HA.1, fun j x hx => by rw [Nat.zero_add]; exact HA.2 j x hx⟩), ?_⟩
  refine ⟨isVal (.agg #[.int .i64 B.cap, .slice (some ⟨bs, os, none⟩) n cs, ib]), step_loadA 25 (.tmp 7) (gb) (0) [.int .i64 B.cap, .slice (some ⟨bs, os, none⟩) n cs, ib] (by kernel_rfl) (wanted_some 27 118 true (by kernel_rfl) (by kernel_rfl) (by kernel_rfl) (by kernel_rfl)) (knows_old 7 (.pointer (some ⟨gb, 0, none⟩)) (by kernel_rfl) e7) size_ar agg_ar (⟨HB.1, fun j x hx => by rw [Nat.zero_add]; exact HB.2 j x hx⟩), ?_⟩
  refine ⟨isVal (.bool al), step_call 18 #[.tmp 120, .tmp 121] #[25, 25] #[.agg #[.int .i64 A.cap, sa, ia], .agg #[.int .i64 B.cap, .slice (some ⟨bs, os, none⟩) n cs, ib]] (by kernel_rfl) (wanted_some 27 118 true (by kernel_rfl) (by kernel_rfl) (by kernel_rfl) (by kernel_rfl)) (stable_val _) (args2 (.tmp 120) (.tmp 121) (.agg #[.int .i64 A.cap, sa, ia]) (.agg #[.int .i64 B.cap, .slice (some ⟨bs, os, none⟩) n cs, ib]) (knows_new (V := isVal (.agg #[.int .i64 A.cap, sa, ia])) 120 29 (by kernel_rfl) (by kernel_rfl) (by kernel_rfl)) (knows_new (V := isVal (.agg #[.int .i64 B.cap, .slice (some ⟨bs, os, none⟩) n cs, ib])) 121 30 (by kernel_rfl) (by kernel_rfl) (by kernel_rfl))) (enters_of Try.func18 (by kernel_rfl) rfl) (by intro w' hb; exact call_val (w_alike A B al _ _ w' (stable_ar _ _ _ _ XA hb) (stable_ar _ _ _ _ XB hb) fA fB hal)), ?_⟩
  refine ⟨isVal (.bool !al), step_un .not 4 (.tmp 122) (.bool al) (.bool !al) (by kernel_rfl) (wanted_some 27 118 true (by kernel_rfl) (by kernel_rfl) (by kernel_rfl) (by kernel_rfl)) (knows_new (V := isVal (.bool al)) 122 31 (by kernel_rfl) (by kernel_rfl) (by kernel_rfl)) (fun _ => rfl), ?_⟩
  refine ⟨isVal (.bool true), step_bin .eql 4 4 (.tmp 119) (.tmp 123) (.bool !al) (.bool !al) (.bool true) (by kernel_rfl) (wanted_some 27 118 true (by kernel_rfl) (by kernel_rfl) (by kernel_rfl) (by kernel_rfl)) (knows_new (V := isVal (.bool !al)) 119 28 (by kernel_rfl) (by kernel_rfl) (by kernel_rfl)) (knows_new (V := isVal (.bool !al)) 123 32 (by kernel_rfl) (by kernel_rfl) (by kernel_rfl)) (fun _ => rfl) (eql_bool_self _), ?_⟩
  refine ⟨isVal (.bool true), step_pick (.tmp 118) (.tmp 124) (.const (.bool false)) true (by kernel_rfl) (wanted_none (by kernel_rfl)) (stable_val _) (knows_new (V := isVal (.bool true)) 118 27 (by kernel_rfl) (by kernel_rfl) (by kernel_rfl)) (knows_new (V := isVal (.bool true)) 124 33 (by kernel_rfl) (by kernel_rfl) (by kernel_rfl)), ?_⟩
  refine ⟨isVal (.bool true), step_assign (.tmp 125) (by kernel_rfl) (wanted_none (by kernel_rfl)) (stable_val _) (knows_new (V := isVal (.bool true)) 125 34 (by kernel_rfl) (by kernel_rfl) (by kernel_rfl)), ?_⟩
  intro a w hkp hb hd
  rw [kept_of hkp [some 91, some 92, some 93, some 94, some 95, some 96, some 97, some 98, some 99, some 100, some 101, some 102, some 103, some 104, some 105, some 106, some 107, some 108, some 109, some 110, some 111, some 112, some 113, some 114, some 115, some 116, some 117, some 118, some 119, some 120, some 121, some 122, some 123, some 124, some 125, some 4] [91, 92, 93, 94, 95, 96, 97, 98, 99, 100, 101, 102, 103, 104, 105, 106, 107, 108, 109, 110, 111, 112, 113, 114, 115, 116, 117, 118, 119, 120, 121, 122, 123, 124, 125, 4] (by kernel_rfl) (by decide)]
  have d4 := fdone_of (hd 35 (by rw [show ahl2Ops.size = 36 by kernel_rfl]; decide)) (t := 4) (V := isVal (.bool true)) (by kernel_rfl) (by kernel_rfl)
  exact hQ (fun s => a.tmps.getD s undef) w d4 hb
end Go.Proofs.Ytmbnhlhanckkiaa
end
section
namespace Go.Proofs.Ytmbnhlhanckkiaa
open Go.RowKit
set_option linter.unusedVariables false
set_option linter.unusedSimpArgs false

section
variable {P : Program} {ops : Array Oper} {base : World} {a0 : Act} {Q : Exit → Act → World → Prop} {K : Nat} {sp : Nat → Nat} {ups : Nat → List Nat} {kn : Nat → Nat → VP}

def PhasesInv (ops : Array Oper) (base : World) (K : Nat) (sp : Nat → Nat) (kn : Nat → Nat → VP) (listed : Array Bool) (a : Act) (w : World) : Prop :=
  ∃ c, c ≤ K ∧ (∀ i, i < c → listed.getD (sp i) false = true) ∧ (∀ i, c ≤ i → i < K → listed.getD (sp i) false = false) ∧ ∃ w1, (c = 0 → w1 = base) ∧ Below base.heap.size base w1 ∧ Below w1.heap.size w1 w ∧ ∀ j, listed.getD j false = true → FDone ops (kn c) a w j
/-- The order of the special ones. -/
def spOk (ops : Array Oper) (K : Nat) (sp : Nat → Nat) (ups : Nat → List Nat) : Bool :=
  (List.range K).all fun i => decide (sp i < ops.size) && (ancOk ops (sp i) (ups i) && ((List.range i).all fun c => (ups i).contains (sp c)))
theorem spOk_spec (h : spOk ops K sp ups = true) : (∀ i, i < K → sp i < ops.size) ∧ (∀ i, i < K → ancOk ops (sp i) (ups i) = true) ∧ ∀ c i, c < i → i < K → sp c ∈ ups i := by
  unfold spOk at h
  simp only [List.all_eq_true, List.mem_range, Bool.and_eq_true, decide_eq_true_eq, List.contains_iff_mem] at h
  exact ⟨fun i hi => (h i hi).1, fun i hi => (h i hi).2.1, fun c i hc hi => (h i hi).2.2 c hc⟩

theorem wpAny_phases (hA : spOk ops K sp ups = true) (hok : flowOk ops a0.tmps.size = true)
    (hst : ∀ c m, Stable (kn c m))
    (hs : ∀ c, c < K → ∀ o, ops[sp c]? = some o → ∀ a w, FKept ops a0 a → Below base.heap.size base w → FDeps ops (kn c) (sp c) a w → wpOp P ops Q (sp c) (fun a' w' => ∃ v, a' = a.put o.dst v ∧ Below base.heap.size base w' ∧ (o.dst.isSome = true → kn (c + 1) (sp c) v w') ∧
      ∀ (j : Nat) (oj : Oper) (t : Tmp), j ≠ sp c → ops[j]? = some oj → oj.dst = some t → kn c j (a.tmps.getD t undef) w → kn (c + 1) j (a.tmps.getD t undef) w') a w)
    (h1 : ∀ c, c ≤ K → ∀ w1, (c = 0 → w1 = base) → Below base.heap.size base w1 → ∀ m, m < ops.size → (∀ i, i < K → m ≠ sp i) → (∀ i, i < c → m ∉ ups i) → FStep P ops w1 a0 Q (kn c) m (kn c m))
    (he : ∀ a w, FKept ops a0 a → Below base.heap.size base w → (∀ j, j < ops.size → FDone ops (kn K) a w j) → Q .normal a w) :
    ∀ (fuel : Nat) (listed : Array Bool) (a : Act) (w : World), listed.size = ops.size → ((List.range ops.size).filter fun i => !listed.getD i false).length ≤ fuel → FKept ops a0 a →
      (∀ j, listed.getD j false = true → ∀ m, waits ops j m = true → listed.getD m false = true) → PhasesInv ops base K sp kn listed a w → wpAny P .any ops Q fuel listed a w := by
  obtain ⟨ok1, ok2, ok3⟩ := flowOk_spec hok
  obtain ⟨A1, A2, A3⟩ := spOk_spec hA
  have allDone : ∀ (listed : Array Bool), listed.size = ops.size → Region.ready .any ops listed = [] → ∀ j, j < ops.size → listed.getD j false = true := by
    intro listed hl hr
    have key : ∀ m, ∀ j, j ≤ m → j < ops.size → listed.getD j false = true := by
      intro m
      induction m with
      | zero =>
        intro j hj hjs
        obtain rfl : j = 0 := by omega
        cases hc : listed.getD 0 false with
        | true => rfl
        | false => have := ready_of hok hl hjs hc (fun j hj => absurd hj (by omega)); rw [hr] at this; cases this
      | succ m ih =>
        intro j hj hjs
        by_cases e : j ≤ m
        · exact ih j e hjs
        · obtain rfl : j = m + 1 := by omega
          cases hc : listed.getD (m + 1) false with
          | true => rfl
          | false => have := ready_of hok hl hjs hc (fun j hj => ih j (by omega) (by omega)); rw [hr] at this; cases this
    exact fun j hj => key j j (Nat.le_refl _) hj
  have fin : ∀ (listed : Array Bool) (a : Act) (w : World), listed.size = ops.size → FKept ops a0 a → PhasesInv ops base K sp kn listed a w → Region.ready .any ops listed = [] → Q .normal a w := by
    intro listed a w hl hk hi hr
    have hall := allDone listed hl hr
    obtain ⟨c, hc, _, h2, w1, _, hb1, hb2, hd⟩ := hi
    have hcK : c = K := by
      by_cases e : c = K
      · exact e
      · have := h2 c (Nat.le_refl _) (by omega)
        rw [hall (sp c) (A1 c (by omega))] at this; cases this
    subst hcK
    exact he a w hk (hb1.trans (hb2.mono hb1.size)) (fun j hj => hd j (hall j hj))
  intro fuel
  induction fuel with
  | zero =>
    intro listed a w hl hf hk hcl hi
    have hr : Region.ready .any ops listed = [] := by
      cases hc : Region.ready .any ops listed with
      | nil => rfl
      | cons i r =>
        have hu := ready_un (i := i) hl (by rw [hc]; simp)
        have h0 : ((List.range ops.size).filter fun i => !listed.getD i false) = [] := List.eq_nil_of_length_eq_zero (by omega)
        rw [List.filter_eq_nil_iff] at h0
        have := h0 i (by simpa using hu.1)
        rw [hu.2] at this
        simp at this
    exact ⟨hr, fin listed a w hl hk hi hr⟩
  | succ fuel ih =>
    intro listed a w hl hf hk hcl hi
    refine ⟨fun hr => fin listed a w hl hk hi hr, fun i hir => ?_⟩
    have hiu := ready_un hl hir
    obtain ⟨o, ho⟩ : ∃ o, ops[i]? = some o := ⟨_, Array.getElem?_eq_getElem hiu.1⟩
    have hlt : i < listed.size := by omega
    have deps : ∀ (kn : Nat → VP), (∀ j, listed.getD j false = true → FDone ops kn a w j) → FDeps ops kn i a w := by
      intro kn hd o' ho' e he' hbd
      rw [ho] at ho'
      cases ho'
      refine hd e.on (waits_ready hir ?_)
      unfold waits
      rw [ho]
      simp only [Option.any_some, List.any_eq_true, Bool.and_eq_true, beq_iff_eq]
      exact ⟨e, he', rfl, hbd⟩
    have count : ((List.range ops.size).filter fun j => !(listed.setIfInBounds i true).getD j false).length ≤ fuel := by
      have hsub : ((List.range ops.size).filter fun j => !(listed.setIfInBounds i true).getD j false).length < ((List.range ops.size).filter fun j => !listed.getD j false).length := by
        have e1 : ((List.range ops.size).filter fun j => !(listed.setIfInBounds i true).getD j false) = ((List.range ops.size).filter fun j => !listed.getD j false).filter (fun j => j != i) := by
          rw [List.filter_filter]
          apply List.filter_congr
          intro j hj
          by_cases e : j = i
          · subst e; rw [getD_set_same (by omega)]; simp
          · rw [getD_set_ne e]; simp [e]
        rw [e1]
        refine List.length_filter_lt_length_iff_exists.2 ⟨i, ?_, by simp⟩
        simp only [List.mem_filter, List.mem_range]
        exact ⟨hiu.1, by rw [hiu.2]; rfl⟩
      omega
    have closed : ∀ j, (listed.setIfInBounds i true).getD j false = true → ∀ m, waits ops j m = true → (listed.setIfInBounds i true).getD m false = true := by
      intro j hj m' hm'
      by_cases e4 : m' = i
      · subst e4; exact getD_set_same (by omega)
      · rw [getD_set_ne e4]
        by_cases e5 : j = i
        · subst e5; exact waits_ready hir hm'
        · rw [getD_set_ne e5] at hj; exact hcl j hj m' hm'
    have next : ∀ a' w', FKept ops a0 a' → PhasesInv ops base K sp kn (listed.setIfInBounds i true) a' w' → wpAny P .any ops Q fuel (listed.setIfInBounds i true) a' w' := fun a' w' hk' hi' => ih _ a' w' (by simpa using hl) count hk' closed hi'
    obtain ⟨c, hcK, hl1, hl2, w1, hw1, hb1, hb2, hd⟩ := hi
    by_cases e : ∃ i', i' < K ∧ i = sp i'
    · obtain ⟨c', hc', rfl⟩ := e
      have hge : c ≤ c' := by
        by_cases h : c' < c
        · have := hl1 c' h; rw [hiu.2] at this; cases this
        · omega
      have hcc : c' = c := by
        by_cases h : c < c'
        · exfalso
          have h3 := hl2 c (Nat.le_refl _) (by omega)
          have hne : sp c ≠ sp c' := by
            intro e
            have h4 := A2 c' hc'
            have h5 := A3 c c' h hc'
            unfold ancOk at h4
            have := List.all_eq_true.1 h4 _ h5
            rw [Bool.and_eq_true, decide_eq_true_eq] at this
            omega
          have h6 := unlisted (A2 c' hc') closed (i := sp c) (by rw [getD_set_ne hne]; exact h3) (.inr (A3 c c' h hc'))
          rw [getD_set_same (by omega)] at h6
          cases h6
        · omega
      subst hcc
      refine wpOp_mono ?_ (hs c' hc' o ho a w hk (hb1.trans (hb2.mono hb1.size)) (deps (kn c') hd))
      rintro a' w' ⟨v, rfl, hbw, hv, hj⟩
      refine next _ w' (kept_put ho hk) ⟨c' + 1, by omega, fun i hi => ?_, fun i h1 h2 => ?_, w', fun h => absurd h (by omega), hbw, Below.refl _ _, fun j hjl => ?_⟩
      · by_cases e : i = c'
        · subst e; exact getD_set_same (by omega)
        · by_cases e2 : sp i = sp c'
          · rw [e2]; exact getD_set_same (by omega)
          · rw [getD_set_ne e2]; exact hl1 i (by omega)
      · have hne : sp i ≠ sp c' := by
          intro e
          have h4 := A2 i h2
          have h5 := A3 c' i (by omega) h2
          unfold ancOk at h4
          have := List.all_eq_true.1 h4 _ h5
          rw [Bool.and_eq_true, decide_eq_true_eq] at this
          omega
        rw [getD_set_ne hne]; exact hl2 i (by omega) h2
      · intro o' ho' t ht
        by_cases ej : j = sp c'
        · subst ej
          rw [ho] at ho'
          cases ho'
          rw [ht, getD_put_self (by rw [hk.2.1]; exact ok3 _ o t ho ht)]
          exact hv (by rw [ht]; rfl)
        · rw [getD_set_ne ej] at hjl
          have h7 := hj j o' t ej ho' ht (hd j hjl o' ho' t ht)
          have hne : o.dst ≠ some t := fun hh => ej (ok2 j _ o' o t ho' ho ht hh)
          have hslot : (a.put o.dst v).tmps.getD t undef = a.tmps.getD t undef := by
            cases hdst : o.dst with
            | none => rfl
            | some s => exact getD_put (fun h => hne (by rw [hdst, h]))
          rw [hslot]
          exact h7
    · have hns : ∀ i', i' < K → i ≠ sp i' := fun i' h' e' => e ⟨i', h', e'⟩
      have hnu : ∀ i', i' < c → i ∉ ups i' := fun i' h' hu => by
        have := unlisted (A2 i' (by omega)) hcl hiu.2 (.inr hu)
        rw [hl1 i' h'] at this; cases this
      refine wpOp_mono ?_ ((h1 c hcK w1 hw1 hb1 i hiu.1 hns hnu).2 o ho a w hk hb2 (deps (kn c) hd))
      rintro a' w' ⟨v, rfl, hV, hbw⟩
      refine next _ w' (kept_put ho hk) ⟨c, hcK, fun i' h' => ?_, fun i' h' h'' => ?_, w1, hw1, hb1, hb2.trans (hbw.mono hb2.size), fun j hj => fdone_put hok ho hk hV hbw (fun _ => hst c j) (fun ej => hd j (by rwa [getD_set_ne ej] at hj))⟩
      · rw [getD_set_ne (fun h => hns i' (by omega) h.symm)]; exact hl1 i' h'
      · rw [getD_set_ne (fun h => hns i' h'' h.symm)]; exact hl2 i' h' h''

/-- THE LAW. -/
theorem wp_region_phases {id : Nat} {a : Act} {w : World} (K : Nat) (sp : Nat → Nat) (ups : Nat → List Nat) (kn : Nat → Nat → VP) (hm : P.follows .mixedOrders = true) (hA : spOk ops K sp ups = true) (hok : flowOk ops a.tmps.size = true)
    (hst : ∀ c m, Stable (kn c m))
    (hs : ∀ c, c < K → ∀ o, ops[sp c]? = some o → ∀ a' w', FKept ops a a' → Below w.heap.size w w' → FDeps ops (kn c) (sp c) a' w' → wpOp P ops Q (sp c) (fun a2 w2 => ∃ v, a2 = a'.put o.dst v ∧ Below w.heap.size w w2 ∧ (o.dst.isSome = true → kn (c + 1) (sp c) v w2) ∧
      ∀ (j : Nat) (oj : Oper) (t : Tmp), j ≠ sp c → ops[j]? = some oj → oj.dst = some t → kn c j (a'.tmps.getD t undef) w' → kn (c + 1) j (a'.tmps.getD t undef) w2) a' w')
    (h1 : ∀ c, c ≤ K → ∀ w1, (c = 0 → w1 = w) → Below w.heap.size w w1 → ∀ m, m < ops.size → (∀ i, i < K → m ≠ sp i) → (∀ i, i < c → m ∉ ups i) → FStep P ops w1 a Q (kn c) m (kn c m))
    (he : ∀ a' w', FKept ops a a' → Below w.heap.size w w' → (∀ j, j < ops.size → FDone ops (kn K) a' w' j) → Q .normal a' w') : (Code.region id ops true).wp P Q a w := by
  refine wp_region_any hm ?_
  have none0 : ∀ j, (Array.replicate ops.size false).getD j false = false := fun j => by
    simp [Array.getD_eq_getD_getElem?, Array.getElem?_replicate]
    split <;> simp
  refine wpAny_phases hA hok hst hs h1 he ops.size _ a _ (by simp) ?_ ⟨rfl, rfl, fun _ _ => rfl⟩ ?_ ⟨0, Nat.zero_le _, (fun i hi => absurd hi (by omega)), (fun i _ _ => none0 _), w, (fun _ => rfl), Below.refl _ _, (Below.refl _ w).drew, ?_⟩
  · exact Nat.le_trans (List.length_filter_le _ _) (by simp)
  · intro j hj
    rw [none0] at hj; cases hj
  · intro j hj
    rw [none0] at hj; cases hj
end
end Go.Proofs.Ytmbnhlhanckkiaa
end
section
namespace Go.Proofs.Ytmbnhlhanckkiaa
open Go.RowKit
set_option linter.unusedVariables false
set_option linter.unusedSimpArgs false

def noV : VP := fun _ _ => False
theorem stable_no : Stable noV := fun _ _ _ h _ => h
def outP (B : Nat) (ps : RowE) : VP := fun v w => OutV B v ps w
theorem stable_out (B : Nat) (ps : RowE) : Stable (outP B ps) := fun v w w' h hb => OutV.keep h hb
theorem SrcE.keep {u : Value} {ps : RowE} {w w' : World} (h : SrcE u ps w) (hb : Below w.heap.size w w') : SrcE u ps w' := by
  rcases h with h | ⟨a, c, e, hc⟩
  · exact .inl h
  · exact .inr ⟨a, c, e, fun j x hx => (hb.cell (World.block_lt_of_cell? w _ (hc j x hx))).trans (hc j x hx)⟩
/-- Blocks that are no rows of entries stay. -/
def KeepT (w w' : World) : Prop := ∀ (b : Nat) (z : Array Value) (T : TypeId), 30 ≠ T → w.heap[b]? = some (.cells z T (0, 0)) → w'.heap[b]? = some (.cells z T (0, 0))
section
variable {ops : Array Oper} {base : World} {a0 : Act} {Q : Exit → Act → World → Prop} {kn kn' : Nat → VP} {i s : Nat} {V : VP}
theorem step_absurd {P : Program} (x : Operand) (hst : Stable V) (hx : Knows ops a0 kn i x noV) : FStep P ops base a0 Q kn i V := ⟨hst, fun o ho a w hk hb hd => (hx a w hk hd).elim⟩
theorem step_row0 (B : Nat) (hop : (ops[i]?).map (·.op) = some (.buildSlice 22 0 #[])) (hw : Wanted ops a0 kn i) (hB : B ≤ base.heap.size) : FStep Try.prog ops base a0 Q kn i (outP B []) :=
  step_mk (stable_out _ _) hw fun o ho a w hk hb hd => by
    obtain ⟨ie, hie, hz, hsz⟩ : ∃ ie, Try.prog.info? 30 = some ie ∧ ie.zero = some (.agg #[.string ⟨#[]⟩, .int .i64 0, .int .i64 0, .int .i64 0, .bool false, .string ⟨#[]⟩, .slice none 0 0, .slice none 0 0, .int .u64 0]) ∧ ie.size = 9 := by
      have := Try.infoEn
      obtain ⟨ie, h1, h2⟩ := Option.map_eq_some_iff.1 this
      simp only [Prod.mk.injEq] at h2
      exact ⟨ie, h1, h2.1, h2.2⟩
    have hrun : (Instr.buildSlice 22 0 #[]).run Try.prog w = .ok (.slice (some ⟨w.heap.size, 0, none⟩) 0 0) (w.alloc (.cells #[] 30)) := by
      simp [Instr.buildSlice, run_underlying Try.underlying22, sizeOf, typeInfo, zeroValue, hie, hz, hsz, newRow, Instr.fill, show Array.range 0 = #[] from rfl]
    unfold Oper.wp execOp
    rw [op_of hop ho]
    simp only [List.map_toArray, List.map_nil, hrun, Sem.run_bind, Result.andThen_ok, Oper.upon]
    have hbl := lit_below w (.cells #[] 30)
    refine ⟨_, rfl, ⟨World.ownsRow_made w #[] 0 (Nat.le_trans hB hb.size) (by unfold maxLen; omega) rfl, (fun q hq => by cases hq), (fun q hq => by cases hq)⟩, hbl⟩
theorem phases_append (x y : Operand) (d : Tmp) (ps ps2 : RowE) (u : Value) (hop : (ops[s]?).map (fun o => (o.op, o.guard, o.dst)) = some (.call { callee := .builtin .append, args := #[x, y], argTypes := #[22, 22] }, none, some d))
    (hx : Knows ops a0 kn s x (outP base.heap.size ps)) (hy : Knows ops a0 kn s y (isVal u)) (hu : SrcE u ps2 base) (hr2 : RowsOk ps2 base) (hn : ps.length + ps2.length ≤ 1000)
    (htr : ∀ j, j ≠ s → ∀ v w w', KeepT w w' → kn j v w → kn' j v w') (hV : kn' s = outP base.heap.size (ps ++ ps2)) :
    ∀ o, ops[s]? = some o → ∀ a w, FKept ops a0 a → Below base.heap.size base w → FDeps ops kn s a w → wpOp Try.prog ops Q s (fun a2 w2 => ∃ v, a2 = a.put o.dst v ∧ Below base.heap.size base w2 ∧ (o.dst.isSome = true → kn' s v w2) ∧
      ∀ (j : Nat) (oj : Oper) (t : Tmp), j ≠ s → ops[j]? = some oj → oj.dst = some t → kn j (a.tmps.getD t undef) w → kn' j (a.tmps.getD t undef) w2) a w := by
  intro o ho a w hk hb hd
  rw [ho] at hop
  simp only [Option.map_some, Option.some.injEq, Prod.mk.injEq] at hop
  obtain ⟨hop, hgd, hdst⟩ := hop
  have e1 : OutV base.heap.size (a.eval x) ps w := hx a w hk hd
  have e2 : a.eval y = u := hy a w hk hd
  have hr2' : RowsOk ps2 w := fun q hq => ⟨stable_cells _ _ _ _ (hr2 q hq).1 hb, stable_cells _ _ _ _ (hr2 q hq).2 hb⟩
  obtain ⟨v', w', hrun, h1, h2⟩ := run_append_ens e1 (hu.keep hb) hr2' (fun q hq b hbo => off_old hr2 (e1.own.lt b hbo).1 q hq) hn hb.size o.type
  unfold wpOp
  simp only [ho]
  rw [show Region.wanted o (yielded ops a.tmps) = true by simp [Region.wanted, hgd]]
  refine .inl ?_
  unfold Oper.wp execOp
  rw [hop]
  simp only [resolve, Sem.run_bind, Sem.run_pure, Result.andThen_ok, invoke, builtin, List.map_toArray, List.map_cons, List.map_nil, e2, hrun, Oper.upon]
  have hkt : KeepT w w' := fun b z T hne hz => (h2.block b (Array.getElem?_eq_some_iff.1 hz).1 (fun e => own_type e1.own hz hne b e.symm rfl)).trans hz
  exact ⟨v', rfl, grown_below e1 h2 hb (Nat.le_refl _), fun _ => by rw [hV]; exact h1, fun j oj t hj _ _ hkn => htr j hj _ _ _ hkt hkn⟩
theorem phases_store {P : Program} (T : TypeId) (p y : Tmp) (z : List Value) (K : VP) (pj : Nat) (hop : (ops[s]?).map (fun o => (o.op, o.guard, o.dst)) = some (.store T (.tmp p) (.tmp y), none, none))
    (hx : Knows ops a0 kn s (.tmp p) (isNewS T z base.heap.size)) (hy : Knows ops a0 kn s (.tmp y) K) (hK : ∀ v w, K v w → ∃ l : List Value, v = .agg l.toArray ∧ l.length = z.length ∧ Ones l) (hs : (P.info? T).map (·.size) = some z.length)
    (hpj : (ops[pj]?).bind (·.dst) = some p) (htr : ∀ j, j ≠ s → j ≠ pj → ∀ v w w', kn j v w → kn' j v w')
    (hnew : ∀ g (l : List Value) w, base.heap.size ≤ g → w.heap[g]? = some (.cells z.toArray T (0, 0)) → K (.agg l.toArray) w → l.length = z.length → kn' pj (.pointer (some ⟨g, 0, none⟩)) (setN w g 0 l)) :
    ∀ o, ops[s]? = some o → ∀ a w, FKept ops a0 a → Below base.heap.size base w → FDeps ops kn s a w → wpOp P ops Q s (fun a2 w2 => ∃ v, a2 = a.put o.dst v ∧ Below base.heap.size base w2 ∧ (o.dst.isSome = true → kn' s v w2) ∧
      ∀ (j : Nat) (oj : Oper) (t : Tmp), j ≠ s → ops[j]? = some oj → oj.dst = some t → kn j (a.tmps.getD t undef) w → kn' j (a.tmps.getD t undef) w2) a w := by
  intro o ho a w hk hb hd
  have hno : o.dst = none := by rw [ho] at hop; simp only [Option.map_some, Option.some.injEq, Prod.mk.injEq] at hop; exact hop.2.2
  refine wpOp_mono ?_ (phase_store (kn1 := kn') T p y z K pj hop hx hy hK hs hpj htr hnew o ho a w hk hb hd)
  rintro a2 w2 ⟨v, h1, h2, h3⟩
  exact ⟨v, h1, h2, (fun h => by rw [hno] at h; cases h), h3⟩
end
end Go.Proofs.Ytmbnhlhanckkiaa
end
section
namespace Go.Proofs.Ytmbnhlhanckkiaa
open Go.RowKit
set_option linter.unusedVariables false
set_option linter.unusedSimpArgs false
attribute [local irreducible] setN

set_option maxRecDepth 100000 in
set_option maxHeartbeats 2000000 in
theorem amerge_new (A : Ar) (L : List En) (v u : Value) (w : World) (hv : isAr A v w) (hu : isEns L u w) (hF : FitA A) (hL : ∀ e ∈ L, FitE e) (hLn : L.length ≤ 500) : Calls Try.prog 20 #[v, u] w fun e w' => ∃ v', e = .returned (.tuple #[v', .int .i64 (mergeN A L : Int), .int .i64 (mergeO A L : Int)]) ∧ isArT w.heap.size (mergeF A L) v' w' ∧ Below w.heap.size w w' := by
  obtain ⟨vs, vi, rfl, hs, hi⟩ := hv
  have hb0 : Below w.heap.size w ((w.alloc (.cells #[.int .i64 A.cap, vs, vi] 25)).alloc (.cells #[.int .i64 0, .slice none 0 0, .slice none 0 0] 25)) := ((Below.refl _ w).alloc (Nat.le_refl _) _).alloc (by simp) _
  have hsz : ((w.alloc (.cells #[.int .i64 A.cap, vs, vi] 25)).alloc (.cells #[.int .i64 0, .slice none 0 0, .slice none 0 0] 25)).heap.size = w.heap.size + 2 := by simp
  have HA := Kept.mk (show isAr A (.agg #[.int .i64 A.cap, vs, vi]) ((w.alloc (.cells #[.int .i64 A.cap, vs, vi] 25)).alloc (.cells #[.int .i64 0, .slice none 0 0, .slice none 0 0] 25)) from stable_ar A _ _ _ ⟨vs, vi, rfl, hs, hi⟩ hb0)
  have HU := Kept.mk hu
  obtain ⟨ua, uc, rfl⟩ := hu.len
  have BA := ((Blk.new w 25 [.int .i64 A.cap, vs, vi] w.heap.size rfl).alloc (.cells #[.int .i64 0, .slice none 0 0, .slice none 0 0] 25))
  have BR := Kept.mk (Blk.new (w.alloc (.cells #[.int .i64 A.cap, vs, vi] 25)) 25 [.int .i64 0, .slice none 0 0, .slice none 0 0] (w.heap.size + 1) (by simp))
  have ka0 := BA.cells.2 0 _ rfl
  have ka1 := BA.cells.2 1 _ rfl
  have ka2 := BA.cells.2 2 _ rfl
  have hB := Kept.mk hb0
  clear hs hi BA hb0 hu
  go_enter Try.func20, Try.ntmps20
  go_wp2_with fail
  generalize ((w.alloc (.cells #[.int .i64 A.cap, vs, vi] 25)).alloc (.cells #[.int .i64 0, .slice none 0 0, .slice none 0 0] 25)) = W0 at *
  refine (change_any A _ _ HA.out hF).mono ?_
  rintro e W1 ⟨c, vs', vi', ps, rfl, hch, hb⟩
  have hN := hb.size
  generalize hN0 : W0.heap.size = N0 at *
  have HC := Kept.mk (show JPost N0 c (mergeF A (L.take 0)) W1 from ⟨_, _, _, hch⟩)
  replace BR := Kept.mk (BR.out.keep (hN0 ▸ hb))
  replace hB := Kept.mk (hB.out.trans (hb.mono (by omega)))
  clear ka0 ka1 ka2 hb hch HA
  go_wp2
  go_loopw [8, 9, 18] (fun s8 s9 i wr => ∃ k : Nat, k ≤ L.length ∧ i = .int .i64 (k : Int) ∧ s8 = .int .i64 (mergeN A (L.take k) : Int) ∧ s9 = .int .i64 (mergeO A (L.take k) : Int) ∧ Kept (Below w.heap.size w wr) ∧ Kept (N0 ≤ wr.heap.size) ∧ Kept (Blk wr (w.heap.size + 1) [.int .i64 0, .slice none 0 0, .slice none 0 0]) ∧ Kept (JPost N0 c (mergeF A (L.take k)) wr)) (fun _ _ i _ => L.length - (intOf i).toNat)
  case atStart => exact ⟨0, Nat.zero_le _, rfl, rfl, rfl, hB, ⟨hN⟩, BR, HC⟩
  case round =>
    clear hB BR HC
    obtain ⟨k, hk, rfl, rfl, rfl, B, HN, BR, HC⟩ := hrel
    by_cases hlt : k < L.length
    · have hlt' : (k : Int) < (L.length : Int) := by omega
      obtain ⟨X, hX⟩ : ∃ X, L[k]? = some X := ⟨_, List.getElem?_eq_getElem hlt⟩
      obtain ⟨bs, os, cs', hvs, hbs, hat⟩ := HU.out.get hX
      injection hvs with h1 _ h2
      subst h1 h2
      obtain ⟨xp, xm, hcell, hp0, hm0⟩ := hat
      have FX := Kept.mk (hL X (List.mem_of_getElem? hX))
      have FA := Kept.mk (fit_merge (L.take k) A hF (fun e he => hL e (List.mem_of_mem_take he)))
      have hp := stable_cells _ _ _ _ hp0 B.out
      have hm := stable_cells _ _ _ _ hm0 B.out
      have hsw := B.out.size
      obtain ⟨K1, K2, K3, K4, K5⟩ := enew wr X xp xm hp hm wr.heap.size rfl
      have XO := Kept.mk (enO_of (w := w) (show isEn X (.agg #[.string ⟨X.key.toArray⟩, .int .i64 X.val.kind, .int .i64 X.val.time, .int .i64 X.val.node, .bool X.val.dead, .string ⟨X.val.text.toArray⟩, xp, xm, .int .u64 (X.val.flags.toNat : Int)]) w from ⟨xp, xm, rfl, hp0, hm0⟩) (B.out.trans (K3.out.mono hsw)) N0 (by omega))
      have kc0 : wr.cell? ⟨bs, os + k * 9, none⟩ = _ := (B.out.cell (p := ⟨bs, os + k * 9 + 0, none⟩) hbs).trans (hcell 0 _ rfl)
      have kc1 : wr.cell? ⟨bs, os + k * 9 + 1, none⟩ = _ := (B.out.cell (p := ⟨bs, os + k * 9 + 1, none⟩) hbs).trans (hcell 1 _ rfl)
      have kc2 : wr.cell? ⟨bs, os + k * 9 + 2, none⟩ = _ := (B.out.cell (p := ⟨bs, os + k * 9 + 2, none⟩) hbs).trans (hcell 2 _ rfl)
      have kc3 : wr.cell? ⟨bs, os + k * 9 + 3, none⟩ = _ := (B.out.cell (p := ⟨bs, os + k * 9 + 3, none⟩) hbs).trans (hcell 3 _ rfl)
      have kc4 : wr.cell? ⟨bs, os + k * 9 + 4, none⟩ = _ := (B.out.cell (p := ⟨bs, os + k * 9 + 4, none⟩) hbs).trans (hcell 4 _ rfl)
      have kc5 : wr.cell? ⟨bs, os + k * 9 + 5, none⟩ = _ := (B.out.cell (p := ⟨bs, os + k * 9 + 5, none⟩) hbs).trans (hcell 5 _ rfl)
      have kc6 : wr.cell? ⟨bs, os + k * 9 + 6, none⟩ = _ := (B.out.cell (p := ⟨bs, os + k * 9 + 6, none⟩) hbs).trans (hcell 6 _ rfl)
      have kc7 : wr.cell? ⟨bs, os + k * 9 + 7, none⟩ = _ := (B.out.cell (p := ⟨bs, os + k * 9 + 7, none⟩) hbs).trans (hcell 7 _ rfl)
      have kc8 : wr.cell? ⟨bs, os + k * 9 + 8, none⟩ = _ := (B.out.cell (p := ⟨bs, os + k * 9 + 8, none⟩) hbs).trans (hcell 8 _ rfl)
      have htk : L.take (k + 1) = L.take k ++ [X] := by rw [List.take_add_one, hX]; rfl
      have HT := Kept.mk htk
      clear hcell hp hm hp0 hm0 hX htk
      go_wp2_with (have hz0 := K1; refine wpList_storeN 30 rfl (.tmp 11) (.tmp 21) rfl wr.heap.size [.string ⟨X.key.toArray⟩, .int .i64 X.val.kind, .int .i64 X.val.time, .int .i64 X.val.node, .bool X.val.dead, .string ⟨X.val.text.toArray⟩, xp, xm, .int .u64 (X.val.flags.toNat : Int)] size_en rfl rfl K1.out rfl K2.out K5.out ?_; clear hz0 K1 K2 K5 kc0 kc1 kc2 kc3 kc4 kc5 kc6 kc7 kc8; have kx0 := K4.out.1.2 0 _ rfl; have kx1 := K4.out.1.2 1 _ rfl; have kx2 := K4.out.1.2 2 _ rfl; have kx3 := K4.out.1.2 3 _ rfl; have kx4 := K4.out.1.2 4 _ rfl; have kx5 := K4.out.1.2 5 _ rfl; have kx6 := K4.out.1.2 6 _ rfl; have kx7 := K4.out.1.2 7 _ rfl; have kx8 := K4.out.1.2 8 _ rfl)
      have hs2 := K3.out.size
      obtain ⟨vs2, vi2, ps2, hch⟩ := HC.out
      have hch2 := hch.keep K3.out
      have BR2 := BR.out.keep K3.out
      have B2 := B.out.trans (K3.out.mono hsw)
      have hbr := BR.out.lt
      generalize (setN (wr.alloc (.cells #[.string ⟨#[]⟩, .int .i64 0, .int .i64 0, .int .i64 0, .bool false, .string ⟨#[]⟩, .slice none 0 0, .slice none 0 0, .int .u64 0] 30)) wr.heap.size 0 [.string ⟨X.key.toArray⟩, .int .i64 X.val.kind, .int .i64 X.val.time, .int .i64 X.val.node, .bool X.val.dead, .string ⟨X.val.text.toArray⟩, xp, xm, .int .u64 (X.val.flags.toNat : Int)]) = W2 at *
      have hnw : N0 ≤ W2.heap.size := Nat.le_trans HN.out hs2
      refine (cjoin_any N0 c (mergeF A (L.take k)) X _ _ _ _ W2 hch2 XO.out FA.out FX.out hnw).mono ?_
      rintro e W3 ⟨rfl, hp3, hb3⟩
      have B3 := Kept.mk (B2.trans (hb3.mono (by omega)))
      have BR3 := Kept.mk (BR2.keepB hb3 (by omega))
      have HN3 : Kept (N0 ≤ W3.heap.size) := ⟨Nat.le_trans hnw hb3.size⟩
      have HC3 := Kept.mk (show JPost N0 c (mergeF A (L.take (k + 1))) W3 by rw [HT.out, mergeF_snoc]; exact hp3)
      have hmn := mergeN_snoc (L.take k) A X
      have hmo := mergeO_snoc (L.take k) A X
      have b1 := mergeN_le (L.take k) A
      have b2 := mergeO_le (L.take k) A
      have b3 : (L.take k).length ≤ L.length := by simp; omega
      clear hp3 hb3 hch hch2 BR2 B2 K3 K4 XO kx0 kx1 kx2 kx3 kx4 kx5 kx6 kx7 kx8
      generalize joinAE (mergeF A (L.take k)) X = RE at *
      generalize joinAB (mergeF A (L.take k)) X = RB at *
      rw [← HT.out] at hmn hmo
      have HM := Kept.mk (And.intro hmn hmo)
      clear hmn hmo
      generalize mergeN A (L.take k) = n1 at *
      generalize mergeO A (L.take k) = n2 at *
      by_cases hre : RE = 0
      · subst hre
        cases RB with
        | true =>
          go_wp2
          go_roundw
          case rel => exact ⟨k + 1, by omega, by go_num, by rw [HM.out.1]; go_num, by rw [HM.out.2]; rfl, B3, HN3, BR3, HC3⟩
          case measure => simp [intOf]; omega
        | false =>
          go_wp2
          go_roundw
          case rel => exact ⟨k + 1, by omega, by go_num, by rw [HM.out.1]; rfl, by rw [HM.out.2]; rfl, B3, HN3, BR3, HC3⟩
          case measure => simp [intOf]; omega
      · have hre2 : (RE != 0) = true := by simpa using hre
        have hre3 : (RE == 0) = false := by simpa using hre
        cases RB with
        | true =>
          go_wp2
          go_roundw
          case rel => exact ⟨k + 1, by omega, by go_num, by rw [HM.out.1]; go_num, by rw [HM.out.2, if_neg hre]; go_num, B3, HN3, BR3, HC3⟩
          case measure => simp [intOf]; omega
        | false =>
          go_wp2
          go_roundw
          case rel => exact ⟨k + 1, by omega, by go_num, by rw [HM.out.1]; rfl, by rw [HM.out.2, if_neg hre]; go_num, B3, HN3, BR3, HC3⟩
          case measure => simp [intOf]; omega
    · have hlt' : ¬ (k : Int) < (L.length : Int) := by omega
      have htk : L.take k = L := List.take_of_length_le (by omega)
      obtain ⟨vs2, vi2, ps2, hch⟩ := HC.out
      rw [htk] at hch ⊢
      have HC2 := Kept.mk hch
      have k0 := HC2.out.st.cells.2 0 _ rfl
      have k1 := HC2.out.st.cells.2 1 _ rfl
      have k2 := HC2.out.st.cells.2 2 _ rfl
      clear hch htk HC
      have HO : Kept (Ones [.int .i64 (mergeF A L).cap, vs2, vi2]) := ⟨⟨rfl, (own_one HC2.out.own).2, (own_one HC2.out.idx).2, trivial⟩⟩
      go_wp2_with (have hz0 := HO; refine wpList_storeN 25 rfl (.tmp 4) (.tmp 39) rfl (w.heap.size + 1) [.int .i64 (mergeF A L).cap, vs2, vi2] size_ar rfl rfl BR.out.cells rfl BR.out.free HO.out ?_; clear hz0 HO)
      exact bodyPost_ret (resultsN3 rfl _ _ (w.heap.size + 1) [.int .i64 (mergeF A L).cap, vs2, vi2] (.int .i64 (mergeN A L : Int)) (.int .i64 (mergeO A L : Int)) size_ar agg_ar rfl rfl rfl (BR.out.all_ (l := [.int .i64 (mergeF A L).cap, vs2, vi2]) rfl).cells) rfl ⟨_, rfl, HC2.out.arT_set (N := w.heap.size) (by omega) (by omega) 0 _, below_setN (by omega) _ 0 _ B.out⟩
end Go.Proofs.Ytmbnhlhanckkiaa
end
section
namespace Go.Proofs.Ytmbnhlhanckkiaa
open Go.RowKit
set_option linter.unusedVariables false
set_option linter.unusedSimpArgs false
attribute [local irreducible] setN

def noCountB (A : Va) : Bool := decide (A.plus.length + A.minus.length = 0)
def noRegB (A : Va) : Bool := (A.time == 0) && (A.node == 0) && !A.dead && A.text.isEmpty
theorem flags_zero (fl : UInt64) : fl = 0 ↔ (fl.toNat : Int) = 0 := by
  rw [← UInt64.toNat_inj]
  simp
theorem beq_nil (l : List UInt8) : (l == []) = l.isEmpty := by cases l <;> rfl
theorem ok_regs (A : Va) (h : A.kind = 1) : okV A = (decide (0 ≤ A.time) && decide (A.time ≤ 2147483647) && decide (0 ≤ A.node) && decide (A.node ≤ 7) && decide ((A.text.length : Int) ≤ 8) && (!A.dead || A.text.isEmpty) && noCountB A && ((A.flags.toNat : Int) == 0)) := by
  rw [Bool.eq_iff_iff]
  constructor
  · intro ho
    obtain ⟨r1, r2⟩ := ok_reg ho h
    have e1 : A.plus = [] := congrArg Va.plus r2
    have e2 : A.minus = [] := congrArg Va.minus r2
    have e3 : A.flags = 0 := congrArg Va.flags r2
    unfold inReg at r1
    rw [beq_nil] at r1
    simp only [Bool.and_eq_true, decide_eq_true_eq] at r1
    obtain ⟨⟨⟨⟨c1, c2⟩, ⟨c3, c4⟩⟩, c5⟩, c6⟩ := r1
    simp only [Bool.and_eq_true, decide_eq_true_eq]
    exact ⟨⟨⟨⟨⟨⟨⟨c1, c2⟩, c3⟩, c4⟩, c5⟩, c6⟩, by unfold noCountB; rw [e1, e2]; rfl⟩, by rw [e3]; rfl⟩
  · intro hh
    simp only [Bool.and_eq_true, decide_eq_true_eq] at hh
    obtain ⟨⟨⟨⟨⟨⟨⟨c1, c2⟩, c3⟩, c4⟩, c5⟩, c6⟩, c7⟩, c8⟩ := hh
    unfold noCountB at c7
    simp only [decide_eq_true_eq] at c7
    have e1 : A.plus = [] := List.eq_nil_of_length_eq_zero (by omega)
    have e2 : A.minus = [] := List.eq_nil_of_length_eq_zero (by omega)
    have e3 : A.flags = 0 := (flags_zero _).2 (by simpa using c8)
    refine reg_ok h ?_ ?_
    · unfold inReg
      rw [beq_nil]
      simp only [Bool.and_eq_true, decide_eq_true_eq]
      exact ⟨⟨⟨⟨c1, c2⟩, ⟨c3, c4⟩⟩, c5⟩, c6⟩
    · unfold onlyReg
      obtain ⟨k, t, n, d, tx, p, mi, fl⟩ := A
      simp only at h e1 e2 e3
      subst h e1 e2 e3
      rfl
theorem ok_counts (A : Va) (h : A.kind = 2) : okV A = (okRow A.plus && okRow A.minus && noRegB A && ((A.flags.toNat : Int) == 0)) := by
  rw [Bool.eq_iff_iff]
  constructor
  · intro ho
    obtain ⟨r1, r2⟩ := ok_count ho h
    have e1 : A.time = 0 := congrArg Va.time r2
    have e2 : A.node = 0 := congrArg Va.node r2
    have e3 : A.flags = 0 := congrArg Va.flags r2
    have e4 : A.dead = false := congrArg Va.dead r2
    have e5 : A.text = [] := congrArg Va.text r2
    unfold inCount at r1
    rw [r1, e3]
    unfold noRegB
    rw [e1, e2, e4, e5]
    rfl
  · intro hh
    simp only [Bool.and_eq_true] at hh
    obtain ⟨⟨⟨c1, c2⟩, c3⟩, c8⟩ := hh
    unfold noRegB at c3
    simp only [Bool.and_eq_true, beq_iff_eq] at c3
    obtain ⟨⟨⟨e1, e2⟩, e4⟩, e5⟩ := c3
    have e3 : A.flags = 0 := (flags_zero _).2 (by simpa using c8)
    refine count_ok h (by unfold inCount; rw [c1, c2]; rfl) ?_
    unfold onlyCount
    obtain ⟨k, t, n, d, tx, p, mi, fl⟩ := A
    simp only at h e1 e2 e3 e4 e5
    have e4' : d = false := by simpa using e4
    have e5' : tx = [] := by simpa using e5
    subst h e1 e2 e3 e4' e5'
    rfl
theorem ok_flagss (A : Va) (h : A.kind = 3) : okV A = (noRegB A && noCountB A) := by
  rw [Bool.eq_iff_iff]
  constructor
  · intro ho
    have r2 := ok_flags ho h
    have e1 : A.time = 0 := congrArg Va.time r2
    have e2 : A.node = 0 := congrArg Va.node r2
    have e4 : A.dead = false := congrArg Va.dead r2
    have e5 : A.text = [] := congrArg Va.text r2
    have e6 : A.plus = [] := congrArg Va.plus r2
    have e7 : A.minus = [] := congrArg Va.minus r2
    unfold noRegB noCountB
    rw [e1, e2, e4, e5, e6, e7]
    rfl
  · intro hh
    simp only [Bool.and_eq_true] at hh
    obtain ⟨c3, c7⟩ := hh
    unfold noRegB at c3
    simp only [Bool.and_eq_true, beq_iff_eq] at c3
    obtain ⟨⟨⟨e1, e2⟩, e4⟩, e5⟩ := c3
    unfold noCountB at c7
    simp only [decide_eq_true_eq] at c7
    have e6 : A.plus = [] := List.eq_nil_of_length_eq_zero (by omega)
    have e7 : A.minus = [] := List.eq_nil_of_length_eq_zero (by omega)
    refine flags_ok h ?_
    unfold onlyFlags
    obtain ⟨k, t, n, d, tx, p, mi, fl⟩ := A
    simp only at h e1 e2 e4 e5 e6 e7
    have e4' : d = false := by simpa using e4
    have e5' : tx = [] := by simpa using e5
    subst h e1 e2 e4' e5' e6 e7
    rfl
end Go.Proofs.Ytmbnhlhanckkiaa
end
section
namespace Go.Proofs.Ytmbnhlhanckkiaa
open Go.RowKit
set_option linter.unusedVariables false
set_option linter.unusedSimpArgs false

noncomputable def refIntsops : Array Oper := regionOf Try.f60 6
set_option maxRecDepth 100000 in
theorem refInts_region (Q : Exit → Act → World → Prop) (a0 : Act) (w0 : World) (hsz : a0.tmps.size = 26) (b1 o1 c1 b2 o2 c2 n j : Nat) (x y : Int) (z : Bool)
    (e0 : a0.tmps.getD 0 undef = .slice (some ⟨b1, o1, none⟩) n c1) (e1 : a0.tmps.getD 1 undef = .slice (some ⟨b2, o2, none⟩) n c2) (e5 : a0.tmps.getD 5 undef = .int .i64 (j : Int)) (hj : j < n)
    (p1 : w0.cell? ⟨b1, o1 + j, none⟩ = some (.int .i64 x)) (l1 : b1 < w0.heap.size) (p2 : w0.cell? ⟨b2, o2 + j, none⟩ = some (.int .i64 y)) (l2 : b2 < w0.heap.size) (hz : (x != y) = z)
    (hQ : ∀ (f : Nat → Value) (w : World), f 25 = .bool z → Below w0.heap.size w0 w → Q .normal { tmps := [17, 18, 19, 20, 21, 22, 23, 24, 25].foldl (fun t s => t.setIfInBounds s (f s)) a0.tmps, defers := a0.defers } w) :
    (Code.region 6 refIntsops true).wp Try.prog Q a0 w0 := by
  refine wp_region_flow mixed (by rw [hsz]; kernel_rfl) ?_
  rw [show refIntsops.size = 9 by kernel_rfl]
  refine ⟨isVal (.slice (some ⟨b1, o1, none⟩) n c1), step_move (.tmp 0) (by kernel_rfl) (wanted_none (by kernel_rfl)) (stable_val _) (knows_old 0 (.slice (some ⟨b1, o1, none⟩) n c1) (by kernel_rfl) e0), ?_⟩
  refine ⟨isVal (.int .i64 (j : Int)), step_move (.tmp 5) (by kernel_rfl) (wanted_none (by kernel_rfl)) (stable_val _) (knows_old 5 (.int .i64 (j : Int)) (by kernel_rfl) e5), ?_⟩
  refine ⟨isVal (.pointer (some ⟨b1, o1 + j, none⟩)), step_place 23 3 (.tmp 17) (.tmp 18) b1 o1 n c1 j (by kernel_rfl) (wanted_none (by kernel_rfl)) (knows_new (V := isVal (.slice (some ⟨b1, o1, none⟩) n c1)) 17 0 (by kernel_rfl) (by kernel_rfl) (by kernel_rfl)) (knows_new (V := isVal (.int .i64 (j : Int))) 18 1 (by kernel_rfl) (by kernel_rfl) (by kernel_rfl)) Try.underlying23 (by kernel_rfl) hj, ?_⟩
  refine ⟨isVal (.int .i64 x), step_read 3 (.tmp 19) ⟨b1, o1 + j, none⟩ (.int .i64 x) (by kernel_rfl) (wanted_none (by kernel_rfl)) (knows_new (V := isVal (.pointer (some ⟨b1, o1 + j, none⟩))) 19 2 (by kernel_rfl) (by kernel_rfl) (by kernel_rfl)) p1 l1 agg_int, ?_⟩
  refine ⟨isVal (.slice (some ⟨b2, o2, none⟩) n c2), step_move (.tmp 1) (by kernel_rfl) (wanted_none (by kernel_rfl)) (stable_val _) (knows_old 1 (.slice (some ⟨b2, o2, none⟩) n c2) (by kernel_rfl) e1), ?_⟩
  refine ⟨isVal (.int .i64 (j : Int)), step_move (.tmp 5) (by kernel_rfl) (wanted_none (by kernel_rfl)) (stable_val _) (knows_old 5 (.int .i64 (j : Int)) (by kernel_rfl) e5), ?_⟩
  refine ⟨isVal (.pointer (some ⟨b2, o2 + j, none⟩)), step_place 23 3 (.tmp 21) (.tmp 22) b2 o2 n c2 j (by kernel_rfl) (wanted_none (by kernel_rfl)) (knows_new (V := isVal (.slice (some ⟨b2, o2, none⟩) n c2)) 21 4 (by kernel_rfl) (by kernel_rfl) (by kernel_rfl)) (knows_new (V := isVal (.int .i64 (j : Int))) 22 5 (by kernel_rfl) (by kernel_rfl) (by kernel_rfl)) Try.underlying23 (by kernel_rfl) hj, ?_⟩
  refine ⟨isVal (.int .i64 y), step_read 3 (.tmp 23) ⟨b2, o2 + j, none⟩ (.int .i64 y) (by kernel_rfl) (wanted_none (by kernel_rfl)) (knows_new (V := isVal (.pointer (some ⟨b2, o2 + j, none⟩))) 23 6 (by kernel_rfl) (by kernel_rfl) (by kernel_rfl)) p2 l2 agg_int, ?_⟩
  refine ⟨isVal (.bool z), step_bin .neq 3 3 (.tmp 20) (.tmp 24) (.int .i64 x) (.int .i64 y) (.bool z) (by kernel_rfl) (wanted_none (by kernel_rfl)) (knows_new (V := isVal (.int .i64 x)) 20 3 (by kernel_rfl) (by kernel_rfl) (by kernel_rfl)) (knows_new (V := isVal (.int .i64 y)) 24 7 (by kernel_rfl) (by kernel_rfl) (by kernel_rfl)) (fun _ => rfl) (neq_int _ _ _ _ _ hz), ?_⟩
  intro a w hkp hb hd
  rw [kept_of hkp ((List.range 9).map fun i => some (i + 17)) [17, 18, 19, 20, 21, 22, 23, 24, 25] (by kernel_rfl) (by decide)]
  exact hQ (fun s => a.tmps.getD s undef) w (fdone_of (hd 8 (by rw [show refIntsops.size = 9 by kernel_rfl]; decide)) (t := 25) (V := isVal (.bool z)) (by kernel_rfl) (by kernel_rfl)) hb
set_option maxRecDepth 20000 in
set_option maxHeartbeats 1000000 in
theorem refInts_any (l m : List (Int)) (v u : Value) (w : World) (hv : isCells (l.map intC) v w) (hu : isCells (m.map intC) u w) (h1 : l.length ≤ 1000000000) (h2 : m.length ≤ 1000000000) :
    Calls Try.prog 60 #[v, u] w fun e w' => e = .returned (.bool (decide (l = m))) ∧ Below w.heap.size w w' := by
  by_cases hlen : l.length = m.length
  case neg =>
    obtain ⟨a, cap, rfl⟩ := hv.len
    obtain ⟨b, cap2, rfl⟩ := hu.len
    rw [List.length_map, List.length_map]
    have HN := Kept.mk (show decide (l = m) = false by simp; rintro rfl; exact hlen rfl)
    have d1 : ((l.length : Int) != (m.length : Int)) = true := by simp [bne]; omega
    clear hv hu hlen
    go_enter Try.func60, Try.ntmps60
    go_wp2
    go_ret
    exact ⟨by rw [HN.out]; rfl, Below.refl _ _⟩
  by_cases h0 : l = []
  · subst h0
    obtain rfl : m = [] := List.eq_nil_of_length_eq_zero (by simpa using hlen.symm)
    obtain ⟨a, cap, rfl⟩ := hv.len
    obtain ⟨b, cap2, rfl⟩ := hu.len
    clear hv hu
    simp only [List.map_nil, List.length_nil]
    go_enter Try.func60, Try.ntmps60
    go_wp2
    go_loop [5] (fun i => i = .int .i64 0) (fun _ => 0)
    case atStart => rfl
    case round =>
      subst hrel
      go_wp2
      go_ret
      exact ⟨by simp, Below.refl _ _⟩
  · have hl0 : 0 < l.length := List.length_pos_iff.2 h0
    obtain ⟨b1, o1, c1, hv', l1, hc1⟩ := hv.some_ (by simpa using hl0)
    obtain ⟨b2, o2, c2, hu', l2, hc2⟩ := hu.some_ (by rw [List.length_map]; omega)
    rw [List.length_map] at hv' hu'
    subst hv' hu'
    have HM := Kept.mk hlen
    have hmn : m.length = l.length := hlen.symm
    rw [hmn]
    obtain ⟨n, hn⟩ : ∃ n, n = l.length := ⟨_, rfl⟩
    have HN := Kept.mk hn
    rw [← hn] at h1 hl0 ⊢
    have HC1 := Kept.mk hc1
    have HC2 := Kept.mk hc2
    have hB : Below w.heap.size w w := Below.refl _ _
    clear hv hu hlen hmn hn hc1 hc2 h0
    go_enter Try.func60, Try.ntmps60
    go_wp2
    go_loopw [5] (fun i wr => ∃ j : Nat, j ≤ n ∧ i = .int .i64 (j : Int) ∧ Kept (l.take j = m.take j) ∧ Below w.heap.size w wr) (fun i _ => n - (intOf i).toNat)
    case atStart => exact ⟨0, Nat.zero_le _, rfl, ⟨rfl⟩, hB⟩
    case round =>
      clear hB
      obtain ⟨j, hj, rfl, HT, hB⟩ := hrel
      by_cases hlt : j < n
      · have d1 : decide ((j : Int) < (n : Int)) = true := by simpa using hlt
        have HA := Kept.mk (show j < l.length by rw [← HN.out]; exact hlt)
        have HB := Kept.mk (show j < m.length by rw [← HM.out, ← HN.out]; exact hlt)
        have q1 := Kept.mk ((hB.cell (p := ⟨b1, o1 + j, none⟩) l1).trans (HC1.out j _ (get_map intC l j HA.out)))
        have q2 := Kept.mk ((hB.cell (p := ⟨b2, o2 + j, none⟩) l2).trans (HC2.out j _ (get_map intC m j HB.out)))
        cases hz : (l[j]'HA.out != m[j]'HB.out) with
        | true =>
          have HR := Kept.mk (show decide (l = m) = false by
            simp only [decide_eq_false_iff_not]
            rintro rfl
            simp at hz)
          have HZ := Kept.mk hz
          clear hz
          go_wp2_with fail
          refine refInts_region _ _ _ rfl b1 o1 c1 b2 o2 c2 n j _ _ true rfl rfl rfl hlt q1.out (Nat.lt_of_lt_of_le l1 hB.size) q2.out (Nat.lt_of_lt_of_le l2 hB.size) HZ.out ?_
          clear q1 q2 HZ
          intro f9 W9 hg hb9
          replace hB := hB.trans (hb9.mono hB.size)
          clear hb9
          simp only [List.foldl_cons, List.foldl_nil, hg]
          generalize f9 17 = y17
          generalize f9 18 = y18
          generalize f9 19 = y19
          generalize f9 20 = y20
          generalize f9 21 = y21
          generalize f9 22 = y22
          generalize f9 23 = y23
          generalize f9 24 = y24
          clear hg
          simp only [List.setIfInBounds_toArray, List.set_cons_succ, List.set_cons_zero]
          go_wp2
          go_ret
          exact ⟨by rw [HR.out]; rfl, hB⟩
        | false =>
          have HR := Kept.mk (show l.take (j + 1) = m.take (j + 1) by
            rw [List.take_succ_eq_append_getElem HA.out, List.take_succ_eq_append_getElem HB.out, HT.out]
            simp at hz
            rw [hz])
          have HZ := Kept.mk hz
          clear hz HT
          go_wp2_with fail
          refine refInts_region _ _ _ rfl b1 o1 c1 b2 o2 c2 n j _ _ false rfl rfl rfl hlt q1.out (Nat.lt_of_lt_of_le l1 hB.size) q2.out (Nat.lt_of_lt_of_le l2 hB.size) HZ.out ?_
          clear q1 q2 HZ
          intro f9 W9 hg hb9
          replace hB := hB.trans (hb9.mono hB.size)
          clear hb9
          simp only [List.foldl_cons, List.foldl_nil, hg]
          generalize f9 17 = y17
          generalize f9 18 = y18
          generalize f9 19 = y19
          generalize f9 20 = y20
          generalize f9 21 = y21
          generalize f9 22 = y22
          generalize f9 23 = y23
          generalize f9 24 = y24
          clear hg
          simp only [List.setIfInBounds_toArray, List.set_cons_succ, List.set_cons_zero]
          go_wp2
          go_roundw
          case rel => exact ⟨j + 1, by omega, by go_num, HR, hB⟩
          case measure => simp [intOf]; omega
      · have d1 : decide ((j : Int) < (n : Int)) = false := by simp; omega
        have HR := Kept.mk (show decide (l = m) = true by
          have h := HT.out
          rw [List.take_of_length_le (by rw [← HN.out]; omega), List.take_of_length_le (by rw [← HM.out, ← HN.out]; omega)] at h
          simpa using h)
        go_wp2
        go_ret
        exact ⟨by rw [HR.out]; rfl, hB⟩
end Go.Proofs.Ytmbnhlhanckkiaa
end
section
namespace Go.Proofs.Ytmbnhlhanckkiaa
open Go.RowKit
set_option linter.unusedVariables false
set_option linter.unusedSimpArgs false
attribute [local irreducible] setN

theorem same_split2 (A B : Va) : decide (A = B) = ((A.kind == B.kind) && (A.time == B.time) && (A.node == B.node) && (A.dead == B.dead) && (A.text == B.text) && ((A.flags.toNat : Int) == (B.flags.toNat : Int)) && decide (A.plus = B.plus) && decide (A.minus = B.minus)) := by
  rw [same_split]
  generalize (A.kind == B.kind) = a
  generalize (A.time == B.time) = b
  generalize (A.node == B.node) = c
  generalize (A.dead == B.dead) = d
  generalize (A.text == B.text) = e
  generalize decide (A.plus = B.plus) = f
  generalize decide (A.minus = B.minus) = g
  generalize ((A.flags.toNat : Int) == (B.flags.toNat : Int)) = h
  cases a <;> cases b <;> cases c <;> cases d <;> cases e <;> cases f <;> cases g <;> cases h <;> rfl
set_option maxRecDepth 20000 in
set_option maxHeartbeats 2000000 in
theorem rsame_any (A B : Va) (v u : Value) (w : World) (hv : isVa A v w) (hu : isVa B u w) (hA : Fit A) (hC : Fit B) :
    Calls Try.prog 54 #[v, u] w fun e w' => e = .returned (.bool (decide (A = B))) ∧ Below w.heap.size w w' := by
  have hv0 := hv
  have hu0 := hu
  obtain ⟨pa, ma, rfl, hpa, hma⟩ := hv
  obtain ⟨pb, mb, rfl, hpb, hmb⟩ := hu
  obtain ⟨hB, Va⟩ := vbox w A pa ma hpa hma (w.heap.size) (by simp)
  obtain ⟨hBn, Vb⟩ := vbox (w.alloc (.cells #[.int .i64 A.kind, .int .i64 A.time, .int .i64 A.node, .bool A.dead, .string ⟨A.text.toArray⟩, pa, ma, .int .u64 (A.flags.toNat : Int)] 28)) B pb mb (stable_cells _ _ _ _ hpb hB.out) (stable_cells _ _ _ _ hmb hB.out) (w.heap.size + 1) (by simp)
  replace Va := Kept.mk (Va.out.keep hBn.out)
  replace hB := Kept.mk (hB.out.trans (hBn.out.mono hB.out.size))
  clear hBn
  clear hpa hma hpb hmb
  have HS := Kept.mk (same_split2 A B)
  have HA0 := Kept.mk (va_grow hv0 hB.out)
  have HU0 := Kept.mk (va_grow hu0 hB.out)
  clear hv0 hu0
  cases d0 : (A.kind == B.kind) with
  | false =>
    go_enter Try.func54, Try.ntmps54
    go_wp2
    all_goals go_ret
    all_goals exact ⟨by rw [HS.out, d0]; rfl, hB.out⟩
  | true =>
    cases d1 : (A.time == B.time) with
    | false =>
      go_enter Try.func54, Try.ntmps54
      go_wp2
      all_goals go_ret
      all_goals exact ⟨by rw [HS.out, d0, d1]; rfl, hB.out⟩
    | true =>
      cases d2 : (A.node == B.node) with
      | false =>
        go_enter Try.func54, Try.ntmps54
        go_wp2
        all_goals go_ret
        all_goals exact ⟨by rw [HS.out, d0, d1, d2]; rfl, hB.out⟩
      | true =>
        cases d3 : (A.dead == B.dead) with
        | false =>
          go_enter Try.func54, Try.ntmps54
          go_wp2
          all_goals go_ret
          all_goals exact ⟨by rw [HS.out, d0, d1, d2, d3]; rfl, hB.out⟩
        | true =>
          cases d4 : (A.text == B.text) with
          | false =>
            go_enter Try.func54, Try.ntmps54
            go_wp2
            all_goals go_ret
            all_goals exact ⟨by rw [HS.out, d0, d1, d2, d3, d4]; rfl, hB.out⟩
          | true =>
            cases d5 : ((A.flags.toNat : Int) == (B.flags.toNat : Int)) with
            | false =>
              go_enter Try.func54, Try.ntmps54
              go_wp2
              all_goals go_ret
              all_goals exact ⟨by rw [HS.out, d0, d1, d2, d3, d4, d5]; rfl, hB.out⟩
            | true =>
              go_enter Try.func54, Try.ntmps54
              go_wp2_with fail
              generalize (w.alloc (.cells #[.int .i64 A.kind, .int .i64 A.time, .int .i64 A.node, .bool A.dead, .string ⟨A.text.toArray⟩, pa, ma, .int .u64 (A.flags.toNat : Int)] 28)).alloc (.cells #[.int .i64 B.kind, .int .i64 B.time, .int .i64 B.node, .bool B.dead, .string ⟨B.text.toArray⟩, pb, mb, .int .u64 (B.flags.toNat : Int)] 28) = W0 at *
              obtain ⟨_, _, e1, e2, e3⟩ := HA0.out
              obtain ⟨_, _, e4, e5, e6⟩ := HU0.out
              cases e1
              cases e4
              ((with_reducible refine (refInts_any A.plus B.plus _ _ _ e2 e5 (by have := hA.plus; omega) (by have := hC.plus; omega)).mono ?_); rintro e W1 ⟨rfl, hb1⟩)
              replace hB := Kept.mk (hB.out.trans ((hb1).mono hB.out.size))
              replace Va := Kept.mk (Va.out.keep (hb1))
              replace Vb := Kept.mk (Vb.out.keep (hb1))
              clear hb1 e2 e3 e5 e6 HA0 HU0
              cases d6 : decide (A.plus = B.plus) with
              | false =>
                go_wp2
                all_goals go_ret
                all_goals exact ⟨by rw [HS.out, d0, d1, d2, d3, d4, d5, d6]; rfl, hB.out⟩
              | true =>
                obtain ⟨qa, ra, -, -, ma2, ka0, ka1, ka2, ka3, ka4, ka5, ka6, ka7⟩ := Va.out.open_
                obtain ⟨qb, rb, -, -, mb2, kb0, kb1, kb2, kb3, kb4, kb5, kb6, kb7⟩ := Vb.out.open_
                go_wp2_with fail
                ((with_reducible refine (refInts_any A.minus B.minus _ _ _ ma2.out mb2.out (by have := hA.minus; omega) (by have := hC.minus; omega)).mono ?_); rintro e W2 ⟨rfl, hb1⟩)
                clear ma2 mb2 ka0 ka1 ka2 ka3 ka4 ka5 ka6 ka7 kb0 kb1 kb2 kb3 kb4 kb5 kb6 kb7
                replace hB := Kept.mk (hB.out.trans ((hb1).mono hB.out.size))
                replace Va := Kept.mk (Va.out.keep (hb1))
                replace Vb := Kept.mk (Vb.out.keep (hb1))
                clear hb1
                obtain ⟨z, hz⟩ : ∃ z, z = decide (A.minus = B.minus) := ⟨_, rfl⟩
                rw [← hz] at HS ⊢
                clear hz
                go_wp2
                all_goals go_ret
                all_goals exact ⟨by rw [HS.out, d0, d1, d2, d3, d4, d5, d6]; rfl, hB.out⟩
theorem behind_split (A B : Va) : behindB A B = if A.time = B.time then (if A.node = B.node then (if A.dead = B.dead then (!(Op.bytesLess A.text B.text || A.text == B.text)) else A.dead) else decide (B.node < A.node)) else decide (B.time < A.time) := by
  rw [Bool.eq_iff_iff, behindB_iff]
  unfold Behind
  by_cases h1 : A.time = B.time
  · rw [if_pos h1]
    by_cases h2 : A.node = B.node
    · rw [if_pos h2]
      by_cases h3 : A.dead = B.dead
      · rw [if_pos h3]
        have e : (!(Op.bytesLess A.text B.text || A.text == B.text)) = Op.bytesLess B.text A.text := by
          cases a : Op.bytesLess A.text B.text with
          | true => rw [less_asymm a]; rfl
          | false =>
            cases b : Op.bytesLess B.text A.text with
            | true =>
              have : A.text ≠ B.text := by intro e; rw [e, less_irrefl] at b; cases b
              simp [this]
            | false => simp [less_total _ _ a b]
        rw [e]
        simp [h1, h2, h3]
      · rw [if_neg h3]
        cases ha : A.dead <;> cases hb : B.dead <;> simp [ha, hb] at h3 <;> simp [h1, h2, rankI]
    · rw [if_neg h2]
      simp [h1, h2]
  · rw [if_neg h1]
    simp [h1]
end Go.Proofs.Ytmbnhlhanckkiaa
end
section
namespace Go.Proofs.Ytmbnhlhanckkiaa
open Go.RowKit
set_option linter.unusedVariables false
set_option linter.unusedSimpArgs false
attribute [local irreducible] setN

set_option maxRecDepth 100000 in
set_option maxHeartbeats 2000000 in
theorem resame_any (A B : En) (v u : Value) (w : World) (hv : isEn A v w) (hu : isEn B u w) (hA : Fit A.val) (hF : Fit B.val) : Calls Try.prog 40 #[v, u] w fun e w' => e = .returned (.bool (decide (A = B))) ∧ Below w.heap.size w w' := by
  have HS := Kept.mk (same_en A B)
  obtain ⟨pa, ma, rfl, hpa, hma⟩ := hv
  obtain ⟨pb, mb, rfl, hpb, hmb⟩ := hu
  obtain ⟨hB, Va⟩ := ebox w A pa ma hpa hma (w.heap.size) (by simp)
  obtain ⟨hBn, Vb⟩ := ebox (w.alloc (.cells #[.string ⟨A.key.toArray⟩, .int .i64 A.val.kind, .int .i64 A.val.time, .int .i64 A.val.node, .bool A.val.dead, .string ⟨A.val.text.toArray⟩, pa, ma, .int .u64 (A.val.flags.toNat : Int)] 30)) B pb mb (stable_cells _ _ _ _ hpb hB.out) (stable_cells _ _ _ _ hmb hB.out) (w.heap.size + 1) (by simp)
  replace Va := Kept.mk (Va.out.keep hBn.out)
  replace hB := Kept.mk (hB.out.trans (hBn.out.mono hB.out.size))
  clear hBn
  clear hpa hma hpb hmb
  obtain ⟨qa, ra, xa, ya, ka0, ka1, ka2, ka3, ka4, ka5, ka6, ka7, ka8⟩ := Va.out.open_
  have Xa := Kept.mk xa
  have Ya := Kept.mk ya
  clear xa ya
  obtain ⟨qb, rb, xb, yb, kb0, kb1, kb2, kb3, kb4, kb5, kb6, kb7, kb8⟩ := Vb.out.open_
  have Xb := Kept.mk xb
  have Yb := Kept.mk yb
  clear xb yb
  cases hk : (A.key == B.key) with
  | false =>
    go_enter Try.func40, Try.ntmps40
    go_wp2
    go_ret
    exact ⟨by rw [HS.out, hk]; rfl, hB.out⟩
  | true =>
    have HK := Kept.mk hk
    go_enter Try.func40, Try.ntmps40
    go_wp2_with fail
    refine (rsame_any A.val B.val _ _ _ Ya.out Yb.out hA hF).mono ?_
    rintro e W1 ⟨rfl, hb1⟩
    replace hB := Kept.mk (hB.out.trans (hb1.mono hB.out.size))
    clear hb1 Xa Xb Ya Yb Va Vb ka0 ka1 ka2 ka3 ka4 ka5 ka6 ka7 ka8 kb0 kb1 kb2 kb3 kb4 kb5 kb6 kb7 kb8
    generalize hz : decide (A.val = B.val) = z
    have HV := Kept.mk hz
    clear hz
    go_wp2
    go_ret
    exact ⟨by rw [HS.out, HK.out, HV.out]; rfl, hB.out⟩
end Go.Proofs.Ytmbnhlhanckkiaa
end
section
namespace Go.Proofs.Ytmbnhlhanckkiaa
open Go.RowKit
set_option linter.unusedVariables false
set_option linter.unusedSimpArgs false
attribute [local irreducible] setN

theorem resame_val (X Y : En) (z : Bool) (v u : Value) (w : World) (hv : isEn X v w) (hu : isEn Y u w) (hX : FitE X) (hY : FitE Y) (hz : decide (X = Y) = z) : Calls Try.prog 40 #[v, u] w fun e w' => ∃ x, e = .returned x ∧ isVal (.bool z) x w' ∧ Below w.heap.size w w' :=
  (resame_any X Y v u w hv hu hX.val hY.val).mono (by rintro e w' ⟨rfl, h⟩; exact ⟨_, rfl, by rw [hz]; rfl, h⟩)
noncomputable def rallOps : Array Oper := regionOf Try.f21 6
set_option maxRecDepth 100000 in
set_option maxHeartbeats 2000000 in
theorem rall_region (Q : Exit → Act → World → Prop) (a0 : Act) (w0 : World) (hsz : a0.tmps.size = 27) (k n bs os cs bt ot ct : Nat) (z : Bool) (X Y : En) (xp xm yp ym : Value) (e5 : a0.tmps.getD 5 undef = .int .i64 (k : Int)) (e0 : a0.tmps.getD 0 undef = .slice (some ⟨bs, os, none⟩) n cs) (e1 : a0.tmps.getD 1 undef = .slice (some ⟨bt, ot, none⟩) n ct) (hk : k < n) (hbs : bs < w0.heap.size) (hbt : bt < w0.heap.size) (hxc : ∀ (j : Nat) (x : Value), [.string ⟨X.key.toArray⟩, .int .i64 X.val.kind, .int .i64 X.val.time, .int .i64 X.val.node, .bool X.val.dead, .string ⟨X.val.text.toArray⟩, xp, xm, .int .u64 (X.val.flags.toNat : Int)][j]? = some x → w0.cell? ⟨bs, os + k * 9 + j, none⟩ = some x) (hyc : ∀ (j : Nat) (x : Value), [.string ⟨Y.key.toArray⟩, .int .i64 Y.val.kind, .int .i64 Y.val.time, .int .i64 Y.val.node, .bool Y.val.dead, .string ⟨Y.val.text.toArray⟩, yp, ym, .int .u64 (Y.val.flags.toNat : Int)][j]? = some x → w0.cell? ⟨bt, ot + k * 9 + j, none⟩ = some x) (hxp : isCells (X.val.plus.map intC) xp w0) (hxm : isCells (X.val.minus.map intC) xm w0) (hyp : isCells (Y.val.plus.map intC) yp w0) (hym : isCells (Y.val.minus.map intC) ym w0) (fX : FitE X) (fY : FitE Y) (hz : decide (X = Y) = z)
    (hQ : ∀ (g : Nat → Value) (w : World), g 26 = .bool !z → Below w0.heap.size w0 w → Q .normal { tmps := [17, 18, 19, 20, 21, 22, 23, 24, 25, 26].foldl (fun t s => t.setIfInBounds s (g s)) a0.tmps, defers := a0.defers } w) :
    (Code.region 6 rallOps true).wp Try.prog Q a0 w0 := by
  refine wp_region_flow mixed (by rw [hsz]; kernel_rfl) ?_
  rw [show rallOps.size = 10 by kernel_rfl]
  refine ⟨isVal (.slice (some ⟨bs, os, none⟩) n cs), step_move (.tmp 0) (by kernel_rfl) (wanted_none (by kernel_rfl)) (stable_val _) (knows_old 0 (.slice (some ⟨bs, os, none⟩) n cs) (by kernel_rfl) e0), ?_⟩
  refine ⟨isVal (.int .i64 (k : Int)), step_move (.tmp 5) (by kernel_rfl) (wanted_none (by kernel_rfl)) (stable_val _) (knows_old 5 (.int .i64 (k : Int)) (by kernel_rfl) e5), ?_⟩
  refine ⟨isVal (.pointer (some ⟨bs, os + k * 9, none⟩)), step_placeE 22 30 (.tmp 17) (.tmp 18) bs (os) (n) (cs) (k) (os + k * 9) (by kernel_rfl) (wanted_none (by kernel_rfl)) (knows_new (V := isVal (.slice (some ⟨bs, os, none⟩) n cs)) 17 0 (by kernel_rfl) (by kernel_rfl) (by kernel_rfl)) (knows_new (V := isVal (.int .i64 (k : Int))) 18 1 (by kernel_rfl) (by kernel_rfl) (by kernel_rfl)) Try.underlying22 (by kernel_rfl) (⟨hk, rfl⟩), ?_⟩
  refine ⟨isVal (.agg #[.string ⟨X.key.toArray⟩, .int .i64 X.val.kind, .int .i64 X.val.time, .int .i64 X.val.node, .bool X.val.dead, .string ⟨X.val.text.toArray⟩, xp, xm, .int .u64 (X.val.flags.toNat : Int)]), step_loadA 30 (.tmp 19) (bs) (os + k * 9) [.string ⟨X.key.toArray⟩, .int .i64 X.val.kind, .int .i64 X.val.time, .int .i64 X.val.node, .bool X.val.dead, .string ⟨X.val.text.toArray⟩, xp, xm, .int .u64 (X.val.flags.toNat : Int)] (by kernel_rfl) (wanted_none (by kernel_rfl)) (knows_new (V := isVal (.pointer (some ⟨bs, os + k * 9, none⟩))) 19 2 (by kernel_rfl) (by kernel_rfl) (by kernel_rfl)) size_en agg_en (⟨hbs, hxc⟩), ?_⟩
  refine ⟨isVal (.slice (some ⟨bt, ot, none⟩) n ct), step_move (.tmp 1) (by kernel_rfl) (wanted_none (by kernel_rfl)) (stable_val _) (knows_old 1 (.slice (some ⟨bt, ot, none⟩) n ct) (by kernel_rfl) e1), ?_⟩
  refine ⟨isVal (.int .i64 (k : Int)), step_move (.tmp 5) (by kernel_rfl) (wanted_none (by kernel_rfl)) (stable_val _) (knows_old 5 (.int .i64 (k : Int)) (by kernel_rfl) e5), ?_⟩
  refine ⟨isVal (.pointer (some ⟨bt, ot + k * 9, none⟩)), step_placeE 22 30 (.tmp 21) (.tmp 22) bt (ot) (n) (ct) (k) (ot + k * 9) (by kernel_rfl) (wanted_none (by kernel_rfl)) (knows_new (V := isVal (.slice (some ⟨bt, ot, none⟩) n ct)) 21 4 (by kernel_rfl) (by kernel_rfl) (by kernel_rfl)) (knows_new (V := isVal (.int .i64 (k : Int))) 22 5 (by kernel_rfl) (by kernel_rfl) (by kernel_rfl)) Try.underlying22 (by kernel_rfl) (⟨hk, rfl⟩), ?_⟩
  refine ⟨isVal (.agg #[.string ⟨Y.key.toArray⟩, .int .i64 Y.val.kind, .int .i64 Y.val.time, .int .i64 Y.val.node, .bool Y.val.dead, .string ⟨Y.val.text.toArray⟩, yp, ym, .int .u64 (Y.val.flags.toNat : Int)]), step_loadA 30 (.tmp 23) (bt) (ot + k * 9) [.string ⟨Y.key.toArray⟩, .int .i64 Y.val.kind, .int .i64 Y.val.time, .int .i64 Y.val.node, .bool Y.val.dead, .string ⟨Y.val.text.toArray⟩, yp, ym, .int .u64 (Y.val.flags.toNat : Int)] (by kernel_rfl) (wanted_none (by kernel_rfl)) (knows_new (V := isVal (.pointer (some ⟨bt, ot + k * 9, none⟩))) 23 6 (by kernel_rfl) (by kernel_rfl) (by kernel_rfl)) size_en agg_en (⟨hbt, hyc⟩), ?_⟩
  refine ⟨isVal (.bool z), step_call 40 #[.tmp 20, .tmp 24] #[30, 30] #[.agg #[.string ⟨X.key.toArray⟩, .int .i64 X.val.kind, .int .i64 X.val.time, .int .i64 X.val.node, .bool X.val.dead, .string ⟨X.val.text.toArray⟩, xp, xm, .int .u64 (X.val.flags.toNat : Int)], .agg #[.string ⟨Y.key.toArray⟩, .int .i64 Y.val.kind, .int .i64 Y.val.time, .int .i64 Y.val.node, .bool Y.val.dead, .string ⟨Y.val.text.toArray⟩, yp, ym, .int .u64 (Y.val.flags.toNat : Int)]] (by kernel_rfl) (wanted_none (by kernel_rfl)) (stable_val _) (args2 (.tmp 20) (.tmp 24) (.agg #[.string ⟨X.key.toArray⟩, .int .i64 X.val.kind, .int .i64 X.val.time, .int .i64 X.val.node, .bool X.val.dead, .string ⟨X.val.text.toArray⟩, xp, xm, .int .u64 (X.val.flags.toNat : Int)]) (.agg #[.string ⟨Y.key.toArray⟩, .int .i64 Y.val.kind, .int .i64 Y.val.time, .int .i64 Y.val.node, .bool Y.val.dead, .string ⟨Y.val.text.toArray⟩, yp, ym, .int .u64 (Y.val.flags.toNat : Int)]) (knows_new (V := isVal (.agg #[.string ⟨X.key.toArray⟩, .int .i64 X.val.kind, .int .i64 X.val.time, .int .i64 X.val.node, .bool X.val.dead, .string ⟨X.val.text.toArray⟩, xp, xm, .int .u64 (X.val.flags.toNat : Int)])) 20 3 (by kernel_rfl) (by kernel_rfl) (by kernel_rfl)) (knows_new (V := isVal (.agg #[.string ⟨Y.key.toArray⟩, .int .i64 Y.val.kind, .int .i64 Y.val.time, .int .i64 Y.val.node, .bool Y.val.dead, .string ⟨Y.val.text.toArray⟩, yp, ym, .int .u64 (Y.val.flags.toNat : Int)])) 24 7 (by kernel_rfl) (by kernel_rfl) (by kernel_rfl))) (enters_of Try.func40 (by kernel_rfl) rfl) (by intro w' hb; exact resame_val X Y z _ _ w' (en_mk hxp hxm hb) (en_mk hyp hym hb) fX fY hz), ?_⟩
  refine ⟨isVal (.bool !z), step_un .not 4 (.tmp 25) (.bool z) (.bool !z) (by kernel_rfl) (wanted_none (by kernel_rfl)) (knows_new (V := isVal (.bool z)) 25 8 (by kernel_rfl) (by kernel_rfl) (by kernel_rfl)) (fun _ => rfl), ?_⟩
  intro a w hkp hb hd
  rw [kept_of hkp [some 17, some 18, some 19, some 20, some 21, some 22, some 23, some 24, some 25, some 26] [17, 18, 19, 20, 21, 22, 23, 24, 25, 26] (by kernel_rfl) (by decide)]
  have d26 := fdone_of (hd 9 (by rw [show rallOps.size = 10 by kernel_rfl]; decide)) (t := 26) (V := isVal (.bool !z)) (by kernel_rfl) (by kernel_rfl)
  exact hQ (fun s => a.tmps.getD s undef) w d26 hb
set_option maxRecDepth 100000 in
set_option maxHeartbeats 2000000 in
theorem refAll_any (l m : List En) (v u : Value) (w : World) (hv : isEns l v w) (hu : isEns m u w) (hl : l.length ≤ 1000) (hm : m.length ≤ 1000) (fl : ∀ e ∈ l, FitE e) (fm : ∀ e ∈ m, FitE e) : Calls Try.prog 21 #[v, u] w fun e w' => e = .returned (.bool (decide (l = m))) ∧ Below w.heap.size w w' := by
  obtain ⟨va, vc, rfl⟩ := hv.len
  obtain ⟨ua, uc, rfl⟩ := hu.len
  by_cases hlen : l.length = m.length
  · have HV := Kept.mk hv
    have HU := Kept.mk hu
    have FL := Kept.mk fl
    have FM := Kept.mk fm
    clear hv hu fl fm
    generalize hn : l.length = n at *
    generalize hmn : m.length = n2 at *
    subst hlen
    have HN := Kept.mk (And.intro hn hmn)
    clear hn hmn
    go_enter Try.func21, Try.ntmps21
    go_wp2
    go_loopw [5] (fun i wr => ∃ k : Nat, k ≤ n ∧ i = .int .i64 (k : Int) ∧ Kept (Below w.heap.size w wr) ∧ Kept (∀ j, j < k → l[j]? = m[j]?)) (fun i _ => n - (intOf i).toNat)
    case atStart => exact ⟨0, Nat.zero_le _, rfl, ⟨Below.refl _ _⟩, ⟨fun j h => absurd h (Nat.not_lt_zero _)⟩⟩
    case round =>
      obtain ⟨k, hk, rfl, B, A⟩ := hrel
      by_cases hlt : k < n
      · have hlt' : (k : Int) < (n : Int) := by omega
        obtain ⟨X, hX⟩ : ∃ X, l[k]? = some X := ⟨_, List.getElem?_eq_getElem (by have := HN.out.1; omega)⟩
        obtain ⟨Y, hY⟩ : ∃ Y, m[k]? = some Y := ⟨_, List.getElem?_eq_getElem (by have := HN.out.2; omega)⟩
        obtain ⟨bs, os, cs, hvs, hbs, xp, xm, hxc, hxp, hxm⟩ := HV.out.get hX
        injection hvs with h1 hz1 h2
        clear hz1
        subst h1 h2
        obtain ⟨bt, ot, ct, hvt, hbt, yp, ym, hyc, hyp, hym⟩ := HU.out.get hY
        injection hvt with h1 hz1 h2
        clear hz1
        subst h1 h2
        have FX := Kept.mk (FL.out X (List.mem_of_getElem? hX))
        have FY := Kept.mk (FM.out Y (List.mem_of_getElem? hY))
        have HXY := Kept.mk (And.intro hX hY)
        have HXC := Kept.mk hxc
        have HYC := Kept.mk hyc
        obtain ⟨z, hz⟩ : ∃ z, decide (X = Y) = z := ⟨_, rfl⟩
        have HZ := Kept.mk hz
        have hsw := B.out.size
        clear hX hY hz hxc hyc
        go_wp2
        refine rall_region _ _ _ rfl k n bs os vc bt ot uc z X Y xp xm yp ym rfl rfl rfl hlt (by omega) (by omega) (fun j x hx => (B.out.cell (p := ⟨bs, os + k * 9 + j, none⟩) hbs).trans (HXC.out j x hx)) (fun j x hx => (B.out.cell (p := ⟨bt, ot + k * 9 + j, none⟩) hbt).trans (HYC.out j x hx)) (stable_cells _ _ _ _ hxp B.out) (stable_cells _ _ _ _ hxm B.out) (stable_cells _ _ _ _ hyp B.out) (stable_cells _ _ _ _ hym B.out) FX.out FY.out HZ.out ?_
        intro f9 W9 d26 hb9
        simp only [List.foldl_cons, List.foldl_nil, d26]
        generalize f9 17 = y17
        generalize f9 18 = y18
        generalize f9 19 = y19
        generalize f9 20 = y20
        generalize f9 21 = y21
        generalize f9 22 = y22
        generalize f9 23 = y23
        generalize f9 24 = y24
        generalize f9 25 = y25
        clear d26
        simp only [List.setIfInBounds_toArray, List.set_cons_succ, List.set_cons_zero]
        replace B := Kept.mk (B.out.trans (hb9.mono hsw))
        clear hb9
        cases z with
        | true =>
          have HQ := Kept.mk (of_decide_eq_true HZ.out)
          go_wp2
          go_roundw
          case rel =>
            refine ⟨k + 1, by omega, by go_num, B, ⟨fun j hj => ?_⟩⟩
            by_cases e : j = k
            · subst e; rw [HXY.out.1, HXY.out.2, HQ.out]
            · exact A.out j (by omega)
          case measure => simp [intOf]; omega
        | false =>
          have HE := Kept.mk (show decide (l = m) = false from decide_eq_false (fun e => by
            have := HXY.out.1; rw [e, HXY.out.2] at this; injection this with this
            exact (of_decide_eq_false HZ.out) this.symm))
          go_wp2
          go_ret
          exact ⟨by rw [HE.out]; rfl, B.out⟩
      · have hlt' : ¬ (k : Int) < (n : Int) := by omega
        have HE := Kept.mk (show decide (l = m) = true from decide_eq_true (List.ext_getElem? (fun j => by
          by_cases hj : j < k
          · exact A.out j hj
          · rw [List.getElem?_eq_none (by have := HN.out.1; omega), List.getElem?_eq_none (by have := HN.out.2; omega)])))
        go_wp2
        go_ret
        exact ⟨by rw [HE.out]; rfl, B.out⟩
  · have HE := Kept.mk (show decide (l = m) = false from decide_eq_false (fun e => hlen (by rw [e])))
    clear hv hu fl fm
    generalize l.length = n at *
    generalize m.length = n2 at *
    have hl1 : ((n : Int) == (n2 : Int)) = false := by simp; omega
    have hl2 : ((n : Int) != (n2 : Int)) = true := by simp; omega
    go_enter Try.func21, Try.ntmps21
    go_wp2
    go_ret
    exact ⟨by rw [HE.out]; rfl, Below.refl _ _⟩
end Go.Proofs.Ytmbnhlhanckkiaa
end
section
namespace Go.Proofs.Ytmbnhlhanckkiaa
open Go.RowKit
set_option linter.unusedVariables false
set_option linter.unusedSimpArgs false
attribute [local irreducible] setN

theorem stable_newAr (G : Ar) : Stable (fun v w => ∃ g, v = .pointer (some ⟨g, 0, none⟩) ∧ VarA w g G) := fun v w w' ⟨g, e, h⟩ hb => ⟨g, e, h.keep hb⟩
theorem isArT.low {N N' : Nat} {A : Ar} {v : Value} {w : World} (h : isArT N A v w) (hN : N' ≤ N) : isArT N' A v w := by
  obtain ⟨vs, vi, ps, e, h1, h2, h3, h4⟩ := h
  exact ⟨vs, vi, ps, e, own_low h1 hN, h2, own_low h3 hN, h4⟩
theorem merge_tup (B : Nat) (A : Ar) (L : List En) (G : Ar) (n o : Int) (v u : Value) (w : World) (hB : B ≤ w.heap.size) (hv : isAr A v w) (hu : isEns L u w) (hF : FitA A) (hLn : L.length ≤ 500) (hL : ∀ e ∈ L, FitE e) (hG : mergeF A L = G) (hn : (mergeN A L : Int) = n) (ho : (mergeO A L : Int) = o) : Calls Try.prog 20 #[v, u] w fun e w' => ∃ x, e = .returned x ∧ isTup3 (isArT B G) (.int .i64 n) (.int .i64 o) x w' ∧ Below w.heap.size w w' := by
  subst hG hn ho
  refine (amerge_new A L v u w hv hu hF hL hLn).mono ?_
  rintro e w' ⟨v', rfl, h1, hb⟩
  exact ⟨_, rfl, ⟨v', rfl, h1.low hB⟩, hb⟩
theorem all_pred (A : Ar) (l : List En) (v : Value) (w : World) (hv : isAr A v w) (hF : FitA A) (hl : allA A = l) : Calls Try.prog 22 #[v] w fun e w' => ∃ x, e = .returned x ∧ isEns l x w' ∧ Below w.heap.size w w' := ga_all A l v w hv hF hl
theorem refAll_self (l : List En) (v u : Value) (w : World) (hv : isEns l v w) (hu : isEns l u w) (hl : l.length ≤ 1000) (fl : ∀ e ∈ l, FitE e) : Calls Try.prog 21 #[v, u] w fun e w' => e = .returned (.bool true) ∧ Below w.heap.size w w' := by
  have h := refAll_any l l v u w hv hu hl hl fl fl
  rwa [show decide (l = l) = true by simp] at h
noncomputable def aordOps : Array Oper := regionOf Try.f4 15
set_option maxRecDepth 100000 in
set_option maxHeartbeats 4000000 in
theorem aord_region (Q : Exit → Act → World → Prop) (a0 : Act) (w0 : World) (hsz : a0.tmps.size = 100) (ga : Nat) (A G : Ar) (n o : Int) (sa ia vm vl : Value) (psm psl : RowE) (e3 : a0.tmps.getD 3 undef = .pointer (some ⟨ga, 0, none⟩)) (e12 : a0.tmps.getD 12 undef = vm) (e1 : a0.tmps.getD 1 undef = vl) (HA : CellsN w0 ga [.int .i64 A.cap, sa, ia]) (XA : isAr A (.agg #[.int .i64 A.cap, sa, ia]) w0) (fA : FitA A) (hsm : SrcE vm psm w0) (hrm : RowsOk psm w0) (hsl : SrcE vl psl w0) (hrl : RowsOk psl w0) (hlen : psm.length + psl.length ≤ 500) (fP : ∀ q ∈ psm ++ psl, FitE q.1) (hG : mergeF A ((psm ++ psl).map (·.1)) = G) (hN : (mergeN A ((psm ++ psl).map (·.1)) : Int) = n) (hO : (mergeO A ((psm ++ psl).map (·.1)) : Int) = o) (okG : OkA G)
    (hQ : ∀ (g : Nat → Value) (w : World), (fun v w => ∃ g, v = .pointer (some ⟨g, 0, none⟩) ∧ VarA w g G) (g 14) w → g 15 = .int .i64 n → g 16 = .int .i64 o → Below w0.heap.size w0 w → Q .normal { tmps := [66, 67, 68, 69, 70, 71, 72, 65, 73, 74, 75, 14, 15, 16].foldl (fun t s => t.setIfInBounds s (g s)) a0.tmps, defers := a0.defers } w) :
    (Code.region 15 aordOps true).wp Try.prog Q a0 w0 := by
  have hn : aordOps.size = 15 := by kernel_rfl
  refine wp_region_phases 3 (fun c => match c with | 0 => 3 | 1 => 5 | _ => 12) (fun c => match c with | 0 => [1, 2] | 1 => [1, 2, 3, 4] | _ => [0, 1, 2, 3, 4, 5, 6, 7, 8, 11]) (fun c => match c with | 0 => (fun j => match j with | 0 => isVal (.agg #[.int .i64 A.cap, sa, ia]) | 1 => outP w0.heap.size [] | 2 => isVal vm | 3 => noV | 4 => isVal vl | 5 => noV | 6 => noV | 7 => noV | 8 => noV | 9 => noV | 10 => noV | 11 => isNewS 25 ([.int .i64 0, .slice none 0 0, .slice none 0 0] : List Value) w0.heap.size | 12 => anyV | 13 => noV | 14 => noV | _ => anyV) | 1 => (fun j => match j with | 0 => isVal (.agg #[.int .i64 A.cap, sa, ia]) | 1 => anyV | 2 => isVal vm | 3 => outP w0.heap.size ([] ++ psm) | 4 => isVal vl | 5 => noV | 6 => noV | 7 => noV | 8 => noV | 9 => noV | 10 => noV | 11 => isNewS 25 ([.int .i64 0, .slice none 0 0, .slice none 0 0] : List Value) w0.heap.size | 12 => anyV | 13 => noV | 14 => noV | _ => anyV) | 2 => (fun j => match j with | 0 => isVal (.agg #[.int .i64 A.cap, sa, ia]) | 1 => anyV | 2 => isVal vm | 3 => anyV | 4 => isVal vl | 5 => outP w0.heap.size (([] ++ psm) ++ psl) | 6 => isTup3 (isArT w0.heap.size G) (.int .i64 n) (.int .i64 o) | 7 => isTup3 (isArT w0.heap.size G) (.int .i64 n) (.int .i64 o) | 8 => isArT w0.heap.size G | 9 => isVal (.int .i64 n) | 10 => isVal (.int .i64 o) | 11 => isNewS 25 ([.int .i64 0, .slice none 0 0, .slice none 0 0] : List Value) w0.heap.size | 12 => anyV | 13 => isVal (.int .i64 n) | 14 => isVal (.int .i64 o) | _ => anyV) | 3 => (fun j => match j with | 0 => isVal (.agg #[.int .i64 A.cap, sa, ia]) | 1 => anyV | 2 => isVal vm | 3 => anyV | 4 => isVal vl | 5 => anyV | 6 => isTup3 (anyV) (.int .i64 n) (.int .i64 o) | 7 => isTup3 (anyV) (.int .i64 n) (.int .i64 o) | 8 => anyV | 9 => isVal (.int .i64 n) | 10 => isVal (.int .i64 o) | 11 => (fun v w => ∃ g, v = .pointer (some ⟨g, 0, none⟩) ∧ VarA w g G) | 12 => anyV | 13 => isVal (.int .i64 n) | 14 => isVal (.int .i64 o) | _ => anyV) | _ => fun _ => anyV) mixed (by kernel_rfl) (by rw [hsz]; kernel_rfl) ?hst ?hs ?h1 ?he
  case hst =>
    intro c m
    match c, m with
    | 0, 0 => exact (stable_val _)
    | 0, 1 => exact (stable_out _ _)
    | 0, 2 => exact (stable_val _)
    | 0, 3 => exact stable_no
    | 0, 4 => exact (stable_val _)
    | 0, 5 => exact stable_no
    | 0, 6 => exact stable_no
    | 0, 7 => exact stable_no
    | 0, 8 => exact stable_no
    | 0, 9 => exact stable_no
    | 0, 10 => exact stable_no
    | 0, 11 => exact (stable_newS _ _ _)
    | 0, 12 => exact stable_any
    | 0, 13 => exact stable_no
    | 0, 14 => exact stable_no
    | 0, q + 15 => exact stable_any
    | 1, 0 => exact (stable_val _)
    | 1, 1 => exact stable_any
    | 1, 2 => exact (stable_val _)
    | 1, 3 => exact (stable_out _ _)
    | 1, 4 => exact (stable_val _)
    | 1, 5 => exact stable_no
    | 1, 6 => exact stable_no
    | 1, 7 => exact stable_no
    | 1, 8 => exact stable_no
    | 1, 9 => exact stable_no
    | 1, 10 => exact stable_no
    | 1, 11 => exact (stable_newS _ _ _)
    | 1, 12 => exact stable_any
    | 1, 13 => exact stable_no
    | 1, 14 => exact stable_no
    | 1, q + 15 => exact stable_any
    | 2, 0 => exact (stable_val _)
    | 2, 1 => exact stable_any
    | 2, 2 => exact (stable_val _)
    | 2, 3 => exact stable_any
    | 2, 4 => exact (stable_val _)
    | 2, 5 => exact (stable_out _ _)
    | 2, 6 => exact (stable_tup3 (stable_arT _ _) _ _)
    | 2, 7 => exact (stable_tup3 (stable_arT _ _) _ _)
    | 2, 8 => exact (stable_arT _ _)
    | 2, 9 => exact (stable_val _)
    | 2, 10 => exact (stable_val _)
    | 2, 11 => exact (stable_newS _ _ _)
    | 2, 12 => exact stable_any
    | 2, 13 => exact (stable_val _)
    | 2, 14 => exact (stable_val _)
    | 2, q + 15 => exact stable_any
    | 3, 0 => exact (stable_val _)
    | 3, 1 => exact stable_any
    | 3, 2 => exact (stable_val _)
    | 3, 3 => exact stable_any
    | 3, 4 => exact (stable_val _)
    | 3, 5 => exact stable_any
    | 3, 6 => exact (stable_tup3 stable_any _ _)
    | 3, 7 => exact (stable_tup3 stable_any _ _)
    | 3, 8 => exact stable_any
    | 3, 9 => exact (stable_val _)
    | 3, 10 => exact (stable_val _)
    | 3, 11 => exact (stable_newAr G)
    | 3, 12 => exact stable_any
    | 3, 13 => exact (stable_val _)
    | 3, 14 => exact (stable_val _)
    | 3, q + 15 => exact stable_any
    | q + 4, _ => exact stable_any
  case hs =>
    intro c hc
    match c, hc with
    | 0, _ =>
      refine phases_append (.tmp 67) (.tmp 68) 69 [] psm vm (by kernel_rfl) (knows_new (V := outP w0.heap.size []) 67 1 (by kernel_rfl) (by kernel_rfl) (by kernel_rfl)) (knows_new (V := isVal vm) 68 2 (by kernel_rfl) (by kernel_rfl) (by kernel_rfl)) hsm hrm (by simp; omega) ?_ rfl
      intro j h1 v w w' hk h
      match j, h1, hk, h with
      | 0, _, _, h => exact h
      | 1, _, _, _ => exact trivial
      | 2, _, _, h => exact h
      | 3, h1, _, _ => exact absurd rfl h1
      | 4, _, _, h => exact h
      | 5, _, _, h => exact (show False from h).elim
      | 6, _, _, h => exact (show False from h).elim
      | 7, _, _, h => exact (show False from h).elim
      | 8, _, _, h => exact (show False from h).elim
      | 9, _, _, h => exact (show False from h).elim
      | 10, _, _, h => exact (show False from h).elim
      | 11, _, hk, h => obtain ⟨g, e, hg, hz⟩ : isNewS 25 ([.int .i64 0, .slice none 0 0, .slice none 0 0] : List Value) w0.heap.size v w := h; exact ⟨g, e, hg, hk g _ _ (by decide) hz⟩
      | 12, _, _, _ => exact trivial
      | 13, _, _, h => exact (show False from h).elim
      | 14, _, _, h => exact (show False from h).elim
      | q + 15, _, _, _ => exact trivial
    | 1, _ =>
      refine phases_append (.tmp 69) (.tmp 70) 71 ([] ++ psm) psl vl (by kernel_rfl) (knows_new (V := outP w0.heap.size ([] ++ psm)) 69 3 (by kernel_rfl) (by kernel_rfl) (by kernel_rfl)) (knows_new (V := isVal vl) 70 4 (by kernel_rfl) (by kernel_rfl) (by kernel_rfl)) hsl hrl (by simp; omega) ?_ rfl
      intro j h1 v w w' hk h
      match j, h1, hk, h with
      | 0, _, _, h => exact h
      | 1, _, _, _ => exact trivial
      | 2, _, _, h => exact h
      | 3, _, _, _ => exact trivial
      | 4, _, _, h => exact h
      | 5, h1, _, _ => exact absurd rfl h1
      | 6, _, _, h => exact (show False from h).elim
      | 7, _, _, h => exact (show False from h).elim
      | 8, _, _, h => exact (show False from h).elim
      | 9, _, _, h => exact (show False from h).elim
      | 10, _, _, h => exact (show False from h).elim
      | 11, _, hk, h => obtain ⟨g, e, hg, hz⟩ : isNewS 25 ([.int .i64 0, .slice none 0 0, .slice none 0 0] : List Value) w0.heap.size v w := h; exact ⟨g, e, hg, hk g _ _ (by decide) hz⟩
      | 12, _, _, _ => exact trivial
      | 13, _, _, h => exact (show False from h).elim
      | 14, _, _, h => exact (show False from h).elim
      | q + 15, _, _, _ => exact trivial
    | 2, _ =>
      refine phases_store 25 14 73 ([.int .i64 0, .slice none 0 0, .slice none 0 0] : List Value) (isArT w0.heap.size G) 11 (by kernel_rfl) (knows_new (V := isNewS 25 ([.int .i64 0, .slice none 0 0, .slice none 0 0] : List Value) w0.heap.size) 14 11 (by kernel_rfl) (by kernel_rfl) (by kernel_rfl)) (knows_new (V := isArT w0.heap.size G) 73 8 (by kernel_rfl) (by kernel_rfl) (by kernel_rfl)) (fun v w h => isArT_list h) size_ar (by kernel_rfl) ?_ (fun g l w hg hc hk hl => ⟨g, rfl, ar_laid okG hc hk⟩)
      intro j h1 h2 v w w' h
      match j, h1, h2, h with
      | 0, _, _, h => exact h
      | 1, _, _, _ => exact trivial
      | 2, _, _, h => exact h
      | 3, _, _, _ => exact trivial
      | 4, _, _, h => exact h
      | 5, _, _, _ => exact trivial
      | 6, _, _, h => obtain ⟨x, e, _⟩ : (isTup3 (isArT w0.heap.size G) (.int .i64 n) (.int .i64 o)) v w := h; exact ⟨x, e, trivial⟩
      | 7, _, _, h => obtain ⟨x, e, _⟩ : (isTup3 (isArT w0.heap.size G) (.int .i64 n) (.int .i64 o)) v w := h; exact ⟨x, e, trivial⟩
      | 8, _, _, _ => exact trivial
      | 9, _, _, h => exact h
      | 10, _, _, h => exact h
      | 11, _, h2, _ => exact absurd rfl h2
      | 12, h1, _, _ => exact absurd rfl h1
      | 13, _, _, h => exact h
      | 14, _, _, h => exact h
      | q + 15, _, _, _ => exact trivial
  case h1 =>
    intro c hc w1 _ hb1 m hm hns hnu
    rw [hn] at hm
    match c, hc, m, hm, hns, hnu with
    | 0, _, 0, _, _, hnu => exact step_loadA 25 (.tmp 3) ga 0 [.int .i64 A.cap, sa, ia] (by kernel_rfl) (wanted_none (by kernel_rfl)) (knows_old 3 (.pointer (some ⟨ga, 0, none⟩)) (by kernel_rfl) e3) size_ar agg_ar ⟨(HA.keep hb1 HA.1).1, fun j x hx => by rw [Nat.zero_add]; exact (HA.keep hb1 HA.1).2 j x hx⟩
    | 0, _, 1, _, _, hnu => exact step_row0 w0.heap.size (by kernel_rfl) (wanted_none (by kernel_rfl)) hb1.size
    | 0, _, 2, _, _, hnu => exact step_movP (.tmp 12) (stable_val _) (by kernel_rfl) (wanted_none (by kernel_rfl)) (knows_old 12 vm (by kernel_rfl) e12)
    | 0, _, 3, _, hns, _ => exact absurd rfl (hns 0 (by decide))
    | 0, _, 4, _, _, hnu => exact step_movP (.tmp 1) (stable_val _) (by kernel_rfl) (wanted_none (by kernel_rfl)) (knows_old 1 vl (by kernel_rfl) e1)
    | 0, _, 5, _, hns, _ => exact absurd rfl (hns 1 (by decide))
    | 0, _, 6, _, _, hnu => exact step_absurd (.tmp 71) stable_no (knows_new (V := noV) 71 5 (by kernel_rfl) (by kernel_rfl) (by kernel_rfl))
    | 0, _, 7, _, _, hnu => exact step_absurd (.tmp 72) stable_no (knows_new (V := noV) 72 6 (by kernel_rfl) (by kernel_rfl) (by kernel_rfl))
    | 0, _, 8, _, _, hnu => exact step_absurd (.tmp 65) stable_no (knows_new (V := noV) 65 7 (by kernel_rfl) (by kernel_rfl) (by kernel_rfl))
    | 0, _, 9, _, _, hnu => exact step_absurd (.tmp 65) stable_no (knows_new (V := noV) 65 7 (by kernel_rfl) (by kernel_rfl) (by kernel_rfl))
    | 0, _, 10, _, _, hnu => exact step_absurd (.tmp 65) stable_no (knows_new (V := noV) 65 7 (by kernel_rfl) (by kernel_rfl) (by kernel_rfl))
    | 0, _, 11, _, _, hnu => exact step_newS 25 ([.int .i64 0, .slice none 0 0, .slice none 0 0] : List Value) w0.heap.size hb1.size (by kernel_rfl) (wanted_none (by kernel_rfl)) alloc_ar
    | 0, _, 12, _, hns, _ => exact absurd rfl (hns 2 (by decide))
    | 0, _, 13, _, _, hnu => exact step_absurd (.tmp 74) stable_no (knows_new (V := noV) 74 9 (by kernel_rfl) (by kernel_rfl) (by kernel_rfl))
    | 0, _, 14, _, _, hnu => exact step_absurd (.tmp 75) stable_no (knows_new (V := noV) 75 10 (by kernel_rfl) (by kernel_rfl) (by kernel_rfl))
    | 0, _, q + 15, hm, _, _ => omega
    | 1, _, 0, _, _, hnu => exact step_loadA 25 (.tmp 3) ga 0 [.int .i64 A.cap, sa, ia] (by kernel_rfl) (wanted_none (by kernel_rfl)) (knows_old 3 (.pointer (some ⟨ga, 0, none⟩)) (by kernel_rfl) e3) size_ar agg_ar ⟨(HA.keep hb1 HA.1).1, fun j x hx => by rw [Nat.zero_add]; exact (HA.keep hb1 HA.1).2 j x hx⟩
    | 1, _, 1, _, _, hnu => exact absurd (by decide) (hnu 0 (by decide))
    | 1, _, 2, _, _, hnu => exact absurd (by decide) (hnu 0 (by decide))
    | 1, _, 3, _, hns, _ => exact absurd rfl (hns 0 (by decide))
    | 1, _, 4, _, _, hnu => exact step_movP (.tmp 1) (stable_val _) (by kernel_rfl) (wanted_none (by kernel_rfl)) (knows_old 1 vl (by kernel_rfl) e1)
    | 1, _, 5, _, hns, _ => exact absurd rfl (hns 1 (by decide))
    | 1, _, 6, _, _, hnu => exact step_absurd (.tmp 71) stable_no (knows_new (V := noV) 71 5 (by kernel_rfl) (by kernel_rfl) (by kernel_rfl))
    | 1, _, 7, _, _, hnu => exact step_absurd (.tmp 72) stable_no (knows_new (V := noV) 72 6 (by kernel_rfl) (by kernel_rfl) (by kernel_rfl))
    | 1, _, 8, _, _, hnu => exact step_absurd (.tmp 65) stable_no (knows_new (V := noV) 65 7 (by kernel_rfl) (by kernel_rfl) (by kernel_rfl))
    | 1, _, 9, _, _, hnu => exact step_absurd (.tmp 65) stable_no (knows_new (V := noV) 65 7 (by kernel_rfl) (by kernel_rfl) (by kernel_rfl))
    | 1, _, 10, _, _, hnu => exact step_absurd (.tmp 65) stable_no (knows_new (V := noV) 65 7 (by kernel_rfl) (by kernel_rfl) (by kernel_rfl))
    | 1, _, 11, _, _, hnu => exact step_newS 25 ([.int .i64 0, .slice none 0 0, .slice none 0 0] : List Value) w0.heap.size hb1.size (by kernel_rfl) (wanted_none (by kernel_rfl)) alloc_ar
    | 1, _, 12, _, hns, _ => exact absurd rfl (hns 2 (by decide))
    | 1, _, 13, _, _, hnu => exact step_absurd (.tmp 74) stable_no (knows_new (V := noV) 74 9 (by kernel_rfl) (by kernel_rfl) (by kernel_rfl))
    | 1, _, 14, _, _, hnu => exact step_absurd (.tmp 75) stable_no (knows_new (V := noV) 75 10 (by kernel_rfl) (by kernel_rfl) (by kernel_rfl))
    | 1, _, q + 15, hm, _, _ => omega
    | 2, _, 0, _, _, hnu => exact step_loadA 25 (.tmp 3) ga 0 [.int .i64 A.cap, sa, ia] (by kernel_rfl) (wanted_none (by kernel_rfl)) (knows_old 3 (.pointer (some ⟨ga, 0, none⟩)) (by kernel_rfl) e3) size_ar agg_ar ⟨(HA.keep hb1 HA.1).1, fun j x hx => by rw [Nat.zero_add]; exact (HA.keep hb1 HA.1).2 j x hx⟩
    | 2, _, 1, _, _, hnu => exact absurd (by decide) (hnu 0 (by decide))
    | 2, _, 2, _, _, hnu => exact absurd (by decide) (hnu 0 (by decide))
    | 2, _, 3, _, hns, _ => exact absurd rfl (hns 0 (by decide))
    | 2, _, 4, _, _, hnu => exact absurd (by decide) (hnu 1 (by decide))
    | 2, _, 5, _, hns, _ => exact absurd rfl (hns 1 (by decide))
    | 2, _, 6, _, _, hnu => exact step_callP 20 #[.tmp 66, .tmp 71] #[25, 22] (by kernel_rfl) (wanted_none (by kernel_rfl)) (stable_tup3 (stable_arT _ _) _ _) (enters_of Try.func20 (by kernel_rfl) rfl) (fun vs w => ∃ u v, vs = #[u, v] ∧ isVal (.agg #[.int .i64 A.cap, sa, ia]) u w ∧ outP w0.heap.size (([] ++ psm) ++ psl) v w) (pre2 (knows_new (V := isVal (.agg #[.int .i64 A.cap, sa, ia])) 66 0 (by kernel_rfl) (by kernel_rfl) (by kernel_rfl)) (knows_new (V := outP w0.heap.size (([] ++ psm) ++ psl)) 71 5 (by kernel_rfl) (by kernel_rfl) (by kernel_rfl))) (fun vs w' hb hp => by obtain ⟨u, v, rfl, hu, hv⟩ := hp; obtain rfl : u = _ := hu; have hbw := hb1.trans (hb.mono hb1.size); exact merge_tup w0.heap.size A _ G n o _ _ w' hbw.size (stable_ar _ _ _ _ XA hbw) (by have h := OutV.ens hv; simpa using h) fA (by rw [List.length_map, List.length_append]; omega) (fun e he => by obtain ⟨q, hq, rfl⟩ := List.mem_map.1 he; exact fP q hq) hG hN hO)
    | 2, _, 7, _, _, hnu => exact step_movP (.tmp 72) (stable_tup3 (stable_arT _ _) _ _) (by kernel_rfl) (wanted_none (by kernel_rfl)) (knows_new (V := isTup3 (isArT w0.heap.size G) (.int .i64 n) (.int .i64 o)) 72 6 (by kernel_rfl) (by kernel_rfl) (by kernel_rfl))
    | 2, _, 8, _, _, hnu => exact step_ext30 _ _ (.tmp 65) (stable_arT _ _) (by kernel_rfl) (wanted_none (by kernel_rfl)) (knows_new (V := isTup3 (isArT w0.heap.size G) (.int .i64 n) (.int .i64 o)) 65 7 (by kernel_rfl) (by kernel_rfl) (by kernel_rfl))
    | 2, _, 9, _, _, hnu => exact step_ext31 (.int .i64 n) (.int .i64 o) (.tmp 65) (by kernel_rfl) (wanted_none (by kernel_rfl)) (knows_new (V := isTup3 (isArT w0.heap.size G) (.int .i64 n) (.int .i64 o)) 65 7 (by kernel_rfl) (by kernel_rfl) (by kernel_rfl))
    | 2, _, 10, _, _, hnu => exact step_ext32 (.int .i64 n) (.int .i64 o) (.tmp 65) (by kernel_rfl) (wanted_none (by kernel_rfl)) (knows_new (V := isTup3 (isArT w0.heap.size G) (.int .i64 n) (.int .i64 o)) 65 7 (by kernel_rfl) (by kernel_rfl) (by kernel_rfl))
    | 2, _, 11, _, _, hnu => exact step_newS 25 ([.int .i64 0, .slice none 0 0, .slice none 0 0] : List Value) w0.heap.size hb1.size (by kernel_rfl) (wanted_none (by kernel_rfl)) alloc_ar
    | 2, _, 12, _, hns, _ => exact absurd rfl (hns 2 (by decide))
    | 2, _, 13, _, _, hnu => exact step_asgP (.tmp 74) (stable_val _) (by kernel_rfl) (wanted_none (by kernel_rfl)) (knows_new (V := isVal (.int .i64 n)) 74 9 (by kernel_rfl) (by kernel_rfl) (by kernel_rfl))
    | 2, _, 14, _, _, hnu => exact step_asgP (.tmp 75) (stable_val _) (by kernel_rfl) (wanted_none (by kernel_rfl)) (knows_new (V := isVal (.int .i64 o)) 75 10 (by kernel_rfl) (by kernel_rfl) (by kernel_rfl))
    | 2, _, q + 15, hm, _, _ => omega
    | 3, _, 0, _, _, hnu => exact absurd (by decide) (hnu 2 (by decide))
    | 3, _, 1, _, _, hnu => exact absurd (by decide) (hnu 0 (by decide))
    | 3, _, 2, _, _, hnu => exact absurd (by decide) (hnu 0 (by decide))
    | 3, _, 3, _, hns, _ => exact absurd rfl (hns 0 (by decide))
    | 3, _, 4, _, _, hnu => exact absurd (by decide) (hnu 1 (by decide))
    | 3, _, 5, _, hns, _ => exact absurd rfl (hns 1 (by decide))
    | 3, _, 6, _, _, hnu => exact absurd (by decide) (hnu 2 (by decide))
    | 3, _, 7, _, _, hnu => exact absurd (by decide) (hnu 2 (by decide))
    | 3, _, 8, _, _, hnu => exact absurd (by decide) (hnu 2 (by decide))
    | 3, _, 9, _, _, hnu => exact step_ext31 (.int .i64 n) (.int .i64 o) (.tmp 65) (by kernel_rfl) (wanted_none (by kernel_rfl)) (knows_new (V := isTup3 (anyV) (.int .i64 n) (.int .i64 o)) 65 7 (by kernel_rfl) (by kernel_rfl) (by kernel_rfl))
    | 3, _, 10, _, _, hnu => exact step_ext32 (.int .i64 n) (.int .i64 o) (.tmp 65) (by kernel_rfl) (wanted_none (by kernel_rfl)) (knows_new (V := isTup3 (anyV) (.int .i64 n) (.int .i64 o)) 65 7 (by kernel_rfl) (by kernel_rfl) (by kernel_rfl))
    | 3, _, 11, _, _, hnu => exact absurd (by decide) (hnu 2 (by decide))
    | 3, _, 12, _, hns, _ => exact absurd rfl (hns 2 (by decide))
    | 3, _, 13, _, _, hnu => exact step_asgP (.tmp 74) (stable_val _) (by kernel_rfl) (wanted_none (by kernel_rfl)) (knows_new (V := isVal (.int .i64 n)) 74 9 (by kernel_rfl) (by kernel_rfl) (by kernel_rfl))
    | 3, _, 14, _, _, hnu => exact step_asgP (.tmp 75) (stable_val _) (by kernel_rfl) (wanted_none (by kernel_rfl)) (knows_new (V := isVal (.int .i64 o)) 75 10 (by kernel_rfl) (by kernel_rfl) (by kernel_rfl))
    | 3, _, q + 15, hm, _, _ => omega
    | q + 4, hc, _, _, _, _ => omega
  case he =>
    intro a w hkp hb hd
    rw [kept_of hkp [some 66, some 67, some 68, some 69, some 70, some 71, some 72, some 65, some 73, some 74, some 75, some 14, none, some 15, some 16] [66, 67, 68, 69, 70, 71, 72, 65, 73, 74, 75, 14, 15, 16] (by kernel_rfl) (by decide)]
    have d14 := fdone_of (hd 11 (by rw [hn]; decide)) (t := 14) (V := (fun v w => ∃ g, v = .pointer (some ⟨g, 0, none⟩) ∧ VarA w g G)) (by kernel_rfl) (by kernel_rfl)
    have d15 := fdone_of (hd 13 (by rw [hn]; decide)) (t := 15) (V := isVal (.int .i64 n)) (by kernel_rfl) (by kernel_rfl)
    have d16 := fdone_of (hd 14 (by rw [hn]; decide)) (t := 16) (V := isVal (.int .i64 o)) (by kernel_rfl) (by kernel_rfl)
    exact hQ (fun s => a.tmps.getD s undef) w d14 d15 d16 hb
noncomputable def aor2Ops : Array Oper := regionOf Try.f4 18
set_option maxRecDepth 100000 in
set_option maxHeartbeats 2000000 in
theorem aor2_region (Q : Exit → Act → World → Prop) (a0 : Act) (w0 : World) (hsz : a0.tmps.size = 100) (gb gc : Nat) (C D : Ar) (L : List En) (sb ib sc ic : Value) (e7 : a0.tmps.getD 7 undef = .bool true) (e16 : a0.tmps.getD 16 undef = .int .i64 0) (e9 : a0.tmps.getD 9 undef = .pointer (some ⟨gb, 0, none⟩)) (e14 : a0.tmps.getD 14 undef = .pointer (some ⟨gc, 0, none⟩)) (HB : CellsN w0 gb [.int .i64 C.cap, sb, ib]) (HC : CellsN w0 gc [.int .i64 D.cap, sc, ic]) (XB : isAr C (.agg #[.int .i64 C.cap, sb, ib]) w0) (XC : isAr D (.agg #[.int .i64 D.cap, sc, ic]) w0) (fC : FitA C) (fD : FitA D) (hal : alikeA C D = true) (hL : allA C = L) (hL2 : allA D = L) (hLn : L.length ≤ 1000) (fL : ∀ e ∈ L, FitE e)
    (hQ : ∀ (g : Nat → Value) (w : World), g 6 = .bool true → Below w0.heap.size w0 w → Q .normal { tmps := [83, 84, 85, 86, 87, 88, 89, 90, 91, 92, 93, 94, 95, 96, 97, 98, 99, 6].foldl (fun t s => t.setIfInBounds s (g s)) a0.tmps, defers := a0.defers } w) :
    (Code.region 18 aor2Ops true).wp Try.prog Q a0 w0 := by
  refine wp_region_flow mixed (by rw [hsz]; kernel_rfl) ?_
  rw [show aor2Ops.size = 18 by kernel_rfl]
  refine ⟨isVal (.bool true), step_move (.tmp 7) (by kernel_rfl) (wanted_none (by kernel_rfl)) (stable_val _) (knows_old 7 (.bool true) (by kernel_rfl) e7), ?_⟩
  refine ⟨isVal (.bool true), step_move (.tmp 83) (by kernel_rfl) (wanted_none (by kernel_rfl)) (stable_val _) (knows_new (V := isVal (.bool true)) 83 0 (by kernel_rfl) (by kernel_rfl) (by kernel_rfl)), ?_⟩
  refine ⟨isVal (.int .i64 0), step_move (.tmp 16) (by kernel_rfl) (wanted_some 1 84 true (by kernel_rfl) (by kernel_rfl) (by kernel_rfl) (by kernel_rfl)) (stable_val _) (knows_old 16 (.int .i64 0) (by kernel_rfl) e16), ?_⟩
  refine ⟨isVal (.bool true), step_bin .eql 3 3 (.tmp 85) (.const (.int .i64 0)) (.int .i64 0) (.int .i64 0) (.bool true) (by kernel_rfl) (wanted_some 1 84 true (by kernel_rfl) (by kernel_rfl) (by kernel_rfl) (by kernel_rfl)) (knows_new (V := isVal (.int .i64 0)) 85 2 (by kernel_rfl) (by kernel_rfl) (by kernel_rfl)) (knows_const _) (fun _ => rfl) (eql_int _ _ _ _ _ (by decide)), ?_⟩
  refine ⟨isVal (.bool true), step_pick (.tmp 84) (.tmp 86) (.const (.bool false)) true (by kernel_rfl) (wanted_none (by kernel_rfl)) (stable_val _) (knows_new (V := isVal (.bool true)) 84 1 (by kernel_rfl) (by kernel_rfl) (by kernel_rfl)) (knows_new (V := isVal (.bool true)) 86 3 (by kernel_rfl) (by kernel_rfl) (by kernel_rfl)), ?_⟩
  refine ⟨isVal (.bool true), step_move (.tmp 87) (by kernel_rfl) (wanted_none (by kernel_rfl)) (stable_val _) (knows_new (V := isVal (.bool true)) 87 4 (by kernel_rfl) (by kernel_rfl) (by kernel_rfl)), ?_⟩
  refine ⟨isVal (.agg #[.int .i64 C.cap, sb, ib]), step_loadA 25 (.tmp 9) (gb) (0) [.int .i64 C.cap, sb, ib] (by kernel_rfl) (wanted_some 5 88 true (by kernel_rfl) (by kernel_rfl) (by kernel_rfl) (by kernel_rfl)) (knows_old 9 (.pointer (some ⟨gb, 0, none⟩)) (by kernel_rfl) e9) size_ar agg_ar (⟨HB.1, fun j x hx => by rw [Nat.zero_add]; exact HB.2 j x hx⟩), ?_⟩
  refine ⟨isVal (.agg #[.int .i64 D.cap, sc, ic]), step_loadA 25 (.tmp 14) (gc) (0) [.int .i64 D.cap, sc, ic] (by kernel_rfl) (wanted_some 5 88 true (by kernel_rfl) (by kernel_rfl) (by kernel_rfl) (by kernel_rfl)) (knows_old 14 (.pointer (some ⟨gc, 0, none⟩)) (by kernel_rfl) e14) size_ar agg_ar (⟨HC.1, fun j x hx => by rw [Nat.zero_add]; exact HC.2 j x hx⟩), ?_⟩
  refine ⟨isVal (.bool true), step_call 18 #[.tmp 89, .tmp 90] #[25, 25] #[.agg #[.int .i64 C.cap, sb, ib], .agg #[.int .i64 D.cap, sc, ic]] (by kernel_rfl) (wanted_some 5 88 true (by kernel_rfl) (by kernel_rfl) (by kernel_rfl) (by kernel_rfl)) (stable_val _) (args2 (.tmp 89) (.tmp 90) (.agg #[.int .i64 C.cap, sb, ib]) (.agg #[.int .i64 D.cap, sc, ic]) (knows_new (V := isVal (.agg #[.int .i64 C.cap, sb, ib])) 89 6 (by kernel_rfl) (by kernel_rfl) (by kernel_rfl)) (knows_new (V := isVal (.agg #[.int .i64 D.cap, sc, ic])) 90 7 (by kernel_rfl) (by kernel_rfl) (by kernel_rfl))) (enters_of Try.func18 (by kernel_rfl) rfl) (by intro w' hb; exact call_val (w_alike C D true _ _ w' (stable_ar _ _ _ _ XB hb) (stable_ar _ _ _ _ XC hb) fC fD hal)), ?_⟩
  refine ⟨isVal (.bool true), step_pick (.tmp 88) (.tmp 91) (.const (.bool false)) true (by kernel_rfl) (wanted_none (by kernel_rfl)) (stable_val _) (knows_new (V := isVal (.bool true)) 88 5 (by kernel_rfl) (by kernel_rfl) (by kernel_rfl)) (knows_new (V := isVal (.bool true)) 91 8 (by kernel_rfl) (by kernel_rfl) (by kernel_rfl)), ?_⟩
  refine ⟨isVal (.bool true), step_move (.tmp 92) (by kernel_rfl) (wanted_none (by kernel_rfl)) (stable_val _) (knows_new (V := isVal (.bool true)) 92 9 (by kernel_rfl) (by kernel_rfl) (by kernel_rfl)), ?_⟩
  refine ⟨isVal (.agg #[.int .i64 C.cap, sb, ib]), step_loadA 25 (.tmp 9) (gb) (0) [.int .i64 C.cap, sb, ib] (by kernel_rfl) (wanted_some 10 93 true (by kernel_rfl) (by kernel_rfl) (by kernel_rfl) (by kernel_rfl)) (knows_old 9 (.pointer (some ⟨gb, 0, none⟩)) (by kernel_rfl) e9) size_ar agg_ar (⟨HB.1, fun j x hx => by rw [Nat.zero_add]; exact HB.2 j x hx⟩), ?_⟩
  refine ⟨(isEns L), step_call 22 #[.tmp 94] #[25] #[.agg #[.int .i64 C.cap, sb, ib]] (by kernel_rfl) (wanted_some 10 93 true (by kernel_rfl) (by kernel_rfl) (by kernel_rfl) (by kernel_rfl)) (stable_ens _) (args1 (.tmp 94) (.agg #[.int .i64 C.cap, sb, ib]) (knows_new (V := isVal (.agg #[.int .i64 C.cap, sb, ib])) 94 11 (by kernel_rfl) (by kernel_rfl) (by kernel_rfl))) (enters_of Try.func22 (by kernel_rfl) rfl) (by intro w' hb; exact all_pred C L _ w' (stable_ar _ _ _ _ XB hb) fC hL), ?_⟩
  refine ⟨isVal (.agg #[.int .i64 D.cap, sc, ic]), step_loadA 25 (.tmp 14) (gc) (0) [.int .i64 D.cap, sc, ic] (by kernel_rfl) (wanted_some 10 93 true (by kernel_rfl) (by kernel_rfl) (by kernel_rfl) (by kernel_rfl)) (knows_old 14 (.pointer (some ⟨gc, 0, none⟩)) (by kernel_rfl) e14) size_ar agg_ar (⟨HC.1, fun j x hx => by rw [Nat.zero_add]; exact HC.2 j x hx⟩), ?_⟩
  refine ⟨(isEns L), step_call 22 #[.tmp 96] #[25] #[.agg #[.int .i64 D.cap, sc, ic]] (by kernel_rfl) (wanted_some 10 93 true (by kernel_rfl) (by kernel_rfl) (by kernel_rfl) (by kernel_rfl)) (stable_ens _) (args1 (.tmp 96) (.agg #[.int .i64 D.cap, sc, ic]) (knows_new (V := isVal (.agg #[.int .i64 D.cap, sc, ic])) 96 13 (by kernel_rfl) (by kernel_rfl) (by kernel_rfl))) (enters_of Try.func22 (by kernel_rfl) rfl) (by intro w' hb; exact all_pred D L _ w' (stable_ar _ _ _ _ XC hb) fD hL2), ?_⟩
  refine ⟨isVal (.bool true), step_callP 21 #[.tmp 95, .tmp 97] #[22, 22] (by kernel_rfl) (wanted_some 10 93 true (by kernel_rfl) (by kernel_rfl) (by kernel_rfl) (by kernel_rfl)) (stable_val _) (enters_of Try.func21 (by kernel_rfl) rfl) (fun vs w => ∃ u v, vs = #[u, v] ∧ isEns L u w ∧ isEns L v w) (pre2 (knows_new (V := (isEns L)) 95 12 (by kernel_rfl) (by kernel_rfl) (by kernel_rfl)) (knows_new (V := (isEns L)) 97 14 (by kernel_rfl) (by kernel_rfl) (by kernel_rfl))) (fun vs w' hb hp => by obtain ⟨u, v, rfl, h1, h2⟩ := hp; exact call_val (refAll_self L _ _ w' h1 h2 hLn fL)), ?_⟩
  refine ⟨isVal (.bool true), step_pick (.tmp 93) (.tmp 98) (.const (.bool false)) true (by kernel_rfl) (wanted_none (by kernel_rfl)) (stable_val _) (knows_new (V := isVal (.bool true)) 93 10 (by kernel_rfl) (by kernel_rfl) (by kernel_rfl)) (knows_new (V := isVal (.bool true)) 98 15 (by kernel_rfl) (by kernel_rfl) (by kernel_rfl)), ?_⟩
  refine ⟨isVal (.bool true), step_assign (.tmp 99) (by kernel_rfl) (wanted_none (by kernel_rfl)) (stable_val _) (knows_new (V := isVal (.bool true)) 99 16 (by kernel_rfl) (by kernel_rfl) (by kernel_rfl)), ?_⟩
  intro a w hkp hb hd
  rw [kept_of hkp [some 83, some 84, some 85, some 86, some 87, some 88, some 89, some 90, some 91, some 92, some 93, some 94, some 95, some 96, some 97, some 98, some 99, some 6] [83, 84, 85, 86, 87, 88, 89, 90, 91, 92, 93, 94, 95, 96, 97, 98, 99, 6] (by kernel_rfl) (by decide)]
  have d6 := fdone_of (hd 17 (by rw [show aor2Ops.size = 18 by kernel_rfl]; decide)) (t := 6) (V := isVal (.bool true)) (by kernel_rfl) (by kernel_rfl)
  exact hQ (fun s => a.tmps.getD s undef) w d6 hb
end Go.Proofs.Ytmbnhlhanckkiaa
end
section
namespace Go.Proofs.Ytmbnhlhanckkiaa
open Go.RowKit Go.Shelf
set_option linter.unusedVariables false
set_option linter.unusedSimpArgs false
attribute [local irreducible] setN
attribute [local go_sem] Oper.semAt_some

set_option maxRecDepth 100000 in
set_option maxHeartbeats 2000000 in
theorem chunk_new (A : Ar) (at_ n : Int) (v : Value) (w : World) (hv : isAr A v w) (hF : FitA A) : Calls Try.prog 24 #[v, .int .i64 at_, .int .i64 n] w fun e W' => ∃ v', e = .returned v' ∧ isEnsN w.heap.size (chunkA A at_ n) v' W' ∧ Below w.heap.size w W' := by
  obtain ⟨vs, vi, rfl, hs, hi⟩ := hv
  by_cases hneg : at_ < 0
  · have e0 : chunkA A at_ n = [] := by unfold chunkA; rw [if_pos hneg]
    have HB := Kept.mk (Blk.new (w.alloc (.cells #[.int .i64 A.cap, vs, vi] 25)) 3 [.int .i64 at_] (w.heap.size + 1) (by simp))
    have HB2 := Kept.mk (HB.out.alloc (.cells #[.int .i64 n] 3))
    have ka := HB2.out.cells.2 0 _ rfl
    have hB0 := Kept.mk (show Below w.heap.size w (((w.alloc (.cells #[.int .i64 A.cap, vs, vi] 25)).alloc (.cells #[.int .i64 at_] 3)).alloc (.cells #[.int .i64 n] 3)) from (((Below.refl _ w).alloc (Nat.le_refl _) _).alloc (by simp) _).alloc (by simp; omega) _)
    clear HB HB2
    rw [e0]
    go_enter Try.func24, Try.ntmps24
    go_wp2
    go_ret
    first
    | exact ⟨_, rfl, ensN_nil _ _, hB0.out⟩
    | exact ⟨ensN_nil _ _, hB0.out⟩
  have hat : ¬ at_ < 0 := hneg
  refine (callsIn_wide (n := 5)).1 ?_
  refine callsIn_of_wp_marks Try.func24 rfl trivial ?_ rfl
  simp only [Try.ntmps24, List.size_toArray, List.length_cons, List.length_nil, Nat.reduceAdd, Nat.reduceSub, Array.replicate_succ, Array.replicate_zero, List.push_toArray, List.append_toArray, List.nil_append, List.cons_append]
  gi_wp2_with (refine ⟨trivial, (placec_call _ A vs vi _).mono ?_⟩; rintro e w' ⟨rfl, rfl⟩)
  have f1 := hF.slots
  have hB0 : Below w.heap.size w (((((w.alloc (.cells #[.int .i64 A.cap, vs, vi] 25)).alloc (.cells #[.int .i64 at_] 3)).alloc (.cells #[.int .i64 n] 3)).alloc (.cells #[.slice none 0 0] 22)).alloc (.cells #[.int .i64 A.cap, vs, vi] 25)) := (((((Below.refl _ w).alloc (Nat.le_refl _) _).alloc (by simp) _).alloc (by simp; omega) _).alloc (by simp; omega) _).alloc (by simp; omega) _
  have hIt : ItA A vs vi w w.heap.size (w.heap.size + 1 + 1 + 1 + 1) (((((w.alloc (.cells #[.int .i64 A.cap, vs, vi] 25)).alloc (.cells #[.int .i64 at_] 3)).alloc (.cells #[.int .i64 n] 3)).alloc (.cells #[.slice none 0 0] 22)).alloc (.cells #[.int .i64 A.cap, vs, vi] 25)) := ⟨by simp; omega, by simp, fun b hb => hB0.block b hb, by
    have := heap_alloc_new ((((w.alloc (.cells #[.int .i64 A.cap, vs, vi] 25)).alloc (.cells #[.int .i64 at_] 3)).alloc (.cells #[.int .i64 n] 3)).alloc (.cells #[.slice none 0 0] 22)) (.cells #[.int .i64 A.cap, vs, vi] 25)
    simpa using this⟩
  have hst : Blk (((((w.alloc (.cells #[.int .i64 A.cap, vs, vi] 25)).alloc (.cells #[.int .i64 at_] 3)).alloc (.cells #[.int .i64 n] 3)).alloc (.cells #[.slice none 0 0] 22)).alloc (.cells #[.int .i64 A.cap, vs, vi] 25)) (w.heap.size + 1 + 1 + 1) [.slice none 0 0] := (Blk.new (((w.alloc (.cells #[.int .i64 A.cap, vs, vi] 25)).alloc (.cells #[.int .i64 at_] 3)).alloc (.cells #[.int .i64 n] 3)) 22 [.slice none 0 0] (w.heap.size + 1 + 1 + 1) (by simp)).alloc _
  have hba : Blk (((((w.alloc (.cells #[.int .i64 A.cap, vs, vi] 25)).alloc (.cells #[.int .i64 at_] 3)).alloc (.cells #[.int .i64 n] 3)).alloc (.cells #[.slice none 0 0] 22)).alloc (.cells #[.int .i64 A.cap, vs, vi] 25)) (w.heap.size + 1) [.int .i64 at_] := (((Blk.new (w.alloc (.cells #[.int .i64 A.cap, vs, vi] 25)) 3 [.int .i64 at_] (w.heap.size + 1) (by simp)).alloc _).alloc _).alloc _
  have hbn : Blk (((((w.alloc (.cells #[.int .i64 A.cap, vs, vi] 25)).alloc (.cells #[.int .i64 at_] 3)).alloc (.cells #[.int .i64 n] 3)).alloc (.cells #[.slice none 0 0] 22)).alloc (.cells #[.int .i64 A.cap, vs, vi] 25)) (w.heap.size + 1 + 1) [.int .i64 n] := ((Blk.new ((w.alloc (.cells #[.int .i64 A.cap, vs, vi] 25)).alloc (.cells #[.int .i64 at_] 3)) 3 [.int .i64 n] (w.heap.size + 1 + 1) (by simp)).alloc _).alloc _
  have hI0 : ICk A at_ n w [] (((((w.alloc (.cells #[.int .i64 A.cap, vs, vi] 25)).alloc (.cells #[.int .i64 at_] 3)).alloc (.cells #[.int .i64 n] 3)).alloc (.cells #[.slice none 0 0] 22)).alloc (.cells #[.int .i64 A.cap, vs, vi] 25)) := ⟨.slice none 0 0, [], ⟨hst, World.ownsRow_nil _ _ _ _, (fun q hq => by cases hq), (fun q hq => by cases hq), (fun q hq => by cases hq)⟩, rfl, hB0, by simp, hba, hbn⟩
  have hsz : (((((w.alloc (.cells #[.int .i64 A.cap, vs, vi] 25)).alloc (.cells #[.int .i64 at_] 3)).alloc (.cells #[.int .i64 n] 3)).alloc (.cells #[.slice none 0 0] 22)).alloc (.cells #[.int .i64 A.cap, vs, vi] 25)).heap.size = w.heap.size + 5 := by simp
  try simp only [World.size_alloc] at hIt
  try simp only [World.size_alloc]
  generalize (((((w.alloc (.cells #[.int .i64 A.cap, vs, vi] 25)).alloc (.cells #[.int .i64 at_] 3)).alloc (.cells #[.int .i64 n] 3)).alloc (.cells #[.slice none 0 0] 22)).alloc (.cells #[.int .i64 A.cap, vs, vi] 25)) = W0 at *
  refine wpIn_rangeFunc_ownH rfl (by decide) (gf := 50) (lb := #[.pointer (some ⟨w.heap.size + 1 + 1 + 1 + 1, 0, none⟩)]) rfl trivial (enters_of Try.func50 (by kernel_rfl) rfl)
    (placec_stops 4 (by omega) (w.heap.size + 1 + 1 + 1 + 1) A vs vi w W0 hs hi hF hIt) (kpA_t _ _) (kpA_put _ _ _ (by omega) (by omega)) (Below.refl _ _) (fun _ => rfl)
    (ICk A at_ n w) (fun _ _ _ => False) (ick_own A at_ n w _ (by omega)) (fun _ _ _ _ _ hs _ _ => hs) hI0 (AxCk A at_ n vs vi w)
    (fun x a' _ W W' row ⟨h, e, hb, hh, hu⟩ hg hr => ⟨h, e, blk_own (by simp) hb hg hr, hh, fun u hc => hu u (by rw [← hc]; exact (World.cell?_of_block (a := ⟨w.heap.size + 1 + 1 + 1, 0, none⟩) (iall_b1 (b := w.heap.size + 1 + 1 + 1) hg hr hb (by have := hb.lt; omega))).symm)⟩) ?assign ?body ?done ?stop
  case assign =>
    intro l pre x W K hIp hK
    have hp := x.2.2.1
    have hm := x.2.2.2
    obtain ⟨v0, ps0, hO0, _, hBw, hNw, _, _⟩ := id hIp
    obtain ⟨K1, K2, K3, K4, K5⟩ := enew W x.1.2.1 x.1.2.2.1 x.1.2.2.2 (stable_cells _ _ _ _ hp hBw) (stable_cells _ _ _ _ hm hBw) W.heap.size rfl
    have HH := Kept.mk ((Blk.new W 30 [.string ⟨#[]⟩, .int .i64 0, .int .i64 0, .int .i64 0, .bool false, .string ⟨#[]⟩, .slice none 0 0, .slice none 0 0, .int .u64 0] W.heap.size rfl).all_ (l := [.string ⟨x.1.2.1.key.toArray⟩, .int .i64 x.1.2.1.val.kind, .int .i64 x.1.2.1.val.time, .int .i64 x.1.2.1.val.node, .bool x.1.2.1.val.dead, .string ⟨x.1.2.1.val.text.toArray⟩, x.1.2.2.1, x.1.2.2.2, .int .u64 (x.1.2.1.val.flags.toNat : Int)]) rfl)
    have hun : ∀ u, (setN (W.alloc (.cells #[.string ⟨#[]⟩, .int .i64 0, .int .i64 0, .int .i64 0, .bool false, .string ⟨#[]⟩, .slice none 0 0, .slice none 0 0, .int .u64 0] 30)) W.heap.size 0 [.string ⟨x.1.2.1.key.toArray⟩, .int .i64 x.1.2.1.val.kind, .int .i64 x.1.2.1.val.time, .int .i64 x.1.2.1.val.node, .bool x.1.2.1.val.dead, .string ⟨x.1.2.1.val.text.toArray⟩, x.1.2.2.1, x.1.2.2.2, .int .u64 (x.1.2.1.val.flags.toNat : Int)]).cell? ⟨w.heap.size + 1 + 1 + 1, 0, none⟩ = some u → u.ownBlock ≠ some W.heap.size := fun u hc e => by
      have h1 := (K3.out.cell (p := ⟨w.heap.size + 1 + 1 + 1, 0, none⟩) (show w.heap.size + 1 + 1 + 1 < W.heap.size by omega)).symm.trans hc
      rw [hO0.st.cells.2 0 _ rfl] at h1
      injection h1 with h1
      subst h1
      have := (hO0.own.lt _ e).2
      omega
    have hK2 := hK _ _ (keeps_below K3.out) (kpA_below K3.out (by omega) (by omega)) (ick_keep hIp K3.out) ⟨W.heap.size, rfl, HH.out, hNw, hun⟩
    have HK := Kept.mk hK2
    clear hK2 hK hp hm
    simp only [encE]
    gi_wp2_with (have hz0 := K1; refine wpListIn_storeN (fun _ => trivial) 30 rfl (.tmp 9) (.tmp 15) rfl W.heap.size [.string ⟨x.1.2.1.key.toArray⟩, .int .i64 x.1.2.1.val.kind, .int .i64 x.1.2.1.val.time, .int .i64 x.1.2.1.val.node, .bool x.1.2.1.val.dead, .string ⟨x.1.2.1.val.text.toArray⟩, x.1.2.2.1, x.1.2.2.2, .int .u64 (x.1.2.1.val.flags.toNat : Int)] size_en rfl rfl K1.out rfl K2.out K5.out ?_; clear hz0 K1 K2 K5)
    exact HK.out
  case body =>
    rintro l pre x a' W hl _ hIp ⟨h, rfl, hbl, hh, hu⟩ hlt
    obtain ⟨v, ps, hO, hpm, hBw, hNw, hba1, hbn1⟩ := hIp
    obtain ⟨hx1, hx2, hx3⟩ := x.2
    have hps : ps.length ≤ 1000 := by
      have h1 := congrArg List.length hpm
      have h2 := ckL_le at_ n (pre.map (·.1))
      rw [List.length_map] at h1 h2
      omega
    have FE := hF.ents _ (List.mem_of_getElem? hx1)
    have hp := stable_cells _ _ _ _ hx2 hBw
    have hm := stable_cells _ _ _ _ hx3 hBw
    have op := cells_lt hx2
    have om := cells_lt hx3
    have hvs : ∀ s, v.ownBlock = some s → w.heap.size + 5 ≤ s ∧ s < W.heap.size := hO.own.lt
    have hob : ∀ s, v.ownBlock = some s → ∀ o : Obj, W.heap[s]? = some o → o.isCells = true := by
      intro s hs o ho
      obtain ⟨_, ⟨rfl, _⟩ | ⟨g, cap, cur, rfl, _, hg', _⟩⟩ := hO.own
      · cases hs
      · have : g = s := by injection hs
        subst this
        rw [hg'] at ho
        injection ho with ho
        subst ho
        rfl
    have kat := hba1.cells.2 0 _ rfl
    have kn := hbn1.cells.2 0 _ rfl
    have kv := hO.st.cells.2 0 _ rfl
    obtain ⟨va, vc, hve⟩ : ∃ a c, v = .slice a ps.length c := by
      obtain ⟨_, ⟨rfl, h0⟩ | ⟨g, cap, cur, rfl, _⟩⟩ := hO.own
      · exact ⟨_, _, by rw [h0]⟩
      · exact ⟨_, _, rfl⟩
    rw [hve] at kv
    have hpl : (ps.length : Int) = ((ckL at_ n (pre.map (·.1))).length : Int) := by have h1 := congrArg List.length hpm; rw [List.length_map] at h1; omega
    have no : ¬ (at_ ≤ (x.1.1 : Int) ∧ (ps.length : Int) < n) → KeepsFrom (w.heap.size + 5) W W ∧ KpA w.heap.size (w.heap.size + 1 + 1 + 1 + 1) W W ∧ ICk A at_ n w (pre ++ [x]) W := fun hc => ⟨⟨Nat.le_refl _, fun k o _ hk _ => hk⟩, ⟨Nat.le_refl _, fun _ _ => rfl⟩, ⟨v, ps, hO, by rw [hpm, List.map_append]; exact (show ckL at_ n (pre.map (·.1)) = ckL at_ n (pre.map (·.1) ++ [x.1]) by rw [ckL_snoc, ckStep, if_neg (by rw [← hpl]; exact hc)]), hBw, hNw, hba1, hbn1⟩⟩
    by_cases hc1 : at_ ≤ (x.1.1 : Int)
    · by_cases hc2 : (ps.length : Int) < n
      · have hcond : at_ ≤ (x.1.1 : Int) ∧ ((ckL at_ n (pre.map (·.1))).length : Int) < n := ⟨hc1, by rw [← hpl]; exact hc2⟩
        clear no
        gi_wp2_with fail
        refine ckapp_region _ _ _ ?hout rfl (w.heap.size + 1 + 1 + 1) h (w.heap.size + 5) ps.length [v] x.1.2.1 v x.1.2.2.1 x.1.2.2.2 (flatE ps) rfl rfl hO.st rfl hbl hp hm FE hO.own hps hNw (fun s hs => ⟨by have := (hvs s hs).1; omega, fun e => ?hne, op.imp id (fun h2 e => by have := h2 s e; have := (hvs s hs).1; omega), om.imp id (fun h2 e => by have := h2 s e; have := (hvs s hs).1; omega)⟩) ?hfin
        case hout => rintro ⟨a2, w2, hh2⟩; first | exact hh2 | exact hh2.elim | (simp [ownPostG] at hh2) | exact True.intro
        case hne => exact hu v (hO.st.cells.2 0 _ rfl) (by rw [hs, e])
        case hfin =>
          intro y v2 vp vm W2 h1 h2 h3 h4 h5 h6 h7 h8 h9
          have hO2 := hO.push (by omega) hNw x.1.2.1 v2 vp vm h1 h2 h3 h4 h5 h6 h7 h8 h9
          have hB2 := hBw.trans (h9.below (fun b hb => by rcases hb with rfl | hb; (· omega); (· have := (hvs b hb).1; omega)) (by omega))
          have hpost : KeepsFrom W0.heap.size W W2 ∧ KpA w.heap.size (w.heap.size + 1 + 1 + 1 + 1) W W2 ∧ ICk A at_ n w (pre ++ [x]) W2 := by
            refine ⟨⟨h9.size, fun k o hB hk ho => (h9.block k (Array.getElem?_eq_some_iff.1 hk).1 (fun e => ?_)).trans hk⟩, ⟨h9.size, fun b hb => h9.block b (by omega) (fun e => ?_)⟩, ⟨v2, _, hO2, by rw [List.map_append, hpm, List.map_append]; exact (show ckL at_ n (pre.map (·.1)) ++ [x.1.2.1] = ckL at_ n (pre.map (·.1) ++ [x.1]) by rw [ckL_snoc, ckStep, if_pos hcond]), hB2, Nat.le_trans hNw h9.size, h9.blk hba1 (by rintro (e | e); (· omega); (· have := (hvs _ e).1; omega)), h9.blk hbn1 (by rintro (e | e); (· omega); (· have := (hvs _ e).1; omega))⟩⟩
            · rcases e with rfl | e
              · omega
              · rw [hob k e o hk] at ho; cases ho
            · rcases e with e | e
              · omega
              · have := (hvs b e).1; omega
          first | exact hpost | (gi_wp2; exact hpost) | exact True.intro
      · have hpost := no (fun h => hc2 h.2)
        gi_wp2
        exact hpost
    · have hpost := no (fun h => hc1 h.1)
      gi_wp2
      exact hpost
  case done =>
    rintro D ys W hD hys ⟨v, ps, hO, hpm, hBw, hNw, hba1, hbn1⟩ hK
    have hc := hO.st.cells.2 0 _ rfl
    have hen := Kept.mk (show isEnsN w.heap.size (chunkA A at_ n) v (W.putObj D (.deferred none)) by
      have h2 := (out_own (B := W0.heap.size) (by omega) hO (grownBy_putObj' W D (.deferred none)) (fun r e => by cases e; exact ⟨hD, _, hK, rfl⟩)).ensN (N := w.heap.size) (by omega)
      rw [hpm] at h2
      obtain ⟨y1, y2⟩ := hys
      unfold chunkA
      rw [if_neg (by omega)]
      cases hok : okA A with
      | true =>
        rw [hok, if_pos rfl] at y1 y2
        rw [ckL_spec at_ n (by omega) A.slots A.slots.length (ys.map (·.1)) (Nat.le_refl _) (by rw [List.map_map]; exact y1) (by rw [List.map_map, List.take_of_length_le (Nat.le_refl _)]; exact y2), List.take_of_length_le (Nat.le_refl _)] at h2
        exact h2
      | false =>
        rw [hok, if_neg (by decide)] at y1
        have : ys = [] := by have := congrArg List.length y1; simpa using this
        subst this
        exact h2)
    have hbl := Kept.mk (hBw.trans (belowK_b (w := w) (Nat.le_refl _) W D _ (.deferred none) (by omega) hK rfl rfl))
    gi_wp2
    refine ⟨by simp, .inl ⟨_, _, rfl, run_takeDeferred hK, ?_⟩⟩
    exact ⟨_, results_tmp rfl _ _ _, v, rfl, hen.out, hbl.out⟩
  case stop =>
    rintro D c pre W _ _ h _
    exact h.elim
end Go.Proofs.Ytmbnhlhanckkiaa
end
