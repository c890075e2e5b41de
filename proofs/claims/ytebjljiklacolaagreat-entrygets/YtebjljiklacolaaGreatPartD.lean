/- Joined texts: contracts of the program's functions, and the mathematics that they lean on. -/
import Derived.Test.YtebjljiklacolaaGreatPartC
import Derived.Recover
import Derived.SizedLaws
import Derived.SliceStrings
import Derived.Carry
import Derived.Maps.AppendAt
import Derived.OwnWalk
import Derived.Laws.BytesArg
section
namespace Go.Proofs.YtebjljiklacolaaGreat
open Go.RowKit
set_option linter.unusedVariables false
set_option linter.unusedSimpArgs false
attribute [local irreducible] setN

theorem old_blk {cs : List Value} {v : Value} {w : World} (h : isCells cs v w) (h0 : 0 < cs.length) {g : Nat} (hg : w.heap.size ≤ g) : blk v ≠ some g := by
  obtain ⟨b, off, cap, rfl, hb, -⟩ := h.some_ h0
  intro e
  injection e with e
  have : b = g := e
  omega
noncomputable def pu1Ops : Array Oper := regionOf Tryz.f8 5
set_option maxRecDepth 100000 in
set_option maxHeartbeats 2000000 in
theorem pu1_region (Q : Exit → Act → World → Prop) (a0 : Act) (w0 : World) (hsz : a0.tmps.size = 54) (E : En) (g b : Nat) (vp vm : Value) (e5 : a0.tmps.getD 5 undef = .pointer (some ⟨g, 0, none⟩)) (e1 : a0.tmps.getD 1 undef = .pointer (some ⟨b, 0, none⟩)) (hc : CellsN w0 b [.string ⟨E.key.toArray⟩, .int .i64 E.val.kind, .int .i64 E.val.time, .int .i64 E.val.node, .bool E.val.dead, .string ⟨E.val.text.toArray⟩, vp, vm, .int .u64 (E.val.flags.toNat : Int)])
    (hC : ∀ (y : Nat → Value) (w : World), Below w0.heap.size w0 w → Calls Tryz.prog 21 #[.pointer (some ⟨g, 0, none⟩), .int .i64 E.val.kind, .int .i64 1] w fun e w' => ∃ v, e = .returned v ∧ Q .normal { tmps := ([13, 14, 15, 16, 17, 18, 19].foldl (fun t s => t.setIfInBounds s (y s)) a0.tmps).setIfInBounds 19 v, defers := a0.defers } w') :
    (Code.region 5 pu1Ops true).wp Tryz.prog Q a0 w0 := by
  refine wp_region_cov 6 mixed (by rw [hsz]; kernel_rfl) (by kernel_rfl) ?_
  rw [show pu1Ops.size - 6 = 1 by kernel_rfl]
  refine ⟨isVal (.pointer (some ⟨g, 0, none⟩)), step_move (.tmp 5) (by kernel_rfl) (wanted_none (by kernel_rfl)) (stable_val _) (knows_old 5 (.pointer (some ⟨g, 0, none⟩)) (by kernel_rfl) e5), ?_⟩
  refine ⟨isVal (.pointer (some ⟨g, 0, none⟩)), step_nilP (.tmp 13) ⟨g, 0, none⟩ (by kernel_rfl) (wanted_none (by kernel_rfl)) (knows_new (V := isVal (.pointer (some ⟨g, 0, none⟩))) 13 0 (by kernel_rfl) (by kernel_rfl) (by kernel_rfl)), ?_⟩
  refine ⟨isVal (.pointer (some ⟨g, 0, none⟩)), step_field 44 (.tmp 14) 0 ⟨g, 0, none⟩ ⟨g, 0, none⟩ (by kernel_rfl) (wanted_none (by kernel_rfl)) (knows_new (V := isVal (.pointer (some ⟨g, 0, none⟩))) 14 1 (by kernel_rfl) (by kernel_rfl) (by kernel_rfl)) (field_wr g 0 (by omega)), ?_⟩
  refine ⟨isVal (.pointer (some ⟨b, 1, none⟩)), step_field 27 (.tmp 1) 1 ⟨b, 0, none⟩ ⟨b, 1, none⟩ (by kernel_rfl) (wanted_none (by kernel_rfl)) (knows_old 1 (.pointer (some ⟨b, 0, none⟩)) (by kernel_rfl) e1) (field_en b 1 (by omega)), ?_⟩
  refine ⟨isVal (.pointer (some ⟨b, 1, none⟩)), step_field 25 (.tmp 16) 0 ⟨b, 1, none⟩ ⟨b, 1, none⟩ (by kernel_rfl) (wanted_none (by kernel_rfl)) (knows_new (V := isVal (.pointer (some ⟨b, 1, none⟩))) 16 3 (by kernel_rfl) (by kernel_rfl) (by kernel_rfl)) (field_va1 b 0 (by omega)), ?_⟩
  refine ⟨isVal (.int .i64 E.val.kind), step_read 3 (.tmp 17) ⟨b, 1, none⟩ (.int .i64 E.val.kind) (by kernel_rfl) (wanted_none (by kernel_rfl)) (knows_new (V := isVal (.pointer (some ⟨b, 1, none⟩))) 17 4 (by kernel_rfl) (by kernel_rfl) (by kernel_rfl)) (hc.2 1 _ rfl) hc.1 agg_int, ?_⟩
  intro a w hkp hb hd
  have d15 : a.eval (.tmp 15) = _ := fdone_of (hd 2 (by decide)) (t := 15) (V := isVal (.pointer (some ⟨g, 0, none⟩))) (by kernel_rfl) (by kernel_rfl)
  have d18 : a.eval (.tmp 18) = _ := fdone_of (hd 5 (by decide)) (t := 18) (V := isVal (.int .i64 E.val.kind)) (by kernel_rfl) (by kernel_rfl)
  refine tail_call 21 #[.tmp 15, .tmp 18, .const (.int .i64 1)] #[42, 3, 3] #[.pointer (some ⟨g, 0, none⟩), .int .i64 E.val.kind, .int .i64 1] 19 (by kernel_rfl) (by kernel_rfl) (by simp only [List.map_toArray, List.map_cons, List.map_nil, d15, d18]; try rfl) (enters_of Tryz.func21 (by kernel_rfl) rfl) ?_
  obtain ⟨y, ey⟩ := kept_ex hkp [some 13, some 14, some 15, some 16, some 17, some 18, some 19] [13, 14, 15, 16, 17, 18, 19] (by kernel_rfl) (by decide)
  refine (hC y w hb).mono ?_
  rintro e w' ⟨v, rfl, hq⟩
  exact ⟨v, rfl, put_kept ey hq⟩
noncomputable def pu2Ops : Array Oper := regionOf Tryz.f8 6
set_option maxRecDepth 100000 in
set_option maxHeartbeats 2000000 in
theorem pu2_region (Q : Exit → Act → World → Prop) (a0 : Act) (w0 : World) (hsz : a0.tmps.size = 54) (E : En) (g b : Nat) (vp vm : Value) (e5 : a0.tmps.getD 5 undef = .pointer (some ⟨g, 0, none⟩)) (e1 : a0.tmps.getD 1 undef = .pointer (some ⟨b, 0, none⟩)) (hc : CellsN w0 b [.string ⟨E.key.toArray⟩, .int .i64 E.val.kind, .int .i64 E.val.time, .int .i64 E.val.node, .bool E.val.dead, .string ⟨E.val.text.toArray⟩, vp, vm, .int .u64 (E.val.flags.toNat : Int)])
    (hC : ∀ (y : Nat → Value) (w : World), Below w0.heap.size w0 w → Calls Tryz.prog 21 #[.pointer (some ⟨g, 0, none⟩), .int .i64 (E.key.length : Int), .int .i64 1] w fun e w' => ∃ v, e = .returned v ∧ Q .normal { tmps := ([20, 21, 22, 23, 24, 25, 26].foldl (fun t s => t.setIfInBounds s (y s)) a0.tmps).setIfInBounds 26 v, defers := a0.defers } w') :
    (Code.region 6 pu2Ops true).wp Tryz.prog Q a0 w0 := by
  refine wp_region_cov 6 mixed (by rw [hsz]; kernel_rfl) (by kernel_rfl) ?_
  rw [show pu2Ops.size - 6 = 1 by kernel_rfl]
  refine ⟨isVal (.pointer (some ⟨g, 0, none⟩)), step_move (.tmp 5) (by kernel_rfl) (wanted_none (by kernel_rfl)) (stable_val _) (knows_old 5 (.pointer (some ⟨g, 0, none⟩)) (by kernel_rfl) e5), ?_⟩
  refine ⟨isVal (.pointer (some ⟨g, 0, none⟩)), step_nilP (.tmp 20) ⟨g, 0, none⟩ (by kernel_rfl) (wanted_none (by kernel_rfl)) (knows_new (V := isVal (.pointer (some ⟨g, 0, none⟩))) 20 0 (by kernel_rfl) (by kernel_rfl) (by kernel_rfl)), ?_⟩
  refine ⟨isVal (.pointer (some ⟨g, 0, none⟩)), step_field 44 (.tmp 21) 0 ⟨g, 0, none⟩ ⟨g, 0, none⟩ (by kernel_rfl) (wanted_none (by kernel_rfl)) (knows_new (V := isVal (.pointer (some ⟨g, 0, none⟩))) 21 1 (by kernel_rfl) (by kernel_rfl) (by kernel_rfl)) (field_wr g 0 (by omega)), ?_⟩
  refine ⟨isVal (.pointer (some ⟨b, 0, none⟩)), step_field 27 (.tmp 1) 0 ⟨b, 0, none⟩ ⟨b, 0, none⟩ (by kernel_rfl) (wanted_none (by kernel_rfl)) (knows_old 1 (.pointer (some ⟨b, 0, none⟩)) (by kernel_rfl) e1) (field_en b 0 (by omega)), ?_⟩
  refine ⟨isVal (.string ⟨E.key.toArray⟩), step_read 9 (.tmp 23) ⟨b, 0, none⟩ (.string ⟨E.key.toArray⟩) (by kernel_rfl) (wanted_none (by kernel_rfl)) (knows_new (V := isVal (.pointer (some ⟨b, 0, none⟩))) 23 3 (by kernel_rfl) (by kernel_rfl) (by kernel_rfl)) (hc.2 0 _ rfl) hc.1 agg_str, ?_⟩
  refine ⟨isVal (.int .i64 (E.key.length : Int)), step_len 9 (.tmp 24) (.string ⟨E.key.toArray⟩) (.int .i64 (E.key.length : Int)) (by kernel_rfl) (wanted_none (by kernel_rfl)) (knows_new (V := isVal (.string ⟨E.key.toArray⟩)) 24 4 (by kernel_rfl) (by kernel_rfl) (by kernel_rfl)) (len_str E.key), ?_⟩
  intro a w hkp hb hd
  have d22 : a.eval (.tmp 22) = _ := fdone_of (hd 2 (by decide)) (t := 22) (V := isVal (.pointer (some ⟨g, 0, none⟩))) (by kernel_rfl) (by kernel_rfl)
  have d25 : a.eval (.tmp 25) = _ := fdone_of (hd 5 (by decide)) (t := 25) (V := isVal (.int .i64 (E.key.length : Int))) (by kernel_rfl) (by kernel_rfl)
  refine tail_call 21 #[.tmp 22, .tmp 25, .const (.int .i64 1)] #[42, 3, 3] #[.pointer (some ⟨g, 0, none⟩), .int .i64 (E.key.length : Int), .int .i64 1] 26 (by kernel_rfl) (by kernel_rfl) (by simp only [List.map_toArray, List.map_cons, List.map_nil, d22, d25]; try rfl) (enters_of Tryz.func21 (by kernel_rfl) rfl) ?_
  obtain ⟨y, ey⟩ := kept_ex hkp [some 20, some 21, some 22, some 23, some 24, some 25, some 26] [20, 21, 22, 23, 24, 25, 26] (by kernel_rfl) (by decide)
  refine (hC y w hb).mono ?_
  rintro e w' ⟨v, rfl, hq⟩
  exact ⟨v, rfl, put_kept ey hq⟩
noncomputable def pu3Ops : Array Oper := regionOf Tryz.f8 7
set_option maxRecDepth 100000 in
set_option maxHeartbeats 2000000 in
theorem pu3_region (Q : Exit → Act → World → Prop) (a0 : Act) (w0 : World) (hsz : a0.tmps.size = 54) (E : En) (g b : Nat) (vp vm : Value) (e5 : a0.tmps.getD 5 undef = .pointer (some ⟨g, 0, none⟩)) (e1 : a0.tmps.getD 1 undef = .pointer (some ⟨b, 0, none⟩)) (hc : CellsN w0 b [.string ⟨E.key.toArray⟩, .int .i64 E.val.kind, .int .i64 E.val.time, .int .i64 E.val.node, .bool E.val.dead, .string ⟨E.val.text.toArray⟩, vp, vm, .int .u64 (E.val.flags.toNat : Int)])
    (hC : ∀ (y : Nat → Value) (w : World), Below w0.heap.size w0 w → Calls Tryz.prog 22 #[.pointer (some ⟨g, 0, none⟩), .string ⟨E.key.toArray⟩] w fun e w' => ∃ v, e = .returned v ∧ Q .normal { tmps := ([27, 28, 29, 30, 31, 32].foldl (fun t s => t.setIfInBounds s (y s)) a0.tmps).setIfInBounds 32 v, defers := a0.defers } w') :
    (Code.region 7 pu3Ops true).wp Tryz.prog Q a0 w0 := by
  refine wp_region_cov 5 mixed (by rw [hsz]; kernel_rfl) (by kernel_rfl) ?_
  rw [show pu3Ops.size - 5 = 1 by kernel_rfl]
  refine ⟨isVal (.pointer (some ⟨g, 0, none⟩)), step_move (.tmp 5) (by kernel_rfl) (wanted_none (by kernel_rfl)) (stable_val _) (knows_old 5 (.pointer (some ⟨g, 0, none⟩)) (by kernel_rfl) e5), ?_⟩
  refine ⟨isVal (.pointer (some ⟨g, 0, none⟩)), step_nilP (.tmp 27) ⟨g, 0, none⟩ (by kernel_rfl) (wanted_none (by kernel_rfl)) (knows_new (V := isVal (.pointer (some ⟨g, 0, none⟩))) 27 0 (by kernel_rfl) (by kernel_rfl) (by kernel_rfl)), ?_⟩
  refine ⟨isVal (.pointer (some ⟨g, 0, none⟩)), step_field 44 (.tmp 28) 0 ⟨g, 0, none⟩ ⟨g, 0, none⟩ (by kernel_rfl) (wanted_none (by kernel_rfl)) (knows_new (V := isVal (.pointer (some ⟨g, 0, none⟩))) 28 1 (by kernel_rfl) (by kernel_rfl) (by kernel_rfl)) (field_wr g 0 (by omega)), ?_⟩
  refine ⟨isVal (.pointer (some ⟨b, 0, none⟩)), step_field 27 (.tmp 1) 0 ⟨b, 0, none⟩ ⟨b, 0, none⟩ (by kernel_rfl) (wanted_none (by kernel_rfl)) (knows_old 1 (.pointer (some ⟨b, 0, none⟩)) (by kernel_rfl) e1) (field_en b 0 (by omega)), ?_⟩
  refine ⟨isVal (.string ⟨E.key.toArray⟩), step_read 9 (.tmp 30) ⟨b, 0, none⟩ (.string ⟨E.key.toArray⟩) (by kernel_rfl) (wanted_none (by kernel_rfl)) (knows_new (V := isVal (.pointer (some ⟨b, 0, none⟩))) 30 3 (by kernel_rfl) (by kernel_rfl) (by kernel_rfl)) (hc.2 0 _ rfl) hc.1 agg_str, ?_⟩
  intro a w hkp hb hd
  have d29 : a.eval (.tmp 29) = _ := fdone_of (hd 2 (by decide)) (t := 29) (V := isVal (.pointer (some ⟨g, 0, none⟩))) (by kernel_rfl) (by kernel_rfl)
  have d31 : a.eval (.tmp 31) = _ := fdone_of (hd 4 (by decide)) (t := 31) (V := isVal (.string ⟨E.key.toArray⟩)) (by kernel_rfl) (by kernel_rfl)
  refine tail_call 22 #[.tmp 29, .tmp 31] #[42, 9] #[.pointer (some ⟨g, 0, none⟩), .string ⟨E.key.toArray⟩] 32 (by kernel_rfl) (by kernel_rfl) (by simp only [List.map_toArray, List.map_cons, List.map_nil, d29, d31]; try rfl) (enters_of Tryz.func22 (by kernel_rfl) rfl) ?_
  obtain ⟨y, ey⟩ := kept_ex hkp [some 27, some 28, some 29, some 30, some 31, some 32] [27, 28, 29, 30, 31, 32] (by kernel_rfl) (by decide)
  refine (hC y w hb).mono ?_
  rintro e w' ⟨v, rfl, hq⟩
  exact ⟨v, rfl, put_kept ey hq⟩
noncomputable def pk1Ops : Array Oper := regionOf Tryz.f8 9
set_option maxRecDepth 100000 in
set_option maxHeartbeats 2000000 in
theorem pk1_region (Q : Exit → Act → World → Prop) (a0 : Act) (w0 : World) (hsz : a0.tmps.size = 54) (E : En) (g b : Nat) (vp vm : Value) (e5 : a0.tmps.getD 5 undef = .pointer (some ⟨g, 0, none⟩)) (e1 : a0.tmps.getD 1 undef = .pointer (some ⟨b, 0, none⟩)) (hc : CellsN w0 b [.string ⟨E.key.toArray⟩, .int .i64 E.val.kind, .int .i64 E.val.time, .int .i64 E.val.node, .bool E.val.dead, .string ⟨E.val.text.toArray⟩, vp, vm, .int .u64 (E.val.flags.toNat : Int)]) (hk : E.val.kind = 1)
    (hC : ∀ (y : Nat → Value) (w : World), Below w0.heap.size w0 w → Calls Tryz.prog 42 #[.pointer (some ⟨g, 0, none⟩), .agg #[.int .i64 E.val.kind, .int .i64 E.val.time, .int .i64 E.val.node, .bool E.val.dead, .string ⟨E.val.text.toArray⟩, vp, vm, .int .u64 (E.val.flags.toNat : Int)]] w fun e w' => ∃ v, e = .returned v ∧ Q .normal { tmps := ([37, 38, 39, 40, 41, 42, 43, 44, 45].foldl (fun t s => t.setIfInBounds s (y s)) a0.tmps).setIfInBounds 45 v, defers := a0.defers } w') :
    (Code.region 9 pk1Ops true).wp Tryz.prog Q a0 w0 := by
  refine wp_region_cov 8 mixed (by rw [hsz]; kernel_rfl) (by kernel_rfl) ?_
  rw [show pk1Ops.size - 8 = 1 by kernel_rfl]
  refine ⟨isVal (.pointer (some ⟨g, 0, none⟩)), step_move (.tmp 5) (by kernel_rfl) (wanted_none (by kernel_rfl)) (stable_val _) (knows_old 5 (.pointer (some ⟨g, 0, none⟩)) (by kernel_rfl) e5), ?_⟩
  refine ⟨(isKinds g), step_call 24 #[.tmp 37] #[41] #[.pointer (some ⟨g, 0, none⟩)] (by kernel_rfl) (wanted_none (by kernel_rfl)) (stable_kinds g) (args1 (.tmp 37) (.pointer (some ⟨g, 0, none⟩)) (knows_new (V := isVal (.pointer (some ⟨g, 0, none⟩))) 37 0 (by kernel_rfl) (by kernel_rfl) (by kernel_rfl))) (enters_of Tryz.func24 (by kernel_rfl) rfl) (by intro w hb; exact kinds_any g w), ?_⟩
  refine ⟨isVal (.pointer (some ⟨b, 1, none⟩)), step_field 27 (.tmp 1) 1 ⟨b, 0, none⟩ ⟨b, 1, none⟩ (by kernel_rfl) (wanted_none (by kernel_rfl)) (knows_old 1 (.pointer (some ⟨b, 0, none⟩)) (by kernel_rfl) e1) (field_en b 1 (by omega)), ?_⟩
  refine ⟨isVal (.pointer (some ⟨b, 1, none⟩)), step_field 25 (.tmp 39) 0 ⟨b, 1, none⟩ ⟨b, 1, none⟩ (by kernel_rfl) (wanted_none (by kernel_rfl)) (knows_new (V := isVal (.pointer (some ⟨b, 1, none⟩))) 39 2 (by kernel_rfl) (by kernel_rfl) (by kernel_rfl)) (field_va1 b 0 (by omega)), ?_⟩
  refine ⟨isVal (.int .i64 E.val.kind), step_read 3 (.tmp 40) ⟨b, 1, none⟩ (.int .i64 E.val.kind) (by kernel_rfl) (wanted_none (by kernel_rfl)) (knows_new (V := isVal (.pointer (some ⟨b, 1, none⟩))) 40 3 (by kernel_rfl) (by kernel_rfl) (by kernel_rfl)) (hc.2 1 _ rfl) hc.1 agg_int, ?_⟩
  refine ⟨isVal (.func (.func 42) #[.pointer (some ⟨g, 0, none⟩)] #[]), step_find 49 (.tmp 38) (.tmp 41) g _ (.func (.func 42) #[.pointer (some ⟨g, 0, none⟩)] #[]) (by kernel_rfl) (wanted_none (by kernel_rfl)) (knows_new (V := (isKinds g)) 38 1 (by kernel_rfl) (by kernel_rfl) (by kernel_rfl)) (knows_new (V := isVal (.int .i64 E.val.kind)) 41 4 (by kernel_rfl) (by kernel_rfl) (by kernel_rfl)) (by rw [hk]; exact kind_at g 1 _ 0 (by kernel_rfl)), ?_⟩
  refine ⟨isVal (.pointer (some ⟨b, 1, none⟩)), step_field 27 (.tmp 1) 1 ⟨b, 0, none⟩ ⟨b, 1, none⟩ (by kernel_rfl) (wanted_none (by kernel_rfl)) (knows_old 1 (.pointer (some ⟨b, 0, none⟩)) (by kernel_rfl) e1) (field_en b 1 (by omega)), ?_⟩
  refine ⟨isVal (.agg #[.int .i64 E.val.kind, .int .i64 E.val.time, .int .i64 E.val.node, .bool E.val.dead, .string ⟨E.val.text.toArray⟩, vp, vm, .int .u64 (E.val.flags.toNat : Int)]), step_loadO 25 (.tmp 43) (b) _ [.int .i64 E.val.kind, .int .i64 E.val.time, .int .i64 E.val.node, .bool E.val.dead, .string ⟨E.val.text.toArray⟩, vp, vm, .int .u64 (E.val.flags.toNat : Int)] (by kernel_rfl) (wanted_none (by kernel_rfl)) (knows_new (V := isVal (.pointer (some ⟨b, 1, none⟩))) 43 6 (by kernel_rfl) (by kernel_rfl) (by kernel_rfl)) size_va agg_va hc, ?_⟩
  intro a w hkp hb hd
  have d44 : a.eval (.tmp 44) = _ := fdone_of (hd 7 (by decide)) (t := 44) (V := isVal (.agg #[.int .i64 E.val.kind, .int .i64 E.val.time, .int .i64 E.val.node, .bool E.val.dead, .string ⟨E.val.text.toArray⟩, vp, vm, .int .u64 (E.val.flags.toNat : Int)])) (by kernel_rfl) (by kernel_rfl)
  have d42 : a.eval (.tmp 42) = _ := fdone_of (hd 5 (by decide)) (t := 42) (V := isVal (.func (.func 42) #[.pointer (some ⟨g, 0, none⟩)] #[])) (by kernel_rfl) (by kernel_rfl)
  refine tail_callV (.tmp 42) 42 #[.pointer (some ⟨g, 0, none⟩)] #[.tmp 44] #[25] #[.agg #[.int .i64 E.val.kind, .int .i64 E.val.time, .int .i64 E.val.node, .bool E.val.dead, .string ⟨E.val.text.toArray⟩, vp, vm, .int .u64 (E.val.flags.toNat : Int)]] 45 (by kernel_rfl) (by kernel_rfl) d42 (by simp only [List.map_toArray, List.map_cons, List.map_nil, d44, d42]) (enters_of Tryz.func42 (by kernel_rfl) rfl) ?_
  obtain ⟨y, ey⟩ := kept_ex hkp [some 37, some 38, some 39, some 40, some 41, some 42, some 43, some 44, some 45] [37, 38, 39, 40, 41, 42, 43, 44, 45] (by kernel_rfl) (by decide)
  refine (hC y w hb).mono ?_
  rintro e w' ⟨v, rfl, hq⟩
  exact ⟨v, rfl, put_kept ey hq⟩
noncomputable def pk2Ops : Array Oper := regionOf Tryz.f8 9
set_option maxRecDepth 100000 in
set_option maxHeartbeats 2000000 in
theorem pk2_region (Q : Exit → Act → World → Prop) (a0 : Act) (w0 : World) (hsz : a0.tmps.size = 54) (E : En) (g b : Nat) (vp vm : Value) (e5 : a0.tmps.getD 5 undef = .pointer (some ⟨g, 0, none⟩)) (e1 : a0.tmps.getD 1 undef = .pointer (some ⟨b, 0, none⟩)) (hc : CellsN w0 b [.string ⟨E.key.toArray⟩, .int .i64 E.val.kind, .int .i64 E.val.time, .int .i64 E.val.node, .bool E.val.dead, .string ⟨E.val.text.toArray⟩, vp, vm, .int .u64 (E.val.flags.toNat : Int)]) (hk : E.val.kind = 2)
    (hC : ∀ (y : Nat → Value) (w : World), Below w0.heap.size w0 w → Calls Tryz.prog 43 #[.pointer (some ⟨g, 0, none⟩), .agg #[.int .i64 E.val.kind, .int .i64 E.val.time, .int .i64 E.val.node, .bool E.val.dead, .string ⟨E.val.text.toArray⟩, vp, vm, .int .u64 (E.val.flags.toNat : Int)]] w fun e w' => ∃ v, e = .returned v ∧ Q .normal { tmps := ([37, 38, 39, 40, 41, 42, 43, 44, 45].foldl (fun t s => t.setIfInBounds s (y s)) a0.tmps).setIfInBounds 45 v, defers := a0.defers } w') :
    (Code.region 9 pk2Ops true).wp Tryz.prog Q a0 w0 := by
  refine wp_region_cov 8 mixed (by rw [hsz]; kernel_rfl) (by kernel_rfl) ?_
  rw [show pk2Ops.size - 8 = 1 by kernel_rfl]
  refine ⟨isVal (.pointer (some ⟨g, 0, none⟩)), step_move (.tmp 5) (by kernel_rfl) (wanted_none (by kernel_rfl)) (stable_val _) (knows_old 5 (.pointer (some ⟨g, 0, none⟩)) (by kernel_rfl) e5), ?_⟩
  refine ⟨(isKinds g), step_call 24 #[.tmp 37] #[41] #[.pointer (some ⟨g, 0, none⟩)] (by kernel_rfl) (wanted_none (by kernel_rfl)) (stable_kinds g) (args1 (.tmp 37) (.pointer (some ⟨g, 0, none⟩)) (knows_new (V := isVal (.pointer (some ⟨g, 0, none⟩))) 37 0 (by kernel_rfl) (by kernel_rfl) (by kernel_rfl))) (enters_of Tryz.func24 (by kernel_rfl) rfl) (by intro w hb; exact kinds_any g w), ?_⟩
  refine ⟨isVal (.pointer (some ⟨b, 1, none⟩)), step_field 27 (.tmp 1) 1 ⟨b, 0, none⟩ ⟨b, 1, none⟩ (by kernel_rfl) (wanted_none (by kernel_rfl)) (knows_old 1 (.pointer (some ⟨b, 0, none⟩)) (by kernel_rfl) e1) (field_en b 1 (by omega)), ?_⟩
  refine ⟨isVal (.pointer (some ⟨b, 1, none⟩)), step_field 25 (.tmp 39) 0 ⟨b, 1, none⟩ ⟨b, 1, none⟩ (by kernel_rfl) (wanted_none (by kernel_rfl)) (knows_new (V := isVal (.pointer (some ⟨b, 1, none⟩))) 39 2 (by kernel_rfl) (by kernel_rfl) (by kernel_rfl)) (field_va1 b 0 (by omega)), ?_⟩
  refine ⟨isVal (.int .i64 E.val.kind), step_read 3 (.tmp 40) ⟨b, 1, none⟩ (.int .i64 E.val.kind) (by kernel_rfl) (wanted_none (by kernel_rfl)) (knows_new (V := isVal (.pointer (some ⟨b, 1, none⟩))) 40 3 (by kernel_rfl) (by kernel_rfl) (by kernel_rfl)) (hc.2 1 _ rfl) hc.1 agg_int, ?_⟩
  refine ⟨isVal (.func (.func 43) #[.pointer (some ⟨g, 0, none⟩)] #[]), step_find 49 (.tmp 38) (.tmp 41) g _ (.func (.func 43) #[.pointer (some ⟨g, 0, none⟩)] #[]) (by kernel_rfl) (wanted_none (by kernel_rfl)) (knows_new (V := (isKinds g)) 38 1 (by kernel_rfl) (by kernel_rfl) (by kernel_rfl)) (knows_new (V := isVal (.int .i64 E.val.kind)) 41 4 (by kernel_rfl) (by kernel_rfl) (by kernel_rfl)) (by rw [hk]; exact kind_at g 2 _ 1 (by kernel_rfl)), ?_⟩
  refine ⟨isVal (.pointer (some ⟨b, 1, none⟩)), step_field 27 (.tmp 1) 1 ⟨b, 0, none⟩ ⟨b, 1, none⟩ (by kernel_rfl) (wanted_none (by kernel_rfl)) (knows_old 1 (.pointer (some ⟨b, 0, none⟩)) (by kernel_rfl) e1) (field_en b 1 (by omega)), ?_⟩
  refine ⟨isVal (.agg #[.int .i64 E.val.kind, .int .i64 E.val.time, .int .i64 E.val.node, .bool E.val.dead, .string ⟨E.val.text.toArray⟩, vp, vm, .int .u64 (E.val.flags.toNat : Int)]), step_loadO 25 (.tmp 43) (b) _ [.int .i64 E.val.kind, .int .i64 E.val.time, .int .i64 E.val.node, .bool E.val.dead, .string ⟨E.val.text.toArray⟩, vp, vm, .int .u64 (E.val.flags.toNat : Int)] (by kernel_rfl) (wanted_none (by kernel_rfl)) (knows_new (V := isVal (.pointer (some ⟨b, 1, none⟩))) 43 6 (by kernel_rfl) (by kernel_rfl) (by kernel_rfl)) size_va agg_va hc, ?_⟩
  intro a w hkp hb hd
  have d44 : a.eval (.tmp 44) = _ := fdone_of (hd 7 (by decide)) (t := 44) (V := isVal (.agg #[.int .i64 E.val.kind, .int .i64 E.val.time, .int .i64 E.val.node, .bool E.val.dead, .string ⟨E.val.text.toArray⟩, vp, vm, .int .u64 (E.val.flags.toNat : Int)])) (by kernel_rfl) (by kernel_rfl)
  have d42 : a.eval (.tmp 42) = _ := fdone_of (hd 5 (by decide)) (t := 42) (V := isVal (.func (.func 43) #[.pointer (some ⟨g, 0, none⟩)] #[])) (by kernel_rfl) (by kernel_rfl)
  refine tail_callV (.tmp 42) 43 #[.pointer (some ⟨g, 0, none⟩)] #[.tmp 44] #[25] #[.agg #[.int .i64 E.val.kind, .int .i64 E.val.time, .int .i64 E.val.node, .bool E.val.dead, .string ⟨E.val.text.toArray⟩, vp, vm, .int .u64 (E.val.flags.toNat : Int)]] 45 (by kernel_rfl) (by kernel_rfl) d42 (by simp only [List.map_toArray, List.map_cons, List.map_nil, d44, d42]) (enters_of Tryz.func43 (by kernel_rfl) rfl) ?_
  obtain ⟨y, ey⟩ := kept_ex hkp [some 37, some 38, some 39, some 40, some 41, some 42, some 43, some 44, some 45] [37, 38, 39, 40, 41, 42, 43, 44, 45] (by kernel_rfl) (by decide)
  refine (hC y w hb).mono ?_
  rintro e w' ⟨v, rfl, hq⟩
  exact ⟨v, rfl, put_kept ey hq⟩
noncomputable def pk3Ops : Array Oper := regionOf Tryz.f8 9
set_option maxRecDepth 100000 in
set_option maxHeartbeats 2000000 in
theorem pk3_region (Q : Exit → Act → World → Prop) (a0 : Act) (w0 : World) (hsz : a0.tmps.size = 54) (E : En) (g b : Nat) (vp vm : Value) (e5 : a0.tmps.getD 5 undef = .pointer (some ⟨g, 0, none⟩)) (e1 : a0.tmps.getD 1 undef = .pointer (some ⟨b, 0, none⟩)) (hc : CellsN w0 b [.string ⟨E.key.toArray⟩, .int .i64 E.val.kind, .int .i64 E.val.time, .int .i64 E.val.node, .bool E.val.dead, .string ⟨E.val.text.toArray⟩, vp, vm, .int .u64 (E.val.flags.toNat : Int)]) (hk : E.val.kind = 3)
    (hC : ∀ (y : Nat → Value) (w : World), Below w0.heap.size w0 w → Calls Tryz.prog 44 #[.pointer (some ⟨g, 0, none⟩), .agg #[.int .i64 E.val.kind, .int .i64 E.val.time, .int .i64 E.val.node, .bool E.val.dead, .string ⟨E.val.text.toArray⟩, vp, vm, .int .u64 (E.val.flags.toNat : Int)]] w fun e w' => ∃ v, e = .returned v ∧ Q .normal { tmps := ([37, 38, 39, 40, 41, 42, 43, 44, 45].foldl (fun t s => t.setIfInBounds s (y s)) a0.tmps).setIfInBounds 45 v, defers := a0.defers } w') :
    (Code.region 9 pk3Ops true).wp Tryz.prog Q a0 w0 := by
  refine wp_region_cov 8 mixed (by rw [hsz]; kernel_rfl) (by kernel_rfl) ?_
  rw [show pk3Ops.size - 8 = 1 by kernel_rfl]
  refine ⟨isVal (.pointer (some ⟨g, 0, none⟩)), step_move (.tmp 5) (by kernel_rfl) (wanted_none (by kernel_rfl)) (stable_val _) (knows_old 5 (.pointer (some ⟨g, 0, none⟩)) (by kernel_rfl) e5), ?_⟩
  refine ⟨(isKinds g), step_call 24 #[.tmp 37] #[41] #[.pointer (some ⟨g, 0, none⟩)] (by kernel_rfl) (wanted_none (by kernel_rfl)) (stable_kinds g) (args1 (.tmp 37) (.pointer (some ⟨g, 0, none⟩)) (knows_new (V := isVal (.pointer (some ⟨g, 0, none⟩))) 37 0 (by kernel_rfl) (by kernel_rfl) (by kernel_rfl))) (enters_of Tryz.func24 (by kernel_rfl) rfl) (by intro w hb; exact kinds_any g w), ?_⟩
  refine ⟨isVal (.pointer (some ⟨b, 1, none⟩)), step_field 27 (.tmp 1) 1 ⟨b, 0, none⟩ ⟨b, 1, none⟩ (by kernel_rfl) (wanted_none (by kernel_rfl)) (knows_old 1 (.pointer (some ⟨b, 0, none⟩)) (by kernel_rfl) e1) (field_en b 1 (by omega)), ?_⟩
  refine ⟨isVal (.pointer (some ⟨b, 1, none⟩)), step_field 25 (.tmp 39) 0 ⟨b, 1, none⟩ ⟨b, 1, none⟩ (by kernel_rfl) (wanted_none (by kernel_rfl)) (knows_new (V := isVal (.pointer (some ⟨b, 1, none⟩))) 39 2 (by kernel_rfl) (by kernel_rfl) (by kernel_rfl)) (field_va1 b 0 (by omega)), ?_⟩
  refine ⟨isVal (.int .i64 E.val.kind), step_read 3 (.tmp 40) ⟨b, 1, none⟩ (.int .i64 E.val.kind) (by kernel_rfl) (wanted_none (by kernel_rfl)) (knows_new (V := isVal (.pointer (some ⟨b, 1, none⟩))) 40 3 (by kernel_rfl) (by kernel_rfl) (by kernel_rfl)) (hc.2 1 _ rfl) hc.1 agg_int, ?_⟩
  refine ⟨isVal (.func (.func 44) #[.pointer (some ⟨g, 0, none⟩)] #[]), step_find 49 (.tmp 38) (.tmp 41) g _ (.func (.func 44) #[.pointer (some ⟨g, 0, none⟩)] #[]) (by kernel_rfl) (wanted_none (by kernel_rfl)) (knows_new (V := (isKinds g)) 38 1 (by kernel_rfl) (by kernel_rfl) (by kernel_rfl)) (knows_new (V := isVal (.int .i64 E.val.kind)) 41 4 (by kernel_rfl) (by kernel_rfl) (by kernel_rfl)) (by rw [hk]; exact kind_at g 3 _ 2 (by kernel_rfl)), ?_⟩
  refine ⟨isVal (.pointer (some ⟨b, 1, none⟩)), step_field 27 (.tmp 1) 1 ⟨b, 0, none⟩ ⟨b, 1, none⟩ (by kernel_rfl) (wanted_none (by kernel_rfl)) (knows_old 1 (.pointer (some ⟨b, 0, none⟩)) (by kernel_rfl) e1) (field_en b 1 (by omega)), ?_⟩
  refine ⟨isVal (.agg #[.int .i64 E.val.kind, .int .i64 E.val.time, .int .i64 E.val.node, .bool E.val.dead, .string ⟨E.val.text.toArray⟩, vp, vm, .int .u64 (E.val.flags.toNat : Int)]), step_loadO 25 (.tmp 43) (b) _ [.int .i64 E.val.kind, .int .i64 E.val.time, .int .i64 E.val.node, .bool E.val.dead, .string ⟨E.val.text.toArray⟩, vp, vm, .int .u64 (E.val.flags.toNat : Int)] (by kernel_rfl) (wanted_none (by kernel_rfl)) (knows_new (V := isVal (.pointer (some ⟨b, 1, none⟩))) 43 6 (by kernel_rfl) (by kernel_rfl) (by kernel_rfl)) size_va agg_va hc, ?_⟩
  intro a w hkp hb hd
  have d44 : a.eval (.tmp 44) = _ := fdone_of (hd 7 (by decide)) (t := 44) (V := isVal (.agg #[.int .i64 E.val.kind, .int .i64 E.val.time, .int .i64 E.val.node, .bool E.val.dead, .string ⟨E.val.text.toArray⟩, vp, vm, .int .u64 (E.val.flags.toNat : Int)])) (by kernel_rfl) (by kernel_rfl)
  have d42 : a.eval (.tmp 42) = _ := fdone_of (hd 5 (by decide)) (t := 42) (V := isVal (.func (.func 44) #[.pointer (some ⟨g, 0, none⟩)] #[])) (by kernel_rfl) (by kernel_rfl)
  refine tail_callV (.tmp 42) 44 #[.pointer (some ⟨g, 0, none⟩)] #[.tmp 44] #[25] #[.agg #[.int .i64 E.val.kind, .int .i64 E.val.time, .int .i64 E.val.node, .bool E.val.dead, .string ⟨E.val.text.toArray⟩, vp, vm, .int .u64 (E.val.flags.toNat : Int)]] 45 (by kernel_rfl) (by kernel_rfl) d42 (by simp only [List.map_toArray, List.map_cons, List.map_nil, d44, d42]) (enters_of Tryz.func44 (by kernel_rfl) rfl) ?_
  obtain ⟨y, ey⟩ := kept_ex hkp [some 37, some 38, some 39, some 40, some 41, some 42, some 43, some 44, some 45] [37, 38, 39, 40, 41, 42, 43, 44, 45] (by kernel_rfl) (by decide)
  refine (hC y w hb).mono ?_
  rintro e w' ⟨v, rfl, hq⟩
  exact ⟨v, rfl, put_kept ey hq⟩
set_option maxRecDepth 100000 in
set_option maxHeartbeats 4000000 in
theorem eput_bad (E : En) (v : Value) (w : World) (hv : isEn E v w) (hF : FitE E) (hok : okE E = false) : Calls Tryz.prog 8 #[v] w fun e w' => e = .returned (.tuple #[txt (putF E), .int .i64 (chkE E)]) ∧ Below w.heap.size w w' := by
  have HO := Kept.mk hok
  clear hok
  obtain ⟨vp, vm, rfl, hp, hm⟩ := hv
  have HB := Kept.mk (lit_below w (.cells #[.string ⟨E.key.toArray⟩, .int .i64 E.val.kind, .int .i64 E.val.time, .int .i64 E.val.node, .bool E.val.dead, .string ⟨E.val.text.toArray⟩, vp, vm, .int .u64 (E.val.flags.toNat : Int)] 27))
  have HV := Kept.mk (Blk.new w 27 [.string ⟨E.key.toArray⟩, .int .i64 E.val.kind, .int .i64 E.val.time, .int .i64 E.val.node, .bool E.val.dead, .string ⟨E.val.text.toArray⟩, vp, vm, .int .u64 (E.val.flags.toNat : Int)] w.heap.size rfl)
  have HP := Kept.mk hp
  have HM := Kept.mk hm
  clear hp hm
  have kv0 := HV.out.cells.2 0 _ rfl
  have kv1 := HV.out.cells.2 1 _ rfl
  have kv2 := HV.out.cells.2 2 _ rfl
  have kv3 := HV.out.cells.2 3 _ rfl
  have kv4 := HV.out.cells.2 4 _ rfl
  have kv5 := HV.out.cells.2 5 _ rfl
  have kv6 := HV.out.cells.2 6 _ rfl
  have kv7 := HV.out.cells.2 7 _ rfl
  have kv8 := HV.out.cells.2 8 _ rfl
  go_enter Tryz.func8, Tryz.ntmps8
  go_wp2_with fail
  clear kv0 kv1 kv2 kv3 kv4 kv5 kv6 kv7 kv8
  generalize w.alloc (.cells #[.string ⟨E.key.toArray⟩, .int .i64 E.val.kind, .int .i64 E.val.time, .int .i64 E.val.node, .bool E.val.dead, .string ⟨E.val.text.toArray⟩, vp, vm, .int .u64 (E.val.flags.toNat : Int)] 27) = W0 at *
  have hs0 := HV.out.lt
  refine (echeck_any E _ W0 ⟨vp, vm, rfl, stable_cells _ _ _ _ HP.out HB.out, stable_cells _ _ _ _ HM.out HB.out⟩ hF).mono ?_
  rintro e W1 ⟨rfl, hb⟩
  replace HV := Kept.mk (HV.out.keep hb)
  replace HB := Kept.mk (HB.out.trans (hb.mono HB.out.size))
  have hs1 := hb.size
  clear hb
  have hC : chkE E = 2 := by unfold chkE; rw [HO.out]; rfl
  rw [hC]
  have HC := Kept.mk hC
  clear hC
  go_wp2
  go_ret2
  have e1 : putF E = [] := by unfold putF; rw [HO.out]; rfl
  refine ⟨?_, HB.out⟩
  rw [e1, HC.out]
  rfl
set_option maxRecDepth 100000 in
set_option maxHeartbeats 4000000 in
theorem eput_1 (E : En) (v : Value) (w : World) (hv : isEn E v w) (hF : FitE E) (hok : okE E = true) (hk : E.val.kind = 1) : Calls Tryz.prog 8 #[v] w fun e w' => e = .returned (.tuple #[txt (putF E), .int .i64 (chkE E)]) ∧ Below w.heap.size w w' := by
  have HO := Kept.mk hok
  have HK := Kept.mk hk
  have hl := length_head hok
  have HL := Kept.mk (length_putEn hok)
  have hdl := (length_data_le (show okV E.val = true by unfold okE at hok; rw [Bool.and_eq_true] at hok; exact hok.2)).1
  have hkl : 1 ≤ E.key.length ∧ E.key.length ≤ 8 := by simp only [okE, Bool.and_eq_true, decide_eq_true_eq] at hok; exact hok.1
  have HI := Kept.mk (show inReg E.val = true by unfold okE okV kindN at hok; rw [if_pos hk] at hok; rw [Bool.and_eq_true] at hok; have h2 := hok.2; split at h2; rename_i h3; rw [Bool.and_eq_true] at h3; exact h3.1; simp at h2)
  have hkz : 0 ≤ E.val.kind ∧ E.val.kind ≤ 3 := by omega
  clear hok hk
  obtain ⟨vp, vm, rfl, hp, hm⟩ := hv
  have HB := Kept.mk (lit_below w (.cells #[.string ⟨E.key.toArray⟩, .int .i64 E.val.kind, .int .i64 E.val.time, .int .i64 E.val.node, .bool E.val.dead, .string ⟨E.val.text.toArray⟩, vp, vm, .int .u64 (E.val.flags.toNat : Int)] 27))
  have HV := Kept.mk (Blk.new w 27 [.string ⟨E.key.toArray⟩, .int .i64 E.val.kind, .int .i64 E.val.time, .int .i64 E.val.node, .bool E.val.dead, .string ⟨E.val.text.toArray⟩, vp, vm, .int .u64 (E.val.flags.toNat : Int)] w.heap.size rfl)
  have HP := Kept.mk hp
  have HM := Kept.mk hm
  clear hp hm
  have kv0 := HV.out.cells.2 0 _ rfl
  have kv1 := HV.out.cells.2 1 _ rfl
  have kv2 := HV.out.cells.2 2 _ rfl
  have kv3 := HV.out.cells.2 3 _ rfl
  have kv4 := HV.out.cells.2 4 _ rfl
  have kv5 := HV.out.cells.2 5 _ rfl
  have kv6 := HV.out.cells.2 6 _ rfl
  have kv7 := HV.out.cells.2 7 _ rfl
  have kv8 := HV.out.cells.2 8 _ rfl
  go_enter Tryz.func8, Tryz.ntmps8
  go_wp2_with fail
  clear kv0 kv1 kv2 kv3 kv4 kv5 kv6 kv7 kv8
  generalize w.alloc (.cells #[.string ⟨E.key.toArray⟩, .int .i64 E.val.kind, .int .i64 E.val.time, .int .i64 E.val.node, .bool E.val.dead, .string ⟨E.val.text.toArray⟩, vp, vm, .int .u64 (E.val.flags.toNat : Int)] 27) = W0 at *
  have hs0 := HV.out.lt
  refine (echeck_any E _ W0 ⟨vp, vm, rfl, stable_cells _ _ _ _ HP.out HB.out, stable_cells _ _ _ _ HM.out HB.out⟩ hF).mono ?_
  rintro e W1 ⟨rfl, hb⟩
  replace HV := Kept.mk (HV.out.keep hb)
  replace HB := Kept.mk (HB.out.trans (hb.mono HB.out.size))
  have hs1 := hb.size
  clear hb
  have hC : chkE E = 0 := by unfold chkE; rw [HO.out]; rfl
  rw [hC]
  have HC := Kept.mk hC
  clear hC
  go_wp2_with fail
  have HW := Kept.mk (Wr.refl (show At (W1.alloc (.cells #[.string ⟨#[]⟩] 44)) W1.heap.size (txt []) from (fun b => ⟨b.cells.2 0 _ rfl, b.free 0, b.lt⟩) (Blk.new W1 44 [.string ⟨#[]⟩] W1.heap.size rfl)))
  replace HV := Kept.mk (HV.out.alloc (.cells #[.string ⟨#[]⟩] 44))
  replace HB := Kept.mk (HB.out.alloc HB.out.size (.cells #[.string ⟨#[]⟩] 44))
  generalize hW2 : W1.alloc (.cells #[.string ⟨#[]⟩] 44) = W2 at *
  clear hW2
  generalize hg : W1.heap.size = g at *
  clear hg
  refine pu1_region _ _ _ rfl E g w.heap.size vp vm rfl rfl HV.out.cells ?_
  intro y9 W9 hb9
  replace HW := Kept.mk (HW.out.then_ hb9)
  replace HV := Kept.mk (HV.out.keep hb9)
  replace HB := Kept.mk (HB.out.trans (hb9.mono HB.out.size))
  have hs9 := hb9.size
  clear hb9
  refine (number_z g [] E.val.kind 1 W9 HW.out.at_ (by simp) hkz.1 (by omega) (by omega) (by omega) (by show _ < 256; omega)).mono ?_
  rintro e W3 ⟨rfl, hw⟩
  replace HW := Kept.mk (HW.out.trans hw)
  replace HV := Kept.mk (HV.out.wr hw (by omega))
  replace HB := Kept.mk (HB.out.trans (hw.below (by omega) (by have := HB.out.size; omega)))
  clear hw hs9
  refine ⟨_, rfl, ?_⟩
  simp only [List.foldl_cons, List.foldl_nil]
  generalize y9 13 = z13
  generalize y9 14 = z14
  generalize y9 15 = z15
  generalize y9 16 = z16
  generalize y9 17 = z17
  generalize y9 18 = z18
  generalize y9 19 = z19
  simp only [List.setIfInBounds_toArray, List.set_cons_succ, List.set_cons_zero]
  clear y9
  go_wp2_with fail
  rw [List.nil_append] at HW
  refine pu2_region _ _ _ rfl E g w.heap.size vp vm rfl rfl HV.out.cells ?_
  intro y9 W9 hb9
  replace HW := Kept.mk (HW.out.then_ hb9)
  replace HV := Kept.mk (HV.out.keep hb9)
  replace HB := Kept.mk (HB.out.trans (hb9.mono HB.out.size))
  have hs9 := hb9.size
  clear hb9
  refine (number_z g (putL E.val.kind.toNat 1) (E.key.length : Int) 1 W9 HW.out.at_ (by rw [length_putL]; omega) (by omega) (by omega) (by omega) (by omega) (by show _ < 256; omega)).mono ?_
  rintro e W4 ⟨rfl, hw⟩
  replace HW := Kept.mk (HW.out.trans hw)
  replace HV := Kept.mk (HV.out.wr hw (by omega))
  replace HB := Kept.mk (HB.out.trans (hw.below (by omega) (by have := HB.out.size; omega)))
  clear hw hs9
  refine ⟨_, rfl, ?_⟩
  simp only [List.foldl_cons, List.foldl_nil]
  generalize y9 20 = z20
  generalize y9 21 = z21
  generalize y9 22 = z22
  generalize y9 23 = z23
  generalize y9 24 = z24
  generalize y9 25 = z25
  generalize y9 26 = z26
  simp only [List.setIfInBounds_toArray, List.set_cons_succ, List.set_cons_zero]
  clear y9
  go_wp2_with fail
  refine pu3_region _ _ _ rfl E g w.heap.size vp vm rfl rfl HV.out.cells ?_
  intro y9 W9 hb9
  replace HW := Kept.mk (HW.out.then_ hb9)
  replace HV := Kept.mk (HV.out.keep hb9)
  replace HB := Kept.mk (HB.out.trans (hb9.mono HB.out.size))
  have hs9 := hb9.size
  clear hb9
  refine (add_any g (putL E.val.kind.toNat 1 ++ putL (E.key.length : Int).toNat 1) E.key W9 HW.out.at_ (by simp only [List.length_append, length_putL]; omega) (by omega)).mono ?_
  rintro e W5 ⟨rfl, hw⟩
  replace HW := Kept.mk (HW.out.trans hw)
  replace HV := Kept.mk (HV.out.wr hw (by omega))
  replace HB := Kept.mk (HB.out.trans (hw.below (by omega) (by have := HB.out.size; omega)))
  clear hw hs9
  refine ⟨_, rfl, ?_⟩
  simp only [List.foldl_cons, List.foldl_nil]
  generalize y9 27 = z27
  generalize y9 28 = z28
  generalize y9 29 = z29
  generalize y9 30 = z30
  generalize y9 31 = z31
  generalize y9 32 = z32
  simp only [List.setIfInBounds_toArray, List.set_cons_succ, List.set_cons_zero]
  clear y9
  go_wp2_with fail
  refine (fill_any g ((putL E.val.kind.toNat 1 ++ putL (E.key.length : Int).toNat 1) ++ E.key) 10 W5 HW.out.at_ (by simp only [List.length_append, length_putL]; omega) (by omega)).mono ?_
  rintro e W6 ⟨rfl, hw⟩
  replace HW := Kept.mk (HW.out.trans hw)
  replace HV := Kept.mk (HV.out.wr hw (by omega))
  replace HB := Kept.mk (HB.out.trans (hw.below (by omega) (by have := HB.out.size; omega)))
  clear hw
  have eh : ((putL E.val.kind.toNat 1 ++ putL (E.key.length : Int).toNat 1) ++ E.key) ++ zerosL (10 - ((putL E.val.kind.toNat 1 ++ putL (E.key.length : Int).toNat 1) ++ E.key).length) = headL E := by
    have e1 : 10 - ((putL E.val.kind.toNat 1 ++ putL (E.key.length : Int).toNat 1) ++ E.key).length = 8 - E.key.length := by simp only [List.length_append, length_putL]; omega
    rw [e1]
    unfold headL
    simp only [List.append_assoc, Int.toNat_natCast]
  rw [eh] at HW
  clear eh
  go_wp2_with fail
  refine pk1_region _ _ _ rfl E g w.heap.size vp vm rfl rfl HV.out.cells HK.out ?_
  intro y9 W9 hb9
  replace HW := Kept.mk (HW.out.then_ hb9)
  replace HV := Kept.mk (HV.out.keep hb9)
  replace HB := Kept.mk (HB.out.trans (hb9.mono HB.out.size))
  have hs9 := hb9.size
  clear hb9
  refine (wreg_any E.val g (headL E) _ W9 ⟨vp, vm, rfl, stable_cells _ _ _ _ HP.out HB.out, stable_cells _ _ _ _ HM.out HB.out⟩ HW.out.at_ (by omega) HK.out HI.out).mono ?_
  rintro e W7 ⟨rfl, hw⟩
  replace HW := Kept.mk (HW.out.trans hw)
  replace HV := Kept.mk (HV.out.wr hw (by omega))
  replace HB := Kept.mk (HB.out.trans (hw.below (by omega) (by have := HB.out.size; omega)))
  clear hw hs9
  refine ⟨_, rfl, ?_⟩
  simp only [List.foldl_cons, List.foldl_nil]
  generalize y9 37 = z37
  generalize y9 38 = z38
  generalize y9 39 = z39
  generalize y9 40 = z40
  generalize y9 41 = z41
  generalize y9 42 = z42
  generalize y9 43 = z43
  generalize y9 44 = z44
  generalize y9 45 = z45
  simp only [List.setIfInBounds_toArray, List.set_cons_succ, List.set_cons_zero]
  clear y9
  go_wp2_with fail
  refine (fill_any g (headL E ++ dataL E.val) 42 W7 HW.out.at_ (by rw [List.length_append]; omega) (by omega)).mono ?_
  rintro e W8 ⟨rfl, hw⟩
  replace HW := Kept.mk (HW.out.trans hw)
  replace HV := Kept.mk (HV.out.wr hw (by omega))
  replace HB := Kept.mk (HB.out.trans (hw.below (by omega) (by have := HB.out.size; omega)))
  clear hw
  have eh : (headL E ++ dataL E.val) ++ zerosL (42 - (headL E ++ dataL E.val).length) = putEn E := by
    have e1 : 42 - (headL E ++ dataL E.val).length = 32 - (dataL E.val).length := by rw [List.length_append]; omega
    rw [e1]
    unfold putEn
    rw [List.append_assoc]
  rw [eh] at HW
  clear eh
  have kc := HW.out.at_.cell
  go_wp2
  go_ret2
  refine ⟨?_, HB.out⟩
  have e1 : putF E = putEn E := by unfold putF; rw [HO.out]; rfl
  rw [e1, HC.out]
  rfl
set_option maxRecDepth 100000 in
set_option maxHeartbeats 4000000 in
theorem eput_2 (E : En) (v : Value) (w : World) (hv : isEn E v w) (hF : FitE E) (hok : okE E = true) (hk : E.val.kind = 2) : Calls Tryz.prog 8 #[v] w fun e w' => e = .returned (.tuple #[txt (putF E), .int .i64 (chkE E)]) ∧ Below w.heap.size w w' := by
  have HO := Kept.mk hok
  have HK := Kept.mk hk
  have hl := length_head hok
  have HL := Kept.mk (length_putEn hok)
  have hdl := (length_data_le (show okV E.val = true by unfold okE at hok; rw [Bool.and_eq_true] at hok; exact hok.2)).1
  have hkl : 1 ≤ E.key.length ∧ E.key.length ≤ 8 := by simp only [okE, Bool.and_eq_true, decide_eq_true_eq] at hok; exact hok.1
  have HI := Kept.mk (show inCount E.val = true by unfold okE okV kindN at hok; rw [if_neg (by rw [hk]; decide), if_pos hk] at hok; rw [Bool.and_eq_true] at hok; have h2 := hok.2; split at h2; rename_i h3; rw [Bool.and_eq_true] at h3; exact h3.1; simp at h2)
  have HI2 := Kept.mk (show E.val.plus.length = 8 ∧ E.val.minus.length = 8 by have := HI.out; simp only [inCount, okRow, Bool.and_eq_true, decide_eq_true_eq] at this; exact ⟨this.1.1, this.2.1⟩)
  have hkz : 0 ≤ E.val.kind ∧ E.val.kind ≤ 3 := by omega
  clear hok hk
  obtain ⟨vp, vm, rfl, hp, hm⟩ := hv
  have HB := Kept.mk (lit_below w (.cells #[.string ⟨E.key.toArray⟩, .int .i64 E.val.kind, .int .i64 E.val.time, .int .i64 E.val.node, .bool E.val.dead, .string ⟨E.val.text.toArray⟩, vp, vm, .int .u64 (E.val.flags.toNat : Int)] 27))
  have HV := Kept.mk (Blk.new w 27 [.string ⟨E.key.toArray⟩, .int .i64 E.val.kind, .int .i64 E.val.time, .int .i64 E.val.node, .bool E.val.dead, .string ⟨E.val.text.toArray⟩, vp, vm, .int .u64 (E.val.flags.toNat : Int)] w.heap.size rfl)
  have HP := Kept.mk hp
  have HM := Kept.mk hm
  clear hp hm
  have kv0 := HV.out.cells.2 0 _ rfl
  have kv1 := HV.out.cells.2 1 _ rfl
  have kv2 := HV.out.cells.2 2 _ rfl
  have kv3 := HV.out.cells.2 3 _ rfl
  have kv4 := HV.out.cells.2 4 _ rfl
  have kv5 := HV.out.cells.2 5 _ rfl
  have kv6 := HV.out.cells.2 6 _ rfl
  have kv7 := HV.out.cells.2 7 _ rfl
  have kv8 := HV.out.cells.2 8 _ rfl
  go_enter Tryz.func8, Tryz.ntmps8
  go_wp2_with fail
  clear kv0 kv1 kv2 kv3 kv4 kv5 kv6 kv7 kv8
  generalize w.alloc (.cells #[.string ⟨E.key.toArray⟩, .int .i64 E.val.kind, .int .i64 E.val.time, .int .i64 E.val.node, .bool E.val.dead, .string ⟨E.val.text.toArray⟩, vp, vm, .int .u64 (E.val.flags.toNat : Int)] 27) = W0 at *
  have hs0 := HV.out.lt
  refine (echeck_any E _ W0 ⟨vp, vm, rfl, stable_cells _ _ _ _ HP.out HB.out, stable_cells _ _ _ _ HM.out HB.out⟩ hF).mono ?_
  rintro e W1 ⟨rfl, hb⟩
  replace HV := Kept.mk (HV.out.keep hb)
  replace HB := Kept.mk (HB.out.trans (hb.mono HB.out.size))
  have hs1 := hb.size
  clear hb
  have hC : chkE E = 0 := by unfold chkE; rw [HO.out]; rfl
  rw [hC]
  have HC := Kept.mk hC
  clear hC
  go_wp2_with fail
  have HW := Kept.mk (Wr.refl (show At (W1.alloc (.cells #[.string ⟨#[]⟩] 44)) W1.heap.size (txt []) from (fun b => ⟨b.cells.2 0 _ rfl, b.free 0, b.lt⟩) (Blk.new W1 44 [.string ⟨#[]⟩] W1.heap.size rfl)))
  replace HV := Kept.mk (HV.out.alloc (.cells #[.string ⟨#[]⟩] 44))
  replace HB := Kept.mk (HB.out.alloc HB.out.size (.cells #[.string ⟨#[]⟩] 44))
  generalize hW2 : W1.alloc (.cells #[.string ⟨#[]⟩] 44) = W2 at *
  clear hW2
  generalize hg : W1.heap.size = g at *
  clear hg
  refine pu1_region _ _ _ rfl E g w.heap.size vp vm rfl rfl HV.out.cells ?_
  intro y9 W9 hb9
  replace HW := Kept.mk (HW.out.then_ hb9)
  replace HV := Kept.mk (HV.out.keep hb9)
  replace HB := Kept.mk (HB.out.trans (hb9.mono HB.out.size))
  have hs9 := hb9.size
  clear hb9
  refine (number_z g [] E.val.kind 1 W9 HW.out.at_ (by simp) hkz.1 (by omega) (by omega) (by omega) (by show _ < 256; omega)).mono ?_
  rintro e W3 ⟨rfl, hw⟩
  replace HW := Kept.mk (HW.out.trans hw)
  replace HV := Kept.mk (HV.out.wr hw (by omega))
  replace HB := Kept.mk (HB.out.trans (hw.below (by omega) (by have := HB.out.size; omega)))
  clear hw hs9
  refine ⟨_, rfl, ?_⟩
  simp only [List.foldl_cons, List.foldl_nil]
  generalize y9 13 = z13
  generalize y9 14 = z14
  generalize y9 15 = z15
  generalize y9 16 = z16
  generalize y9 17 = z17
  generalize y9 18 = z18
  generalize y9 19 = z19
  simp only [List.setIfInBounds_toArray, List.set_cons_succ, List.set_cons_zero]
  clear y9
  go_wp2_with fail
  rw [List.nil_append] at HW
  refine pu2_region _ _ _ rfl E g w.heap.size vp vm rfl rfl HV.out.cells ?_
  intro y9 W9 hb9
  replace HW := Kept.mk (HW.out.then_ hb9)
  replace HV := Kept.mk (HV.out.keep hb9)
  replace HB := Kept.mk (HB.out.trans (hb9.mono HB.out.size))
  have hs9 := hb9.size
  clear hb9
  refine (number_z g (putL E.val.kind.toNat 1) (E.key.length : Int) 1 W9 HW.out.at_ (by rw [length_putL]; omega) (by omega) (by omega) (by omega) (by omega) (by show _ < 256; omega)).mono ?_
  rintro e W4 ⟨rfl, hw⟩
  replace HW := Kept.mk (HW.out.trans hw)
  replace HV := Kept.mk (HV.out.wr hw (by omega))
  replace HB := Kept.mk (HB.out.trans (hw.below (by omega) (by have := HB.out.size; omega)))
  clear hw hs9
  refine ⟨_, rfl, ?_⟩
  simp only [List.foldl_cons, List.foldl_nil]
  generalize y9 20 = z20
  generalize y9 21 = z21
  generalize y9 22 = z22
  generalize y9 23 = z23
  generalize y9 24 = z24
  generalize y9 25 = z25
  generalize y9 26 = z26
  simp only [List.setIfInBounds_toArray, List.set_cons_succ, List.set_cons_zero]
  clear y9
  go_wp2_with fail
  refine pu3_region _ _ _ rfl E g w.heap.size vp vm rfl rfl HV.out.cells ?_
  intro y9 W9 hb9
  replace HW := Kept.mk (HW.out.then_ hb9)
  replace HV := Kept.mk (HV.out.keep hb9)
  replace HB := Kept.mk (HB.out.trans (hb9.mono HB.out.size))
  have hs9 := hb9.size
  clear hb9
  refine (add_any g (putL E.val.kind.toNat 1 ++ putL (E.key.length : Int).toNat 1) E.key W9 HW.out.at_ (by simp only [List.length_append, length_putL]; omega) (by omega)).mono ?_
  rintro e W5 ⟨rfl, hw⟩
  replace HW := Kept.mk (HW.out.trans hw)
  replace HV := Kept.mk (HV.out.wr hw (by omega))
  replace HB := Kept.mk (HB.out.trans (hw.below (by omega) (by have := HB.out.size; omega)))
  clear hw hs9
  refine ⟨_, rfl, ?_⟩
  simp only [List.foldl_cons, List.foldl_nil]
  generalize y9 27 = z27
  generalize y9 28 = z28
  generalize y9 29 = z29
  generalize y9 30 = z30
  generalize y9 31 = z31
  generalize y9 32 = z32
  simp only [List.setIfInBounds_toArray, List.set_cons_succ, List.set_cons_zero]
  clear y9
  go_wp2_with fail
  refine (fill_any g ((putL E.val.kind.toNat 1 ++ putL (E.key.length : Int).toNat 1) ++ E.key) 10 W5 HW.out.at_ (by simp only [List.length_append, length_putL]; omega) (by omega)).mono ?_
  rintro e W6 ⟨rfl, hw⟩
  replace HW := Kept.mk (HW.out.trans hw)
  replace HV := Kept.mk (HV.out.wr hw (by omega))
  replace HB := Kept.mk (HB.out.trans (hw.below (by omega) (by have := HB.out.size; omega)))
  clear hw
  have eh : ((putL E.val.kind.toNat 1 ++ putL (E.key.length : Int).toNat 1) ++ E.key) ++ zerosL (10 - ((putL E.val.kind.toNat 1 ++ putL (E.key.length : Int).toNat 1) ++ E.key).length) = headL E := by
    have e1 : 10 - ((putL E.val.kind.toNat 1 ++ putL (E.key.length : Int).toNat 1) ++ E.key).length = 8 - E.key.length := by simp only [List.length_append, length_putL]; omega
    rw [e1]
    unfold headL
    simp only [List.append_assoc, Int.toNat_natCast]
  rw [eh] at HW
  clear eh
  go_wp2_with fail
  refine pk2_region _ _ _ rfl E g w.heap.size vp vm rfl rfl HV.out.cells HK.out ?_
  intro y9 W9 hb9
  replace HW := Kept.mk (HW.out.then_ hb9)
  replace HV := Kept.mk (HV.out.keep hb9)
  replace HB := Kept.mk (HB.out.trans (hb9.mono HB.out.size))
  have hs9 := hb9.size
  clear hb9
  refine (wcount_any E.val g (headL E) vp vm W9 (stable_cells _ _ _ _ HP.out HB.out) (stable_cells _ _ _ _ HM.out HB.out) (old_blk HP.out (by rw [List.length_map, HI2.out.1]; omega) (by omega)) (old_blk HM.out (by rw [List.length_map, HI2.out.2]; omega) (by omega)) HW.out.at_ (by omega) HK.out HI.out).mono ?_
  rintro e W7 ⟨rfl, hw⟩
  replace HW := Kept.mk (HW.out.trans hw)
  replace HV := Kept.mk (HV.out.wr hw (by omega))
  replace HB := Kept.mk (HB.out.trans (hw.below (by omega) (by have := HB.out.size; omega)))
  clear hw hs9
  refine ⟨_, rfl, ?_⟩
  simp only [List.foldl_cons, List.foldl_nil]
  generalize y9 37 = z37
  generalize y9 38 = z38
  generalize y9 39 = z39
  generalize y9 40 = z40
  generalize y9 41 = z41
  generalize y9 42 = z42
  generalize y9 43 = z43
  generalize y9 44 = z44
  generalize y9 45 = z45
  simp only [List.setIfInBounds_toArray, List.set_cons_succ, List.set_cons_zero]
  clear y9
  go_wp2_with fail
  refine (fill_any g (headL E ++ dataL E.val) 42 W7 HW.out.at_ (by rw [List.length_append]; omega) (by omega)).mono ?_
  rintro e W8 ⟨rfl, hw⟩
  replace HW := Kept.mk (HW.out.trans hw)
  replace HV := Kept.mk (HV.out.wr hw (by omega))
  replace HB := Kept.mk (HB.out.trans (hw.below (by omega) (by have := HB.out.size; omega)))
  clear hw
  have eh : (headL E ++ dataL E.val) ++ zerosL (42 - (headL E ++ dataL E.val).length) = putEn E := by
    have e1 : 42 - (headL E ++ dataL E.val).length = 32 - (dataL E.val).length := by rw [List.length_append]; omega
    rw [e1]
    unfold putEn
    rw [List.append_assoc]
  rw [eh] at HW
  clear eh
  have kc := HW.out.at_.cell
  go_wp2
  go_ret2
  refine ⟨?_, HB.out⟩
  have e1 : putF E = putEn E := by unfold putF; rw [HO.out]; rfl
  rw [e1, HC.out]
  rfl
set_option maxRecDepth 100000 in
set_option maxHeartbeats 4000000 in
theorem eput_3 (E : En) (v : Value) (w : World) (hv : isEn E v w) (hF : FitE E) (hok : okE E = true) (hk : E.val.kind = 3) : Calls Tryz.prog 8 #[v] w fun e w' => e = .returned (.tuple #[txt (putF E), .int .i64 (chkE E)]) ∧ Below w.heap.size w w' := by
  have HO := Kept.mk hok
  have HK := Kept.mk hk
  have hl := length_head hok
  have HL := Kept.mk (length_putEn hok)
  have hdl := (length_data_le (show okV E.val = true by unfold okE at hok; rw [Bool.and_eq_true] at hok; exact hok.2)).1
  have hkl : 1 ≤ E.key.length ∧ E.key.length ≤ 8 := by simp only [okE, Bool.and_eq_true, decide_eq_true_eq] at hok; exact hok.1
  have hkz : 0 ≤ E.val.kind ∧ E.val.kind ≤ 3 := by omega
  clear hok hk
  obtain ⟨vp, vm, rfl, hp, hm⟩ := hv
  have HB := Kept.mk (lit_below w (.cells #[.string ⟨E.key.toArray⟩, .int .i64 E.val.kind, .int .i64 E.val.time, .int .i64 E.val.node, .bool E.val.dead, .string ⟨E.val.text.toArray⟩, vp, vm, .int .u64 (E.val.flags.toNat : Int)] 27))
  have HV := Kept.mk (Blk.new w 27 [.string ⟨E.key.toArray⟩, .int .i64 E.val.kind, .int .i64 E.val.time, .int .i64 E.val.node, .bool E.val.dead, .string ⟨E.val.text.toArray⟩, vp, vm, .int .u64 (E.val.flags.toNat : Int)] w.heap.size rfl)
  have HP := Kept.mk hp
  have HM := Kept.mk hm
  clear hp hm
  have kv0 := HV.out.cells.2 0 _ rfl
  have kv1 := HV.out.cells.2 1 _ rfl
  have kv2 := HV.out.cells.2 2 _ rfl
  have kv3 := HV.out.cells.2 3 _ rfl
  have kv4 := HV.out.cells.2 4 _ rfl
  have kv5 := HV.out.cells.2 5 _ rfl
  have kv6 := HV.out.cells.2 6 _ rfl
  have kv7 := HV.out.cells.2 7 _ rfl
  have kv8 := HV.out.cells.2 8 _ rfl
  go_enter Tryz.func8, Tryz.ntmps8
  go_wp2_with fail
  clear kv0 kv1 kv2 kv3 kv4 kv5 kv6 kv7 kv8
  generalize w.alloc (.cells #[.string ⟨E.key.toArray⟩, .int .i64 E.val.kind, .int .i64 E.val.time, .int .i64 E.val.node, .bool E.val.dead, .string ⟨E.val.text.toArray⟩, vp, vm, .int .u64 (E.val.flags.toNat : Int)] 27) = W0 at *
  have hs0 := HV.out.lt
  refine (echeck_any E _ W0 ⟨vp, vm, rfl, stable_cells _ _ _ _ HP.out HB.out, stable_cells _ _ _ _ HM.out HB.out⟩ hF).mono ?_
  rintro e W1 ⟨rfl, hb⟩
  replace HV := Kept.mk (HV.out.keep hb)
  replace HB := Kept.mk (HB.out.trans (hb.mono HB.out.size))
  have hs1 := hb.size
  clear hb
  have hC : chkE E = 0 := by unfold chkE; rw [HO.out]; rfl
  rw [hC]
  have HC := Kept.mk hC
  clear hC
  go_wp2_with fail
  have HW := Kept.mk (Wr.refl (show At (W1.alloc (.cells #[.string ⟨#[]⟩] 44)) W1.heap.size (txt []) from (fun b => ⟨b.cells.2 0 _ rfl, b.free 0, b.lt⟩) (Blk.new W1 44 [.string ⟨#[]⟩] W1.heap.size rfl)))
  replace HV := Kept.mk (HV.out.alloc (.cells #[.string ⟨#[]⟩] 44))
  replace HB := Kept.mk (HB.out.alloc HB.out.size (.cells #[.string ⟨#[]⟩] 44))
  generalize hW2 : W1.alloc (.cells #[.string ⟨#[]⟩] 44) = W2 at *
  clear hW2
  generalize hg : W1.heap.size = g at *
  clear hg
  refine pu1_region _ _ _ rfl E g w.heap.size vp vm rfl rfl HV.out.cells ?_
  intro y9 W9 hb9
  replace HW := Kept.mk (HW.out.then_ hb9)
  replace HV := Kept.mk (HV.out.keep hb9)
  replace HB := Kept.mk (HB.out.trans (hb9.mono HB.out.size))
  have hs9 := hb9.size
  clear hb9
  refine (number_z g [] E.val.kind 1 W9 HW.out.at_ (by simp) hkz.1 (by omega) (by omega) (by omega) (by show _ < 256; omega)).mono ?_
  rintro e W3 ⟨rfl, hw⟩
  replace HW := Kept.mk (HW.out.trans hw)
  replace HV := Kept.mk (HV.out.wr hw (by omega))
  replace HB := Kept.mk (HB.out.trans (hw.below (by omega) (by have := HB.out.size; omega)))
  clear hw hs9
  refine ⟨_, rfl, ?_⟩
  simp only [List.foldl_cons, List.foldl_nil]
  generalize y9 13 = z13
  generalize y9 14 = z14
  generalize y9 15 = z15
  generalize y9 16 = z16
  generalize y9 17 = z17
  generalize y9 18 = z18
  generalize y9 19 = z19
  simp only [List.setIfInBounds_toArray, List.set_cons_succ, List.set_cons_zero]
  clear y9
  go_wp2_with fail
  rw [List.nil_append] at HW
  refine pu2_region _ _ _ rfl E g w.heap.size vp vm rfl rfl HV.out.cells ?_
  intro y9 W9 hb9
  replace HW := Kept.mk (HW.out.then_ hb9)
  replace HV := Kept.mk (HV.out.keep hb9)
  replace HB := Kept.mk (HB.out.trans (hb9.mono HB.out.size))
  have hs9 := hb9.size
  clear hb9
  refine (number_z g (putL E.val.kind.toNat 1) (E.key.length : Int) 1 W9 HW.out.at_ (by rw [length_putL]; omega) (by omega) (by omega) (by omega) (by omega) (by show _ < 256; omega)).mono ?_
  rintro e W4 ⟨rfl, hw⟩
  replace HW := Kept.mk (HW.out.trans hw)
  replace HV := Kept.mk (HV.out.wr hw (by omega))
  replace HB := Kept.mk (HB.out.trans (hw.below (by omega) (by have := HB.out.size; omega)))
  clear hw hs9
  refine ⟨_, rfl, ?_⟩
  simp only [List.foldl_cons, List.foldl_nil]
  generalize y9 20 = z20
  generalize y9 21 = z21
  generalize y9 22 = z22
  generalize y9 23 = z23
  generalize y9 24 = z24
  generalize y9 25 = z25
  generalize y9 26 = z26
  simp only [List.setIfInBounds_toArray, List.set_cons_succ, List.set_cons_zero]
  clear y9
  go_wp2_with fail
  refine pu3_region _ _ _ rfl E g w.heap.size vp vm rfl rfl HV.out.cells ?_
  intro y9 W9 hb9
  replace HW := Kept.mk (HW.out.then_ hb9)
  replace HV := Kept.mk (HV.out.keep hb9)
  replace HB := Kept.mk (HB.out.trans (hb9.mono HB.out.size))
  have hs9 := hb9.size
  clear hb9
  refine (add_any g (putL E.val.kind.toNat 1 ++ putL (E.key.length : Int).toNat 1) E.key W9 HW.out.at_ (by simp only [List.length_append, length_putL]; omega) (by omega)).mono ?_
  rintro e W5 ⟨rfl, hw⟩
  replace HW := Kept.mk (HW.out.trans hw)
  replace HV := Kept.mk (HV.out.wr hw (by omega))
  replace HB := Kept.mk (HB.out.trans (hw.below (by omega) (by have := HB.out.size; omega)))
  clear hw hs9
  refine ⟨_, rfl, ?_⟩
  simp only [List.foldl_cons, List.foldl_nil]
  generalize y9 27 = z27
  generalize y9 28 = z28
  generalize y9 29 = z29
  generalize y9 30 = z30
  generalize y9 31 = z31
  generalize y9 32 = z32
  simp only [List.setIfInBounds_toArray, List.set_cons_succ, List.set_cons_zero]
  clear y9
  go_wp2_with fail
  refine (fill_any g ((putL E.val.kind.toNat 1 ++ putL (E.key.length : Int).toNat 1) ++ E.key) 10 W5 HW.out.at_ (by simp only [List.length_append, length_putL]; omega) (by omega)).mono ?_
  rintro e W6 ⟨rfl, hw⟩
  replace HW := Kept.mk (HW.out.trans hw)
  replace HV := Kept.mk (HV.out.wr hw (by omega))
  replace HB := Kept.mk (HB.out.trans (hw.below (by omega) (by have := HB.out.size; omega)))
  clear hw
  have eh : ((putL E.val.kind.toNat 1 ++ putL (E.key.length : Int).toNat 1) ++ E.key) ++ zerosL (10 - ((putL E.val.kind.toNat 1 ++ putL (E.key.length : Int).toNat 1) ++ E.key).length) = headL E := by
    have e1 : 10 - ((putL E.val.kind.toNat 1 ++ putL (E.key.length : Int).toNat 1) ++ E.key).length = 8 - E.key.length := by simp only [List.length_append, length_putL]; omega
    rw [e1]
    unfold headL
    simp only [List.append_assoc, Int.toNat_natCast]
  rw [eh] at HW
  clear eh
  go_wp2_with fail
  refine pk3_region _ _ _ rfl E g w.heap.size vp vm rfl rfl HV.out.cells HK.out ?_
  intro y9 W9 hb9
  replace HW := Kept.mk (HW.out.then_ hb9)
  replace HV := Kept.mk (HV.out.keep hb9)
  replace HB := Kept.mk (HB.out.trans (hb9.mono HB.out.size))
  have hs9 := hb9.size
  clear hb9
  refine (wflags_any E.val g (headL E) _ W9 ⟨vp, vm, rfl, stable_cells _ _ _ _ HP.out HB.out, stable_cells _ _ _ _ HM.out HB.out⟩ HW.out.at_ (by omega) HK.out).mono ?_
  rintro e W7 ⟨rfl, hw⟩
  replace HW := Kept.mk (HW.out.trans hw)
  replace HV := Kept.mk (HV.out.wr hw (by omega))
  replace HB := Kept.mk (HB.out.trans (hw.below (by omega) (by have := HB.out.size; omega)))
  clear hw hs9
  refine ⟨_, rfl, ?_⟩
  simp only [List.foldl_cons, List.foldl_nil]
  generalize y9 37 = z37
  generalize y9 38 = z38
  generalize y9 39 = z39
  generalize y9 40 = z40
  generalize y9 41 = z41
  generalize y9 42 = z42
  generalize y9 43 = z43
  generalize y9 44 = z44
  generalize y9 45 = z45
  simp only [List.setIfInBounds_toArray, List.set_cons_succ, List.set_cons_zero]
  clear y9
  go_wp2_with fail
  refine (fill_any g (headL E ++ dataL E.val) 42 W7 HW.out.at_ (by rw [List.length_append]; omega) (by omega)).mono ?_
  rintro e W8 ⟨rfl, hw⟩
  replace HW := Kept.mk (HW.out.trans hw)
  replace HV := Kept.mk (HV.out.wr hw (by omega))
  replace HB := Kept.mk (HB.out.trans (hw.below (by omega) (by have := HB.out.size; omega)))
  clear hw
  have eh : (headL E ++ dataL E.val) ++ zerosL (42 - (headL E ++ dataL E.val).length) = putEn E := by
    have e1 : 42 - (headL E ++ dataL E.val).length = 32 - (dataL E.val).length := by rw [List.length_append]; omega
    rw [e1]
    unfold putEn
    rw [List.append_assoc]
  rw [eh] at HW
  clear eh
  have kc := HW.out.at_.cell
  go_wp2
  go_ret2
  refine ⟨?_, HB.out⟩
  have e1 : putF E = putEn E := by unfold putF; rw [HO.out]; rfl
  rw [e1, HC.out]
  rfl
theorem eput_any (E : En) (v : Value) (w : World) (hv : isEn E v w) (hF : FitE E) : Calls Tryz.prog 8 #[v] w fun e w' => e = .returned (.tuple #[txt (putF E), .int .i64 (chkE E)]) ∧ Below w.heap.size w w' := by
  cases hok : okE E with
  | false => exact eput_bad E v w hv hF hok
  | true =>
    have hk := kind_lt (show okV E.val = true by unfold okE at hok; rw [Bool.and_eq_true] at hok; exact hok.2)
    have h : E.val.kind = 1 ∨ E.val.kind = 2 ∨ E.val.kind = 3 := by omega
    rcases h with h | h | h
    · exact eput_1 E v w hv hF hok h
    · exact eput_2 E v w hv hF hok h
    · exact eput_3 E v w hv hF hok h
end Go.Proofs.YtebjljiklacolaaGreat
end
section
namespace Go.Proofs.YtebjljiklacolaaGreat
open Go.RowKit
set_option linter.unusedVariables false
set_option linter.unusedSimpArgs false
attribute [local irreducible] setN

theorem rd_fit {k : Nat} {l r : List UInt8} {A : Va} (h : rdVal k l = some (A, r)) (hl : l.length ≤ 1000) : Fit A ∧ r.length ≤ l.length := by
  unfold rdVal at h
  split at h
  · split at h
    · injection h with h; injection h with h1 h2; subst h1 h2
      refine ⟨⟨?_, ?_, ?_⟩, ?_⟩
      · show (List.take _ _).length ≤ _
        simp only [List.length_take, List.length_drop]; omega
      · show 0 ≤ _; omega
      · show 0 ≤ _; omega
      · simp only [regR, regS, List.length_drop]; omega
    · cases h
  · split at h
    · injection h with h; injection h with h1 h2; subst h1 h2
      refine ⟨⟨?_, ?_, ?_⟩, ?_⟩
      · show 0 ≤ _; omega
      · show (numsOf 8 l).length ≤ _; rw [length_numsOf]; omega
      · show (numsOf 8 (restOf 8 l)).length ≤ _; rw [length_numsOf]; omega
      · rw [length_rest, length_rest]; omega
    · split at h
      · injection h with h; injection h with h1 h2; subst h1 h2
        refine ⟨⟨?_, ?_, ?_⟩, ?_⟩
        · show 0 ≤ _; omega
        · show 0 ≤ _; omega
        · show 0 ≤ _; omega
        · simp only [List.length_drop]; omega
      · cases h
theorem VarE.wr {W W' : World} {b g : Nat} {A : Va} {vp vm x : Value} (h : VarE W b A vp vm) (k : Wr g x W W') (hne : b ≠ g) (hp : blk vp ≠ some g) (hm : blk vm ≠ some g) : VarE W' b A vp vm :=
  ⟨⟨Nat.lt_of_lt_of_le h.1.1 k.size, fun j x hx => (k.cell (p := ⟨b, j, none⟩) h.1.1 hne).trans (h.1.2 j x hx)⟩, h.2.1.wr k hp, h.2.2.wr k hm⟩
theorem rd_len {s : List UInt8} (h : ¬ s.length = 42) : rdEn s = none := by unfold rdEn; rw [if_neg (fun k => h k.1)]
theorem rd_pad {s : List UInt8} (h : ¬ padOk (keyZ s) 8 (keyS s)) : rdEn s = none := by unfold rdEn; rw [if_neg (fun k => h k.2)]
theorem rd_val {s : List UInt8} (h : rdVal (getN (s.take 1)) (valS s) = none) : rdEn s = none := by
  unfold rdEn
  split
  · rw [h]
  · rfl
theorem rd_some {s r : List UInt8} {A : Va} (h1 : s.length = 42) (h2 : padOk (keyZ s) 8 (keyS s)) (h : rdVal (getN (s.take 1)) (valS s) = some (A, r)) : rdEn s = if r = zerosL r.length ∧ okE ⟨keyOf s, A⟩ = true then some ⟨keyOf s, A⟩ else none := by
  unfold rdEn
  rw [if_pos ⟨h1, h2⟩, h]
set_option maxRecDepth 100000 in
set_option maxHeartbeats 4000000 in
theorem read_any (s : List UInt8) (w : World) (hs : s.length ≤ 1000) :
    Calls Tryz.prog 35 #[.string ⟨s.toArray⟩] w fun e w' => (∃ E, rdEn s = some E ∧ (∃ v', e = .returned v' ∧ isEnN w.heap.size E v' w') ∧ Below w.heap.size w w') ∨ (rdEn s = none ∧ e = Gave ∧ Below w.heap.size w w') := by
  have hl : (⟨s.toArray⟩ : ByteArray).size = s.length := by simp [ByteArray.size]
  have hb0 := Kept.mk ((lit_below w (.cells #[.string ⟨#[]⟩, .int .i64 0, .int .i64 0, .int .i64 0, .bool false, .string ⟨#[]⟩, .slice none 0 0, .slice none 0 0, .int .u64 0] 27)).trans ((lit_below (w.alloc (.cells #[.string ⟨#[]⟩, .int .i64 0, .int .i64 0, .int .i64 0, .bool false, .string ⟨#[]⟩, .slice none 0 0, .slice none 0 0, .int .u64 0] 27)) (.cells #[.string ⟨s.toArray⟩] 76)).mono (lit_below w (.cells #[.string ⟨#[]⟩, .int .i64 0, .int .i64 0, .int .i64 0, .bool false, .string ⟨#[]⟩, .slice none 0 0, .slice none 0 0, .int .u64 0] 27)).size))
  have HR := Kept.mk ((Blk.new w 27 [.string ⟨#[]⟩, .int .i64 0, .int .i64 0, .int .i64 0, .bool false, .string ⟨#[]⟩, .slice none 0 0, .slice none 0 0, .int .u64 0] w.heap.size rfl).alloc (.cells #[.string ⟨s.toArray⟩] 76))
  have HA := Kept.mk (show At ((w.alloc (.cells #[.string ⟨#[]⟩, .int .i64 0, .int .i64 0, .int .i64 0, .bool false, .string ⟨#[]⟩, .slice none 0 0, .slice none 0 0, .int .u64 0] 27)).alloc (.cells #[.string ⟨s.toArray⟩] 76)) (w.heap.size + 1) (txt s) from (fun b => ⟨b.cells.2 0 _ rfl, b.free 0, b.lt⟩) (Blk.new (w.alloc (.cells #[.string ⟨#[]⟩, .int .i64 0, .int .i64 0, .int .i64 0, .bool false, .string ⟨#[]⟩, .slice none 0 0, .slice none 0 0, .int .u64 0] 27)) 76 [.string ⟨s.toArray⟩] (w.heap.size + 1) (by simp)))
  have HW := Kept.mk (Wr.refl HA.out)
  clear HA
  go_enter Tryz.func35, Tryz.ntmps35
  go_wp2_with fail
  by_cases h42 : s.length = 42
  · refine (insist_yes _ (by simp; omega) _).mono ?_
    rintro e w9 ⟨rfl, rfl⟩
    go_wp2_with fail
    generalize hW0 : ((w.alloc (.cells #[.string ⟨#[]⟩, .int .i64 0, .int .i64 0, .int .i64 0, .bool false, .string ⟨#[]⟩, .slice none 0 0, .slice none 0 0, .int .u64 0] 27)).alloc (.cells #[.string ⟨s.toArray⟩] 76)) = W0 at *
    have hs0 : W0.heap.size = w.heap.size + 2 := by rw [← hW0]; simp
    clear hW0
    refine (rnumber_any (w.heap.size + 1) s 1 W0 HW.out.at_ (by omega) (by omega) (by omega) (by omega)).mono ?_
    rintro e W1 ⟨rfl, hw⟩
    replace HR := Kept.mk (HR.out.wr hw (by omega))
    replace HW := Kept.mk (HW.out.trans hw)
    clear hw
    generalize hK : getN (s.take 1) = kd
    have HK := Kept.mk hK
    clear hK
    go_wp2_with fail
    refine (rnumber_any (w.heap.size + 1) (s.drop 1) 1 W1 HW.out.at_ (by omega) (by omega) (by rw [List.length_drop]; omega) (by rw [List.length_drop]; omega)).mono ?_
    rintro e W2 ⟨rfl, hw⟩
    replace HR := Kept.mk (HR.out.wr hw (by omega))
    replace HW := Kept.mk (HW.out.trans hw)
    clear hw
    have hz : getN ((s.drop 1).take 1) < 256 := by have := getN_lt ((s.drop 1).take 1); rw [List.length_take, Nat.min_eq_left (by rw [List.length_drop]; omega)] at this; exact this
    generalize hZ : getN ((s.drop 1).take 1) = z at hz ⊢
    have HZ := Kept.mk hZ
    clear hZ
    go_wp2_with fail
    refine (padded_any (w.heap.size + 1) ((s.drop 1).drop 1) z W2 HW.out.at_ (by simp only [List.length_drop]; omega) (by simp only [List.length_drop]; omega) (by omega)).mono ?_
    rintro e W3 (⟨hp, rfl, hw⟩ | ⟨hp, rfl, x, hw⟩)
    · replace HR := Kept.mk (HR.out.wr hw (by omega))
      replace HW := Kept.mk (HW.out.trans hw)
      have hp8 := hp.1
      have HP := Kept.mk hp
      clear hw hp
      generalize hX : ((s.drop 1).drop 1).take z = key
      have HX := Kept.mk hX
      have hkl : key.length ≤ 42 := by rw [← hX]; simp only [List.length_take, List.length_drop]; omega
      clear hX
      go_wp2_with fail
      generalize hS : (((s.drop 1).drop 1).drop z).drop (8 - z) = sv at *
      have hsv : sv.length = 32 := by rw [← hS]; simp only [List.length_drop]; omega
      have HS := Kept.mk hS
      clear hS
      have hs3 := HW.out.size
      refine (rval_any (w.heap.size + 1) sv kd W3 HW.out.at_ (by omega) (by omega)).mono ?_
      rintro e U (⟨A, r, hr, ⟨v', rfl, p', m', rfl, hp', hm', np, nm⟩, hw⟩ | ⟨hr, rfl, x, hw⟩)
      · replace HR := Kept.mk (HR.out.wr hw (by omega))
        replace HW := Kept.mk (HW.out.trans hw)
        obtain ⟨hFit, hrl⟩ := rd_fit hr (by omega)
        have HRD := Kept.mk hr
        have hsU := hw.size
        clear hw hr
        obtain ⟨K1, K2, K3, K4, K5⟩ := vnew U A p' m' hp' hm' U.heap.size rfl
        clear hp' hm'
        have NP := Kept.mk np
        have NM := Kept.mk nm
        clear np nm
        replace HR := Kept.mk (HR.out.keep K3.out)
        replace HW := Kept.mk (HW.out.then_ K3.out)
        have hs4 := K3.out.size
        have kr := HW.out.at_.cell
        have hlr : (⟨r.toArray⟩ : ByteArray).size = r.length := by simp [ByteArray.size]
        have hlv := K4.out.1.1
        go_wp2_with (have hz0 := K1; refine wpList_storeN 25 rfl (.tmp 7) (.tmp 25) rfl U.heap.size [.int .i64 A.kind, .int .i64 A.time, .int .i64 A.node, .bool A.dead, .string ⟨A.text.toArray⟩, p', m', .int .u64 (A.flags.toNat : Int)] size_va rfl rfl K1.out rfl K2.out K5.out ?_; clear hz0 K1 K2 K3 K5; generalize setN (U.alloc (.cells #[.int .i64 0, .int .i64 0, .int .i64 0, .bool false, .string ⟨#[]⟩, .slice none 0 0, .slice none 0 0, .int .u64 0] 25)) U.heap.size 0 [.int .i64 A.kind, .int .i64 A.time, .int .i64 A.node, .bool A.dead, .string ⟨A.text.toArray⟩, p', m', .int .u64 (A.flags.toNat : Int)] = W4 at *)
        refine (skip_any (w.heap.size + 1) r r.length W4 HW.out.at_ (Nat.le_refl _) (by omega)).mono ?_
        rw [List.take_length, List.drop_length]
        rintro e W5 (⟨hrz, rfl, hw⟩ | ⟨hrz, rfl, x, hw⟩)
        · have HV := Kept.mk (K4.out.wr hw (by omega) (NP.out.ne (by omega)) (NM.out.ne (by omega)))
          have hs5 := hw.size
          replace HR := Kept.mk (HR.out.wr hw (by omega))
          replace HW := Kept.mk (HW.out.trans hw)
          have HZR := Kept.mk hrz
          clear hw hrz K4 kr hlr
          have kv0 := HV.out.1.2 0 _ rfl
          have kv1 := HV.out.1.2 1 _ rfl
          have kv2 := HV.out.1.2 2 _ rfl
          have kv3 := HV.out.1.2 3 _ rfl
          have kv4 := HV.out.1.2 4 _ rfl
          have kv5 := HV.out.1.2 5 _ rfl
          have kv6 := HV.out.1.2 6 _ rfl
          have kv7 := HV.out.1.2 7 _ rfl
          obtain ⟨K1, K2, K3, K4, K5⟩ := enew W5 ⟨key, A⟩ p' m' HV.out.2.1 HV.out.2.2 W5.heap.size rfl
          replace HR := Kept.mk (HR.out.keep K3.out)
          replace HW := Kept.mk (HW.out.then_ K3.out)
          have hs6 := K3.out.size
          have hlv5 := HV.out.1.1
          replace HV := Kept.mk (show VarE _ U.heap.size A p' m' from ⟨HV.out.1.keep K3.out hlv5, stable_cells _ _ _ _ HV.out.2.1 K3.out, stable_cells _ _ _ _ HV.out.2.2 K3.out⟩)
          go_wp2_with (have hz0 := K1; refine wpList_storeN 27 rfl (.tmp 8) (.tmp 35) rfl W5.heap.size [.string ⟨key.toArray⟩, .int .i64 A.kind, .int .i64 A.time, .int .i64 A.node, .bool A.dead, .string ⟨A.text.toArray⟩, p', m', .int .u64 (A.flags.toNat : Int)] size_en rfl rfl K1.out rfl K2.out K5.out ?_; clear hz0 K1 K2 K3 K5 kv0 kv1 kv2 kv3 kv4 kv5 kv6 kv7; generalize setN (W5.alloc (.cells #[.string ⟨#[]⟩, .int .i64 0, .int .i64 0, .int .i64 0, .bool false, .string ⟨#[]⟩, .slice none 0 0, .slice none 0 0, .int .u64 0] 27)) W5.heap.size 0 [.string ⟨key.toArray⟩, .int .i64 A.kind, .int .i64 A.time, .int .i64 A.node, .bool A.dead, .string ⟨A.text.toArray⟩, p', m', .int .u64 (A.flags.toNat : Int)] = W6 at *; have ke0 := K4.out.1.2 0 _ rfl; have ke1 := K4.out.1.2 1 _ rfl; have ke2 := K4.out.1.2 2 _ rfl; have ke3 := K4.out.1.2 3 _ rfl; have ke4 := K4.out.1.2 4 _ rfl; have ke5 := K4.out.1.2 5 _ rfl; have ke6 := K4.out.1.2 6 _ rfl; have ke7 := K4.out.1.2 7 _ rfl; have ke8 := K4.out.1.2 8 _ rfl)
          refine (echeck_any ⟨key, A⟩ _ W6 ⟨_, _, rfl, K4.out.2.1, K4.out.2.2⟩ ⟨by show key.length ≤ _; omega, hFit⟩).mono ?_
          rintro e W7 ⟨rfl, hb⟩
          clear ke0 ke1 ke2 ke3 ke4 ke5 ke6 ke7 ke8
          replace HR := Kept.mk (HR.out.keep hb)
          replace HW := Kept.mk (HW.out.then_ hb)
          have hlt := K4.out.1.1
          have hs7 := hb.size
          have K6 := Kept.mk (K4.out.1.keep hb hlt)
          have HP7 := Kept.mk (stable_cells _ _ _ _ K4.out.2.1 hb)
          have HM7 := Kept.mk (stable_cells _ _ _ _ K4.out.2.2 hb)
          clear hb K4 HV
          have hbw := Kept.mk (hb0.out.trans (HW.out.below (by omega) (by omega)))
          generalize hC : chkE ⟨key, A⟩ = ce
          have HC := Kept.mk hC
          clear hC
          go_wp2_with fail
          by_cases hce : ce = 0
          · refine (insist_yes _ (by simpa using hce) _).mono ?_
            rintro e w9 ⟨rfl, rfl⟩
            have HCE := Kept.mk hce
            clear hce
            obtain ⟨Q1, Q2, Q3, Q4, Q5⟩ := eset ⟨key, A⟩ p' m' (g := w.heap.size) (Nat.le_refl _) hbw.out HR.out.cells rfl HP7.out HM7.out (NP.out.ne (by omega)) (NM.out.ne (by omega))
            have NP' := Kept.mk (NP.out.low (B' := w.heap.size) (by omega))
            have NM' := Kept.mk (NM.out.low (B' := w.heap.size) (by omega))
            have ke0 := K6.out.2 0 _ rfl
            have ke1 := K6.out.2 1 _ rfl
            have ke2 := K6.out.2 2 _ rfl
            have ke3 := K6.out.2 3 _ rfl
            have ke4 := K6.out.2 4 _ rfl
            have ke5 := K6.out.2 5 _ rfl
            have ke6 := K6.out.2 6 _ rfl
            have ke7 := K6.out.2 7 _ rfl
            have ke8 := K6.out.2 8 _ rfl
            clear NP NM HP7 HM7 HW K6
            go_wp2_with (refine wpList_storeN 27 rfl (.tmp 2) (.tmp 40) rfl w.heap.size [.string ⟨key.toArray⟩, .int .i64 A.kind, .int .i64 A.time, .int .i64 A.node, .bool A.dead, .string ⟨A.text.toArray⟩, p', m', .int .u64 (A.flags.toNat : Int)] size_en rfl rfl HR.out.cells rfl HR.out.free Q5.out ?_)
            refine bodyPost_ret (resultsN1 rfl _ _ w.heap.size _ size_en agg_en rfl Q2.out) rfl (.inl ⟨⟨key, A⟩, ?_, ⟨_, rfl, ⟨_, _, rfl, Q3.out, Q4.out, NP'.out, NM'.out⟩⟩, Q1.out⟩)
            have hkey : keyOf s = key := by unfold keyOf keyS keyZ; rw [HZ.out, HX.out]
            rw [rd_some h42 (by unfold keyZ keyS; rw [HZ.out]; exact HP.out) (by rw [HK.out]; unfold valS keyZ keyS; rw [HZ.out, HS.out]; exact HRD.out)]; rw [hkey, if_pos ⟨HZR.out, by have := HC.out; rw [HCE.out] at this; unfold chkE at this; split at this; assumption; cases this⟩]
          · refine (insist_no _ (by simpa using hce) _).mono ?_
            rintro e w9 ⟨rfl, rfl⟩
            have HCE := Kept.mk hce
            clear hce
            go_wp2
            refine ⟨rfl, .inr ⟨?_, rfl, hbw.out⟩⟩
            have hkey : keyOf s = key := by unfold keyOf keyS keyZ; rw [HZ.out, HX.out]
            rw [rd_some h42 (by unfold keyZ keyS; rw [HZ.out]; exact HP.out) (by rw [HK.out]; unfold valS keyZ keyS; rw [HZ.out, HS.out]; exact HRD.out)]; rw [hkey, if_neg (fun k => HCE.out (by rw [← HC.out]; unfold chkE; rw [if_pos k.2]))]
        · replace HR := Kept.mk (HR.out.wr hw (by omega))
          replace HW := Kept.mk (HW.out.trans hw)
          have HZR := Kept.mk hrz
          clear hw hrz
          go_wp2
          exact ⟨rfl, .inr ⟨by rw [rd_some h42 (by unfold keyZ keyS; rw [HZ.out]; exact HP.out) (by rw [HK.out]; unfold valS keyZ keyS; rw [HZ.out, HS.out]; exact HRD.out), if_neg (fun k => HZR.out k.1)], rfl, hb0.out.trans (HW.out.below (by omega) (by omega))⟩⟩
      · replace HR := Kept.mk (HR.out.wr hw (by omega))
        replace HW := Kept.mk (HW.out.trans hw)
        have HRD := Kept.mk hr
        clear hw hr
        go_wp2
        exact ⟨rfl, .inr ⟨rd_val (by rw [HK.out]; unfold valS keyZ keyS; rw [HZ.out, HS.out]; exact HRD.out), rfl, hb0.out.trans (HW.out.below (by omega) (by omega))⟩⟩
    · replace HR := Kept.mk (HR.out.wr hw (by omega))
      replace HW := Kept.mk (HW.out.trans hw)
      have HP := Kept.mk hp
      clear hw hp
      go_wp2
      exact ⟨rfl, .inr ⟨rd_pad (by unfold keyZ keyS; rw [HZ.out]; exact HP.out), rfl, hb0.out.trans (HW.out.below (by omega) (by omega))⟩⟩
  · refine (insist_no _ (by simp; omega) _).mono ?_
    rintro e w9 ⟨rfl, rfl⟩
    go_wp2
    exact ⟨rfl, .inr ⟨rd_len h42, rfl, lit_below _ _⟩⟩
end Go.Proofs.YtebjljiklacolaaGreat
end
section
namespace Go.Proofs.YtebjljiklacolaaGreat
open Go.RowKit
set_option linter.unusedVariables false
set_option linter.unusedSimpArgs false
attribute [local irreducible] setN

set_option maxRecDepth 100000 in
set_option maxHeartbeats 4000000 in
theorem catch_gave (ge gn : Nat) (old : List Value) (x : Value) (older : List PanicEntry) (w : World) (h9 : old.length = 9) (hE : Blk w ge old) (hN : Blk w gn [x]) (hne : gn ≠ ge) :
    CallsD Tryz.prog 34 #[ptr ge, ptr gn] (.panicking ({ v := .iface 30 (.int .i64 2), recovered := false } :: older)) w fun e u' w' =>
      e = .returned (.tuple #[]) ∧ u' = .panicking ({ v := .iface 30 (.int .i64 2), recovered := true } :: older) ∧ w' = (setN w ge 0 [.string ⟨#[]⟩, .int .i64 0, .int .i64 0, .int .i64 0, .bool false, .string ⟨#[]⟩, .slice none 0 0, .slice none 0 0, .int .u64 0]).setCell ⟨gn, 0, none⟩ (.int .i64 2) := by
  refine callsD_of_wpS Tryz.func34 rfl fun c₀ cs hu => ?_
  apply wpS_seq
  apply wpS_region
  simp [wpOpsS, go_sem, recoverD, hu, Tryz.ntmps34, Exit.thenS]
  refine wpS_cond (t := true) (by simp [Act.eval, Array.replicate]) ?_
  simp only [if_true]
  have K5 : Kept (Ones [.string ⟨#[]⟩, .int .i64 0, .int .i64 0, .int .i64 0, .bool false, .string ⟨#[]⟩, .slice none 0 0, .slice none 0 0, .int .u64 0]) := ⟨⟨rfl, rfl, rfl, rfl, rfl, rfl, rfl, rfl, rfl, trivial⟩⟩
  have HN := (hN.apartN hne 0 [.string ⟨#[]⟩, .int .i64 0, .int .i64 0, .int .i64 0, .bool false, .string ⟨#[]⟩, .slice none 0 0, .slice none 0 0, .int .u64 0])
  have kn := HN.cells.2 0 _ rfl
  have fn := HN.free 0
  refine wpS_of_wp ?_
  go_wp2_with (refine wpList_storeN 27 rfl (.tmp 0) (.tmp 4) rfl ge [.string ⟨#[]⟩, .int .i64 0, .int .i64 0, .int .i64 0, .bool false, .string ⟨#[]⟩, .slice none 0 0, .slice none 0 0, .int .u64 0] size_en rfl rfl hE.cells h9 hE.free K5.out ?_)
  exact ⟨rfl, _, rfl, _, results_none rfl _ _ _, rfl, rfl, rfl⟩
set_option maxRecDepth 100000 in
set_option maxHeartbeats 4000000 in
theorem catch_idle (p q : Value) (w : World) :
    CallsD Tryz.prog 34 #[p, q] .returning w fun e u' w' => e = .returned (.tuple #[]) ∧ u' = .returning ∧ w' = w := by
  refine callsD_of_wpS Tryz.func34 rfl fun c₀ cs hu => ?_
  apply wpS_seq
  apply wpS_region
  simp [wpOpsS, go_sem, recoverD, hu, Tryz.ntmps34, Exit.thenS]
  refine wpS_cond (t := false) (by simp [Act.eval, Array.replicate]) ?_
  simp only [Bool.false_eq_true, if_false]
  refine wpS_of_wp (wp_skip ?_)
  cases c₀
  simp_all [bodyPostS, results, Tryz.results34]
theorem results_cells {P : Program} {fn : Func} {p q : Tmp} {t u : TypeId} (h : fn.results = #[.cell p t, .cell q u]) (tmps : Array Value) (w : World) (g b : Nat) (l : List Value) (x : Value) (hs : (P.info? t).map (·.size) = some l.length) (ha : ∀ w, (isAgg t).run P w = .ok true w) (hb : ∀ w, (isAgg u).run P w = .ok false w)
    (hp : tmps.getD p undef = .pointer (some ⟨g, 0, none⟩)) (hq : tmps.getD q undef = .pointer (some ⟨b, 0, none⟩)) (hc : CellsN w g l) (hx : w.cell? ⟨b, 0, none⟩ = some x) :
    (results fn tmps).run P w = .ok (.tuple #[.agg l.toArray, x]) w := by
  have hp' : tmps[p]?.getD undef = .pointer (some ⟨g, 0, none⟩) := by simpa using hp
  have hq' : tmps[q]?.getD undef = .pointer (some ⟨b, 0, none⟩) := by simpa using hq
  have e1 := loadN t g w l hs ha hc
  have e2 : (loadVar u ⟨b, 0, none⟩).run P w = .ok x w := by simp [loadVar, hb, hx]
  simp [results, h, hp', hq', asAddr, e1, e2]
theorem agg_errno (w : World) : (isAgg 30).run Tryz.prog w = .ok false w := by simp [isAgg, run_underlying Tryz.underlying30]
set_option maxRecDepth 100000 in
set_option maxHeartbeats 4000000 in
theorem eget_any (s : List UInt8) (w : World) (hs : s.length ≤ 1000) :
    Calls Tryz.prog 17 #[.string ⟨s.toArray⟩] w fun e w' => ∃ v', e = .returned (.tuple #[v', .int .i64 (getEE s)]) ∧ isEnN w.heap.size (getEF s) v' w' ∧ Below w.heap.size w w' := by
  have hmf : ∀ (fn : Fn) (first cap : Array Value) (w : World), (Instr.makeFunc fn first cap).run Tryz.prog w = .ok (.func fn first cap) w := fun _ _ _ _ => rfl
  have hb0 := Kept.mk ((lit_below w (.cells #[.string ⟨#[]⟩, .int .i64 0, .int .i64 0, .int .i64 0, .bool false, .string ⟨#[]⟩, .slice none 0 0, .slice none 0 0, .int .u64 0] 27)).trans ((lit_below (w.alloc (.cells #[.string ⟨#[]⟩, .int .i64 0, .int .i64 0, .int .i64 0, .bool false, .string ⟨#[]⟩, .slice none 0 0, .slice none 0 0, .int .u64 0] 27)) (.cells #[.int .i64 0] 30)).mono (lit_below w (.cells #[.string ⟨#[]⟩, .int .i64 0, .int .i64 0, .int .i64 0, .bool false, .string ⟨#[]⟩, .slice none 0 0, .slice none 0 0, .int .u64 0] 27)).size))
  have HR := Kept.mk ((Blk.new w 27 [.string ⟨#[]⟩, .int .i64 0, .int .i64 0, .int .i64 0, .bool false, .string ⟨#[]⟩, .slice none 0 0, .slice none 0 0, .int .u64 0] w.heap.size rfl).alloc (.cells #[.int .i64 0] 30))
  have HN := Kept.mk (Blk.new (w.alloc (.cells #[.string ⟨#[]⟩, .int .i64 0, .int .i64 0, .int .i64 0, .bool false, .string ⟨#[]⟩, .slice none 0 0, .slice none 0 0, .int .u64 0] 27)) 30 [.int .i64 0] (w.heap.size + 1) (by simp))
  go_enter_defers Tryz.func17, Tryz.ntmps17
  go_wp2_with fail
  clear hmf
  generalize hW0 : ((w.alloc (.cells #[.string ⟨#[]⟩, .int .i64 0, .int .i64 0, .int .i64 0, .bool false, .string ⟨#[]⟩, .slice none 0 0, .slice none 0 0, .int .u64 0] 27)).alloc (.cells #[.int .i64 0] 30)) = W0 at *
  have hs0 : W0.heap.size = w.heap.size + 2 := by rw [← hW0]; simp
  clear hW0
  refine (read_any s W0 hs).mono ?_
  rintro e W1 (⟨E, hr, ⟨v', rfl, p', m', rfl, hp, hm, np, nm⟩, hb⟩ | ⟨hr, rfl, hb⟩)
  · have HRD := Kept.mk hr
    replace HR := Kept.mk (HR.out.keep hb)
    replace HN := Kept.mk (HN.out.keep hb)
    replace hb0 := Kept.mk (hb0.out.trans (hb.mono hb0.out.size))
    obtain ⟨Q1, Q2, Q3, Q4, Q5⟩ := eset E p' m' (g := w.heap.size) (Nat.le_refl _) hb0.out HR.out.cells rfl hp hm (np.ne (by omega)) (nm.ne (by omega))
    have HN2 := Kept.mk (HN.out.apartN (b' := w.heap.size) (by omega) 0 [.string ⟨E.key.toArray⟩, .int .i64 E.val.kind, .int .i64 E.val.time, .int .i64 E.val.node, .bool E.val.dead, .string ⟨E.val.text.toArray⟩, p', m', .int .u64 (E.val.flags.toNat : Int)])
    have kn := HN2.out.cells.2 0 _ rfl
    have fn := HN2.out.free 0
    have NP := Kept.mk np
    have NM := Kept.mk nm
    have HP := Kept.mk hp
    have HM := Kept.mk hm
    clear hr hb hp hm np nm
    go_wp2_with (refine wpList_storeN 27 rfl (.tmp 2) (.tmp 6) rfl w.heap.size [.string ⟨E.key.toArray⟩, .int .i64 E.val.kind, .int .i64 E.val.time, .int .i64 E.val.node, .bool E.val.dead, .string ⟨E.val.text.toArray⟩, p', m', .int .u64 (E.val.flags.toNat : Int)] size_en rfl rfl HR.out.cells rfl HR.out.free Q5.out ?_)
    have HF := Kept.mk ((HR.out.all_ (l := [.string ⟨E.key.toArray⟩, .int .i64 E.val.kind, .int .i64 E.val.time, .int .i64 E.val.node, .bool E.val.dead, .string ⟨E.val.text.toArray⟩, p', m', .int .u64 (E.val.flags.toNat : Int)]) rfl).apart (b' := w.heap.size + 1) (by omega) 0 (.int .i64 0))
    have FN := Kept.mk (HN2.out.set 0 (.int .i64 0) (by simp))
    have QB := Kept.mk (Q1.out.setCell (p := ⟨w.heap.size + 1, 0, none⟩) (Nat.le_succ _) (.int .i64 0))
    have QP := Kept.mk (Q3.out.setCell_apart (w.heap.size + 1) 0 (.int .i64 0) (NP.out.ne (by omega)))
    have QM := Kept.mk (Q4.out.setCell_apart (w.heap.size + 1) 0 (.int .i64 0) (NM.out.ne (by omega)))
    refine leaves_cons (f := 34) (args := #[ptr w.heap.size, ptr (w.heap.size + 1)]) (by simp) (by simp [go_sem]) ?_
    refine (catch_idle _ _ _).mono ?_
    rintro e u' w' ⟨rfl, rfl, rfl⟩
    have e1 : getEF s = E := by unfold getEF; rw [HRD.out]; rfl
    have e2 : getEE s = 0 := by unfold getEE getOk; rw [HRD.out]; rfl
    rw [e1, e2]
    exact ⟨_, results_cells rfl _ _ w.heap.size (w.heap.size + 1) _ (.int .i64 0) size_en agg_en agg_errno rfl rfl HF.out.cells (FN.out.cells.2 0 _ rfl), _, rfl, ⟨p', m', rfl, QP.out, QM.out, NP.out.low (by omega), NM.out.low (by omega)⟩, QB.out⟩
  · have HRD := Kept.mk hr
    replace HR := Kept.mk (HR.out.keep hb)
    replace HN := Kept.mk (HN.out.keep hb)
    replace hb0 := Kept.mk (hb0.out.trans (hb.mono hb0.out.size))
    clear hr hb
    go_wp2
    refine leaves_cons (f := 34) (args := #[ptr w.heap.size, ptr (w.heap.size + 1)]) (by simp) (by simp [go_sem]) ?_
    refine (catch_gave w.heap.size (w.heap.size + 1) _ _ [] W1 rfl HR.out HN.out (by omega)).mono ?_
    rintro e u' w' ⟨rfl, rfl, rfl⟩
    have HF := (HR.out.all_ (l := [.string ⟨#[]⟩, .int .i64 0, .int .i64 0, .int .i64 0, .bool false, .string ⟨#[]⟩, .slice none 0 0, .slice none 0 0, .int .u64 0]) rfl).apart (b' := w.heap.size + 1) (by omega) 0 (.int .i64 2)
    have FN := (HN.out.apartN (b' := w.heap.size) (by omega) 0 [.string ⟨#[]⟩, .int .i64 0, .int .i64 0, .int .i64 0, .bool false, .string ⟨#[]⟩, .slice none 0 0, .slice none 0 0, .int .u64 0]).set 0 (.int .i64 2) (by simp)
    have e1 : getEF s = zeroE := by unfold getEF; rw [HRD.out]; rfl
    have e2 : getEE s = 2 := by unfold getEE getOk; rw [HRD.out]; rfl
    rw [e1, e2]
    exact ⟨_, results_cells rfl _ _ w.heap.size (w.heap.size + 1) _ (.int .i64 2) size_en agg_en agg_errno rfl rfl HF.cells (FN.cells.2 0 _ rfl), _, rfl, ⟨.slice none 0 0, .slice none 0 0, rfl, .inl ⟨rfl, rfl⟩, .inl ⟨rfl, rfl⟩, newB_nil _, newB_nil _⟩, (below_setN (Nat.le_refl _) _ 0 _ hb0.out).setCell (Nat.le_succ _) _⟩
end Go.Proofs.YtebjljiklacolaaGreat
end
section
namespace Go.Proofs.YtebjljiklacolaaGreat
open Go.RowKit
set_option linter.unusedVariables false
set_option linter.unusedSimpArgs false
attribute [local irreducible] setN

structure JSt (w W : World) (A B : En) (pa ma pb mb : Value) : Prop where
  hb : Below w.heap.size w W
  a : Blk W w.heap.size [.string ⟨A.key.toArray⟩, .int .i64 A.val.kind, .int .i64 A.val.time, .int .i64 A.val.node, .bool A.val.dead, .string ⟨A.val.text.toArray⟩, pa, ma, .int .u64 (A.val.flags.toNat : Int)]
  b : Blk W (w.heap.size + 1) [.string ⟨B.key.toArray⟩, .int .i64 B.val.kind, .int .i64 B.val.time, .int .i64 B.val.node, .bool B.val.dead, .string ⟨B.val.text.toArray⟩, pb, mb, .int .u64 (B.val.flags.toNat : Int)]
  r : Blk W (w.heap.size + 1 + 1) [.string ⟨#[]⟩, .int .i64 0, .int .i64 0, .int .i64 0, .bool false, .string ⟨#[]⟩, .slice none 0 0, .slice none 0 0, .int .u64 0]
  s : Blk W (w.heap.size + 1 + 1 + 1) [.string ⟨A.key.toArray⟩, .int .i64 A.val.kind, .int .i64 A.val.time, .int .i64 A.val.node, .bool A.val.dead, .string ⟨A.val.text.toArray⟩, pa, ma, .int .u64 (A.val.flags.toNat : Int), .string ⟨B.key.toArray⟩, .int .i64 B.val.kind, .int .i64 B.val.time, .int .i64 B.val.node, .bool B.val.dead, .string ⟨B.val.text.toArray⟩, pb, mb, .int .u64 (B.val.flags.toNat : Int)]
theorem JSt.keep {w W W' : World} {A B : En} {pa ma pb mb : Value} (h : JSt w W A B pa ma pb mb) (k : Below W.heap.size W W') : JSt w W' A B pa ma pb mb :=
  ⟨h.hb.trans (k.mono h.hb.size), h.a.keep k, h.b.keep k, h.r.keep k, h.s.keep k⟩
theorem jst_new (w : World) (A B : En) (pa ma pb mb : Value) : JSt w ((((w.alloc (.cells #[.string ⟨A.key.toArray⟩, .int .i64 A.val.kind, .int .i64 A.val.time, .int .i64 A.val.node, .bool A.val.dead, .string ⟨A.val.text.toArray⟩, pa, ma, .int .u64 (A.val.flags.toNat : Int)] 27)).alloc (.cells #[.string ⟨B.key.toArray⟩, .int .i64 B.val.kind, .int .i64 B.val.time, .int .i64 B.val.node, .bool B.val.dead, .string ⟨B.val.text.toArray⟩, pb, mb, .int .u64 (B.val.flags.toNat : Int)] 27)).alloc (.cells #[.string ⟨#[]⟩, .int .i64 0, .int .i64 0, .int .i64 0, .bool false, .string ⟨#[]⟩, .slice none 0 0, .slice none 0 0, .int .u64 0] 27)).alloc (.cells #[.string ⟨A.key.toArray⟩, .int .i64 A.val.kind, .int .i64 A.val.time, .int .i64 A.val.node, .bool A.val.dead, .string ⟨A.val.text.toArray⟩, pa, ma, .int .u64 (A.val.flags.toNat : Int), .string ⟨B.key.toArray⟩, .int .i64 B.val.kind, .int .i64 B.val.time, .int .i64 B.val.node, .bool B.val.dead, .string ⟨B.val.text.toArray⟩, pb, mb, .int .u64 (B.val.flags.toNat : Int)] 27)) A B pa ma pb mb where
  hb := ((((Below.refl _ w).alloc (Nat.le_refl _) _).alloc (by simp) _).alloc (by simp; omega) _).alloc (by simp; omega) _
  a := (((Blk.new w 27 _ _ rfl).alloc _).alloc _).alloc _
  b := ((Blk.new (w.alloc (.cells #[.string ⟨A.key.toArray⟩, .int .i64 A.val.kind, .int .i64 A.val.time, .int .i64 A.val.node, .bool A.val.dead, .string ⟨A.val.text.toArray⟩, pa, ma, .int .u64 (A.val.flags.toNat : Int)] 27)) 27 _ _ (by simp)).alloc _).alloc _
  r := (Blk.new ((w.alloc (.cells #[.string ⟨A.key.toArray⟩, .int .i64 A.val.kind, .int .i64 A.val.time, .int .i64 A.val.node, .bool A.val.dead, .string ⟨A.val.text.toArray⟩, pa, ma, .int .u64 (A.val.flags.toNat : Int)] 27)).alloc (.cells #[.string ⟨B.key.toArray⟩, .int .i64 B.val.kind, .int .i64 B.val.time, .int .i64 B.val.node, .bool B.val.dead, .string ⟨B.val.text.toArray⟩, pb, mb, .int .u64 (B.val.flags.toNat : Int)] 27)) 27 _ _ (by simp)).alloc _
  s := Blk.new (((w.alloc (.cells #[.string ⟨A.key.toArray⟩, .int .i64 A.val.kind, .int .i64 A.val.time, .int .i64 A.val.node, .bool A.val.dead, .string ⟨A.val.text.toArray⟩, pa, ma, .int .u64 (A.val.flags.toNat : Int)] 27)).alloc (.cells #[.string ⟨B.key.toArray⟩, .int .i64 B.val.kind, .int .i64 B.val.time, .int .i64 B.val.node, .bool B.val.dead, .string ⟨B.val.text.toArray⟩, pb, mb, .int .u64 (B.val.flags.toNat : Int)] 27)).alloc (.cells #[.string ⟨#[]⟩, .int .i64 0, .int .i64 0, .int .i64 0, .bool false, .string ⟨#[]⟩, .slice none 0 0, .slice none 0 0, .int .u64 0] 27)) 27 _ _ (by simp)
theorem chk_ok {E : En} (h : okE E = true) : chkE E = 0 := by unfold chkE; rw [if_pos h]
theorem chk_no {E : En} (h : okE E = false) : chkE E = 2 := by unfold chkE; rw [h]; rfl
set_option maxRecDepth 100000 in
set_option maxHeartbeats 4000000 in
theorem ejoin_any (A B : En) (v u : Value) (w : World) (hv : isEn A v w) (hu : isEn B u w) (hA : FitE A) (hF : FitE B) : Calls Tryz.prog 10 #[v, u] w fun e w' => ∃ v', e = .returned (.tuple #[v', .int .i64 (joinEE A B)]) ∧ isEnN w.heap.size (joinEF A B) v' w' ∧ Below w.heap.size w w' := by
  obtain ⟨pa, ma, rfl, hpa, hma⟩ := hv
  obtain ⟨pb, mb, rfl, hpb, hmb⟩ := hu
  have HPA := Kept.mk hpa
  have HMA := Kept.mk hma
  have HPB := Kept.mk hpb
  have HMB := Kept.mk hmb
  clear hpa hma hpb hmb
  have J := Kept.mk (jst_new w A B pa ma pb mb)
  go_enter Tryz.func10, Tryz.ntmps10
  go_wp2
  generalize ((((w.alloc (.cells #[.string ⟨A.key.toArray⟩, .int .i64 A.val.kind, .int .i64 A.val.time, .int .i64 A.val.node, .bool A.val.dead, .string ⟨A.val.text.toArray⟩, pa, ma, .int .u64 (A.val.flags.toNat : Int)] 27)).alloc (.cells #[.string ⟨B.key.toArray⟩, .int .i64 B.val.kind, .int .i64 B.val.time, .int .i64 B.val.node, .bool B.val.dead, .string ⟨B.val.text.toArray⟩, pb, mb, .int .u64 (B.val.flags.toNat : Int)] 27)).alloc (.cells #[.string ⟨#[]⟩, .int .i64 0, .int .i64 0, .int .i64 0, .bool false, .string ⟨#[]⟩, .slice none 0 0, .slice none 0 0, .int .u64 0] 27)).alloc (.cells #[.string ⟨A.key.toArray⟩, .int .i64 A.val.kind, .int .i64 A.val.time, .int .i64 A.val.node, .bool A.val.dead, .string ⟨A.val.text.toArray⟩, pa, ma, .int .u64 (A.val.flags.toNat : Int), .string ⟨B.key.toArray⟩, .int .i64 B.val.kind, .int .i64 B.val.time, .int .i64 B.val.node, .bool B.val.dead, .string ⟨B.val.text.toArray⟩, pb, mb, .int .u64 (B.val.flags.toNat : Int)] 27)) = W0 at *
  go_loopw [15] (fun i wr => ∃ k : Nat, k ≤ 2 ∧ i = .int .i64 (k : Int) ∧ Kept (JSt w wr A B pa ma pb mb) ∧ Kept (1 ≤ k → okE A = true) ∧ Kept (k = 2 → okE B = true)) (fun i _ => 2 - (intOf i).toNat)
  case atStart => exact ⟨0, by omega, rfl, J, ⟨by omega⟩, ⟨by omega⟩⟩
  case round =>
    clear J
    obtain ⟨k, hk, rfl, J, O1, O2⟩ := hrel
    have hsz := J.out.r.lt
    rcases (show k = 0 ∨ k = 1 ∨ k = 2 by omega) with rfl | rfl | rfl
    · have ks0 := J.out.s.cells.2 0 _ rfl
      have ks1 := J.out.s.cells.2 1 _ rfl
      have ks2 := J.out.s.cells.2 2 _ rfl
      have ks3 := J.out.s.cells.2 3 _ rfl
      have ks4 := J.out.s.cells.2 4 _ rfl
      have ks5 := J.out.s.cells.2 5 _ rfl
      have ks6 := J.out.s.cells.2 6 _ rfl
      have ks7 := J.out.s.cells.2 7 _ rfl
      have ks8 := J.out.s.cells.2 8 _ rfl
      obtain ⟨K1, K2, K3, K4, K5⟩ := enew wr A pa ma (stable_cells _ _ _ _ HPA.out J.out.hb) (stable_cells _ _ _ _ HMA.out J.out.hb) wr.heap.size rfl
      go_wp2_with (have hz0 := K1; refine wpList_storeN 27 rfl (.tmp 7) (.tmp 18) rfl wr.heap.size [.string ⟨A.key.toArray⟩, .int .i64 A.val.kind, .int .i64 A.val.time, .int .i64 A.val.node, .bool A.val.dead, .string ⟨A.val.text.toArray⟩, pa, ma, .int .u64 (A.val.flags.toNat : Int)] size_en rfl rfl K1.out rfl K2.out K5.out ?_; replace J := Kept.mk (J.out.keep K3.out); clear hz0 K1 K2 K3 K5 ks0 ks1 ks2 ks3 ks4 ks5 ks6 ks7 ks8; generalize setN (wr.alloc (.cells #[.string ⟨#[]⟩, .int .i64 0, .int .i64 0, .int .i64 0, .bool false, .string ⟨#[]⟩, .slice none 0 0, .slice none 0 0, .int .u64 0] 27)) wr.heap.size 0 [.string ⟨A.key.toArray⟩, .int .i64 A.val.kind, .int .i64 A.val.time, .int .i64 A.val.node, .bool A.val.dead, .string ⟨A.val.text.toArray⟩, pa, ma, .int .u64 (A.val.flags.toNat : Int)] = W1 at *; have kx0 := K4.out.1.2 0 _ rfl; have kx1 := K4.out.1.2 1 _ rfl; have kx2 := K4.out.1.2 2 _ rfl; have kx3 := K4.out.1.2 3 _ rfl; have kx4 := K4.out.1.2 4 _ rfl; have kx5 := K4.out.1.2 5 _ rfl; have kx6 := K4.out.1.2 6 _ rfl; have kx7 := K4.out.1.2 7 _ rfl; have kx8 := K4.out.1.2 8 _ rfl)
      refine (echeck_any A _ W1 ⟨_, _, rfl, K4.out.2.1, K4.out.2.2⟩ hA).mono ?_
      rintro e W2 ⟨rfl, hb⟩
      replace J := Kept.mk (J.out.keep hb)
      clear hb K4 kx0 kx1 kx2 kx3 kx4 kx5 kx6 kx7 kx8
      cases hok : okE A with
      | true =>
        rw [chk_ok hok]
        have HO := Kept.mk hok
        clear hok
        go_wp2
        go_roundw
        case rel => exact ⟨1, by omega, by go_num, J, ⟨fun _ => HO.out⟩, ⟨fun h => by omega⟩⟩
        case measure => simp [intOf]
      | false =>
        rw [chk_no hok]
        have HO := Kept.mk hok
        clear hok
        have KZ : Kept (Ones [.string ⟨#[]⟩, .int .i64 0, .int .i64 0, .int .i64 0, .bool false, .string ⟨#[]⟩, .slice none 0 0, .slice none 0 0, .int .u64 0]) := ⟨⟨rfl, rfl, rfl, rfl, rfl, rfl, rfl, rfl, rfl, trivial⟩⟩
        go_wp2_with (refine wpList_storeN 27 rfl (.tmp 4) (.tmp 23) rfl (w.heap.size + 1 + 1) [.string ⟨#[]⟩, .int .i64 0, .int .i64 0, .int .i64 0, .bool false, .string ⟨#[]⟩, .slice none 0 0, .slice none 0 0, .int .u64 0] size_en rfl rfl J.out.r.cells rfl J.out.r.free KZ.out ?_)
        have e1 : joinEE A B = 2 := by unfold joinEE; rw [HO.out]; rfl
        have e2 : joinEF A B = zeroE := by unfold joinEF; rw [e1]; rfl
        rw [e1, e2]
        exact bodyPost_ret (resultsN2 rfl _ _ (w.heap.size + 1 + 1) _ (.int .i64 2) size_en agg_en rfl rfl (J.out.r.all_ rfl).cells) rfl ⟨_, rfl, ⟨.slice none 0 0, .slice none 0 0, rfl, .inl ⟨rfl, rfl⟩, .inl ⟨rfl, rfl⟩, newB_nil _, newB_nil _⟩, below_setN (by omega) _ 0 _ J.out.hb⟩
    · have ks0 := J.out.s.cells.2 9 _ rfl
      have ks1 := J.out.s.cells.2 10 _ rfl
      have ks2 := J.out.s.cells.2 11 _ rfl
      have ks3 := J.out.s.cells.2 12 _ rfl
      have ks4 := J.out.s.cells.2 13 _ rfl
      have ks5 := J.out.s.cells.2 14 _ rfl
      have ks6 := J.out.s.cells.2 15 _ rfl
      have ks7 := J.out.s.cells.2 16 _ rfl
      have ks8 := J.out.s.cells.2 17 _ rfl
      obtain ⟨K1, K2, K3, K4, K5⟩ := enew wr B pb mb (stable_cells _ _ _ _ HPB.out J.out.hb) (stable_cells _ _ _ _ HMB.out J.out.hb) wr.heap.size rfl
      go_wp2_with (have hz0 := K1; refine wpList_storeN 27 rfl (.tmp 7) (.tmp 18) rfl wr.heap.size [.string ⟨B.key.toArray⟩, .int .i64 B.val.kind, .int .i64 B.val.time, .int .i64 B.val.node, .bool B.val.dead, .string ⟨B.val.text.toArray⟩, pb, mb, .int .u64 (B.val.flags.toNat : Int)] size_en rfl rfl K1.out rfl K2.out K5.out ?_; replace J := Kept.mk (J.out.keep K3.out); clear hz0 K1 K2 K3 K5 ks0 ks1 ks2 ks3 ks4 ks5 ks6 ks7 ks8; generalize setN (wr.alloc (.cells #[.string ⟨#[]⟩, .int .i64 0, .int .i64 0, .int .i64 0, .bool false, .string ⟨#[]⟩, .slice none 0 0, .slice none 0 0, .int .u64 0] 27)) wr.heap.size 0 [.string ⟨B.key.toArray⟩, .int .i64 B.val.kind, .int .i64 B.val.time, .int .i64 B.val.node, .bool B.val.dead, .string ⟨B.val.text.toArray⟩, pb, mb, .int .u64 (B.val.flags.toNat : Int)] = W1 at *; have kx0 := K4.out.1.2 0 _ rfl; have kx1 := K4.out.1.2 1 _ rfl; have kx2 := K4.out.1.2 2 _ rfl; have kx3 := K4.out.1.2 3 _ rfl; have kx4 := K4.out.1.2 4 _ rfl; have kx5 := K4.out.1.2 5 _ rfl; have kx6 := K4.out.1.2 6 _ rfl; have kx7 := K4.out.1.2 7 _ rfl; have kx8 := K4.out.1.2 8 _ rfl)
      refine (echeck_any B _ W1 ⟨_, _, rfl, K4.out.2.1, K4.out.2.2⟩ hF).mono ?_
      rintro e W2 ⟨rfl, hb⟩
      replace J := Kept.mk (J.out.keep hb)
      clear hb K4 kx0 kx1 kx2 kx3 kx4 kx5 kx6 kx7 kx8
      cases hok : okE B with
      | true =>
        rw [chk_ok hok]
        have HO := Kept.mk hok
        clear hok
        go_wp2
        go_roundw
        case rel => exact ⟨2, by omega, by go_num, J, ⟨fun _ => O1.out (by omega)⟩, ⟨fun _ => HO.out⟩⟩
        case measure => simp [intOf]
      | false =>
        rw [chk_no hok]
        have HO := Kept.mk hok
        clear hok
        have KZ : Kept (Ones [.string ⟨#[]⟩, .int .i64 0, .int .i64 0, .int .i64 0, .bool false, .string ⟨#[]⟩, .slice none 0 0, .slice none 0 0, .int .u64 0]) := ⟨⟨rfl, rfl, rfl, rfl, rfl, rfl, rfl, rfl, rfl, trivial⟩⟩
        go_wp2_with (refine wpList_storeN 27 rfl (.tmp 4) (.tmp 23) rfl (w.heap.size + 1 + 1) [.string ⟨#[]⟩, .int .i64 0, .int .i64 0, .int .i64 0, .bool false, .string ⟨#[]⟩, .slice none 0 0, .slice none 0 0, .int .u64 0] size_en rfl rfl J.out.r.cells rfl J.out.r.free KZ.out ?_)
        have e1 : joinEE A B = 2 := by unfold joinEE; rw [HO.out]; rw [Bool.and_false]; rfl
        have e2 : joinEF A B = zeroE := by unfold joinEF; rw [e1]; rfl
        rw [e1, e2]
        exact bodyPost_ret (resultsN2 rfl _ _ (w.heap.size + 1 + 1) _ (.int .i64 2) size_en agg_en rfl rfl (J.out.r.all_ rfl).cells) rfl ⟨_, rfl, ⟨.slice none 0 0, .slice none 0 0, rfl, .inl ⟨rfl, rfl⟩, .inl ⟨rfl, rfl⟩, newB_nil _, newB_nil _⟩, below_setN (by omega) _ 0 _ J.out.hb⟩
    · have P1 := Kept.mk (O1.out (by omega))
      have P2 := Kept.mk (O2.out rfl)
      clear O1 O2
      have ka0 := J.out.a.cells.2 0 _ rfl
      have ka1 := J.out.a.cells.2 1 _ rfl
      have ka2 := J.out.a.cells.2 2 _ rfl
      have ka3 := J.out.a.cells.2 3 _ rfl
      have ka4 := J.out.a.cells.2 4 _ rfl
      have ka5 := J.out.a.cells.2 5 _ rfl
      have ka6 := J.out.a.cells.2 6 _ rfl
      have ka7 := J.out.a.cells.2 7 _ rfl
      have ka8 := J.out.a.cells.2 8 _ rfl
      have kb0 := J.out.b.cells.2 0 _ rfl
      have kb1 := J.out.b.cells.2 1 _ rfl
      have kb2 := J.out.b.cells.2 2 _ rfl
      have kb3 := J.out.b.cells.2 3 _ rfl
      have kb4 := J.out.b.cells.2 4 _ rfl
      have kb5 := J.out.b.cells.2 5 _ rfl
      have kb6 := J.out.b.cells.2 6 _ rfl
      have kb7 := J.out.b.cells.2 7 _ rfl
      have kb8 := J.out.b.cells.2 8 _ rfl
      cases hk : (A.val.kind == B.val.kind) with
      | false =>
        have hk2 : (A.val.kind != B.val.kind) = true := by simp [bne, hk]
        have KZ : Kept (Ones [.string ⟨#[]⟩, .int .i64 0, .int .i64 0, .int .i64 0, .bool false, .string ⟨#[]⟩, .slice none 0 0, .slice none 0 0, .int .u64 0]) := ⟨⟨rfl, rfl, rfl, rfl, rfl, rfl, rfl, rfl, rfl, trivial⟩⟩
        go_wp2_with (refine wpList_storeN 27 rfl (.tmp 4) (.tmp 40) rfl (w.heap.size + 1 + 1) [.string ⟨#[]⟩, .int .i64 0, .int .i64 0, .int .i64 0, .bool false, .string ⟨#[]⟩, .slice none 0 0, .slice none 0 0, .int .u64 0] size_en rfl rfl J.out.r.cells rfl J.out.r.free KZ.out ?_)
        have e1 : joinEE A B = 3 := by unfold joinEE; rw [P1.out, P2.out]; unfold nameB; rw [show decide (A.val.kind = B.val.kind) = false by simpa using hk]; rfl
        have e2 : joinEF A B = zeroE := by unfold joinEF; rw [e1]; rfl
        rw [e1, e2]
        exact bodyPost_ret (resultsN2 rfl _ _ (w.heap.size + 1 + 1) _ (.int .i64 3) size_en agg_en rfl rfl (J.out.r.all_ rfl).cells) rfl ⟨_, rfl, ⟨.slice none 0 0, .slice none 0 0, rfl, .inl ⟨rfl, rfl⟩, .inl ⟨rfl, rfl⟩, newB_nil _, newB_nil _⟩, below_setN (by omega) _ 0 _ J.out.hb⟩
      | true =>
        have hk2 : (A.val.kind != B.val.kind) = false := by simp [bne, hk]
        cases hy : (A.key == B.key) with
        | false =>
          have hy2 : (A.key != B.key) = true := by simp [bne, hy]
          have KZ : Kept (Ones [.string ⟨#[]⟩, .int .i64 0, .int .i64 0, .int .i64 0, .bool false, .string ⟨#[]⟩, .slice none 0 0, .slice none 0 0, .int .u64 0]) := ⟨⟨rfl, rfl, rfl, rfl, rfl, rfl, rfl, rfl, rfl, trivial⟩⟩
          go_wp2_with (refine wpList_storeN 27 rfl (.tmp 4) (.tmp 40) rfl (w.heap.size + 1 + 1) [.string ⟨#[]⟩, .int .i64 0, .int .i64 0, .int .i64 0, .bool false, .string ⟨#[]⟩, .slice none 0 0, .slice none 0 0, .int .u64 0] size_en rfl rfl J.out.r.cells rfl J.out.r.free KZ.out ?_)
          have e1 : joinEE A B = 3 := by unfold joinEE; rw [P1.out, P2.out]; unfold nameB; rw [show decide (A.key = B.key) = false by simpa using hy, Bool.and_false]; rfl
          have e2 : joinEF A B = zeroE := by unfold joinEF; rw [e1]; rfl
          rw [e1, e2]
          exact bodyPost_ret (resultsN2 rfl _ _ (w.heap.size + 1 + 1) _ (.int .i64 3) size_en agg_en rfl rfl (J.out.r.all_ rfl).cells) rfl ⟨_, rfl, ⟨.slice none 0 0, .slice none 0 0, rfl, .inl ⟨rfl, rfl⟩, .inl ⟨rfl, rfl⟩, newB_nil _, newB_nil _⟩, below_setN (by omega) _ 0 _ J.out.hb⟩
        | true =>
          have hy2 : (A.key != B.key) = false := by simp [bne, hy]
          have HK := Kept.mk (show A.val.kind = B.val.kind by simpa using hk)
          have HY := Kept.mk (show A.key = B.key by simpa using hy)
          go_wp2_with fail
          clear hk hy hk2 hy2 ka0 kb0 ka1 kb1 ka2 kb2 ka3 kb3 ka4 kb4 ka5 kb5 ka6 kb6 ka7 kb7 ka8 kb8
          refine (vjoin_any A.val B.val _ _ wr ⟨pa, ma, rfl, stable_cells _ _ _ _ HPA.out J.out.hb, stable_cells _ _ _ _ HMA.out J.out.hb⟩ ⟨pb, mb, rfl, stable_cells _ _ _ _ HPB.out J.out.hb, stable_cells _ _ _ _ HMB.out J.out.hb⟩ hA.val hF.val).mono ?_
          rintro e U ⟨v', rfl, ⟨p', m', rfl, hp', hm', np, nm⟩, hb⟩
          replace J := Kept.mk (J.out.keep hb)
          clear hb
          obtain ⟨K1, K2, K3, K4, K5⟩ := vnew U (joinF A.val B.val) p' m' hp' hm' U.heap.size rfl
          have NP := Kept.mk np
          have NM := Kept.mk nm
          clear hp' hm' np nm
          generalize joinE A.val B.val = je
          go_wp2_with (first | (have hz0 := K1; refine wpList_storeN 25 rfl (.tmp 9) (.tmp 47) rfl U.heap.size [.int .i64 (joinF A.val B.val).kind, .int .i64 (joinF A.val B.val).time, .int .i64 (joinF A.val B.val).node, .bool (joinF A.val B.val).dead, .string ⟨(joinF A.val B.val).text.toArray⟩, p', m', .int .u64 ((joinF A.val B.val).flags.toNat : Int)] size_va rfl rfl K1.out rfl K2.out K5.out ?_; replace J := Kept.mk (J.out.keep K3.out); clear hz0 K1 K2 K3 K5; generalize setN (U.alloc (.cells #[.int .i64 0, .int .i64 0, .int .i64 0, .bool false, .string ⟨#[]⟩, .slice none 0 0, .slice none 0 0, .int .u64 0] 25)) U.heap.size 0 [.int .i64 (joinF A.val B.val).kind, .int .i64 (joinF A.val B.val).time, .int .i64 (joinF A.val B.val).node, .bool (joinF A.val B.val).dead, .string ⟨(joinF A.val B.val).text.toArray⟩, p', m', .int .u64 ((joinF A.val B.val).flags.toNat : Int)] = W1 at *; obtain ⟨Q1, Q2, Q3, Q4, Q5⟩ := eset (⟨A.key, joinF A.val B.val⟩ : En) p' m' (g := w.heap.size + 1 + 1) (B := w.heap.size) (by omega) J.out.hb J.out.r.cells rfl K4.out.2.1 K4.out.2.2 (NP.out.ne (by omega)) (NM.out.ne (by omega)); have ka0 := J.out.a.cells.2 0 _ rfl; have kg0 := K4.out.1.2 0 _ rfl; have kg1 := K4.out.1.2 1 _ rfl; have kg2 := K4.out.1.2 2 _ rfl; have kg3 := K4.out.1.2 3 _ rfl; have kg4 := K4.out.1.2 4 _ rfl; have kg5 := K4.out.1.2 5 _ rfl; have kg6 := K4.out.1.2 6 _ rfl; have kg7 := K4.out.1.2 7 _ rfl) | (have hz1 := Q5; refine wpList_storeN 27 rfl (.tmp 4) (.tmp 52) rfl (w.heap.size + 1 + 1) [.string ⟨A.key.toArray⟩, .int .i64 (joinF A.val B.val).kind, .int .i64 (joinF A.val B.val).time, .int .i64 (joinF A.val B.val).node, .bool (joinF A.val B.val).dead, .string ⟨(joinF A.val B.val).text.toArray⟩, p', m', .int .u64 ((joinF A.val B.val).flags.toNat : Int)] size_en rfl rfl J.out.r.cells rfl J.out.r.free Q5.out ?_; clear hz1 Q5))
          have e0 : nameB A B = true := by unfold nameB; simp [HK.out, HY.out]
          have e1 : joinEE A B = 0 := by unfold joinEE; rw [P1.out, P2.out, e0]; rfl
          have e3 : joinE A.val B.val = 0 := by
            have h1 := P1.out; have h2 := P2.out; unfold okE at h1 h2; rw [Bool.and_eq_true] at h1 h2; unfold joinE; rw [h1.2, h2.2, Bool.and_self, if_pos rfl, if_pos HK.out]
          have e2 : joinEF A B = ⟨A.key, joinF A.val B.val⟩ := by unfold joinEF joinF; rw [if_pos e1, if_pos e3]
          rw [e1, e2]
          exact bodyPost_ret (resultsN2 rfl _ _ (w.heap.size + 1 + 1) _ (.int .i64 0) size_en agg_en rfl rfl Q2.out) rfl ⟨_, rfl, ⟨p', m', rfl, Q3.out, Q4.out, NP.out.low (by omega), NM.out.low (by omega)⟩, Q1.out⟩
end Go.Proofs.YtebjljiklacolaaGreat
end
section
namespace Go.Proofs.YtebjljiklacolaaGreat
open Go.RowKit Go.ChangeShapes Go.WideShapes
set_option linter.unusedVariables false
set_option linter.unusedSimpArgs false

theorem spot_none {w : World} {a : Addr} {v : Value} (h : w.cell? a = some v) : a = ⟨a.block, a.off, none⟩ := by
  obtain ⟨b, o, s⟩ := a
  cases s with
  | none => rfl
  | some s =>
    simp only [World.cell?] at h
    split at h <;> simp at h
theorem add_plain (b o i : Nat) : (⟨b, o, none⟩ : Addr).add i = ⟨b, o + i, none⟩ := by
  by_cases e : i = 0
  · subst e; simp [Addr.add]
  · simp [Addr.add, e]
/-- A row that came in. -/
theorem cells_came {w : World} {a : Addr} {len cap : Nat} (cs : List Value) (hl : cs.length = len) (hc : ∀ (i : Nat) (x : Value), cs[i]? = some x → w.cell? (a.add i) = some x) : isCells cs (.slice (some a) len cap) w := by
  cases cs with
  | nil => subst hl; exact .inr (.inl ⟨a, cap, rfl, rfl⟩)
  | cons x cs =>
    have h0 := hc 0 x rfl
    have e0 : a.add 0 = a := by simp [Addr.add]
    rw [e0] at h0
    have ha := spot_none h0
    rw [ha] at hc ⊢
    subst hl
    refine .inr (.inr ⟨a.block, a.off, cap, rfl, ?_, fun j y hy => ?_⟩)
    · simp only [World.cell?] at h0
      split at h0
      · rename_i h; exact (Array.getElem?_eq_some_iff.1 h).1
      · simp at h0
    · have := hc j y hy
      rwa [add_plain] at this
section
variable {W : World} {H : Type} {enc : TypeId × Value → H} {base : Nat} {spare : Nat → Bool} {held : Bool} {n : Nat}
theorem open_row {v : Value} {y : DataW H × List MemPlace} (g : DataW.trod enc Tryz.prog W base spare held n 22 [v] = some y) :
    ∃ l : List Int, isCells (l.map intC) v W ∧ l.length ≤ maxLen ∧ (∀ x ∈ l, (Lit.int .i64 x).wf = true) := by
  rcases open_ints Tryz.underlying22 Tryz.underlying3 (by kernel_rfl) g with ⟨hc, _⟩ | ⟨a, len, cap, zs, hc, _, hl, hm, hz, hx0, hcell, hs⟩
  · injection hc with hc _
    subst hc
    exact ⟨[], .inl ⟨rfl, rfl⟩, Nat.zero_le _, (fun s hs => by simp at hs)⟩
  · injection hc with hc _
    subst hc
    have hle : len ≤ zs.length := by rw [hz]; split <;> omega
    refine ⟨zs.take len, cells_came _ (by simp; omega) (fun i x hx => ?_), by simp; omega, (fun s h => hs s (List.mem_of_mem_take h))⟩
    have hi : i < len := by have := (List.getElem?_eq_some_iff.1 hx).1; simp at this; omega
    rw [hcell i (by omega)]
    rw [List.getElem?_map, List.getElem?_take, if_pos hi, List.getElem?_eq_getElem (by omega : i < zs.length)] at hx
    simp only [Option.map_some, Option.some.injEq] at hx
    rw [← hx]
    simp [List.getD_eq_getElem?_getD, show i < zs.length by omega, intC]
end
theorem wf_i64 {x : Int} (h : (Lit.int .i64 x).wf = true) : -9223372036854775808 ≤ x ∧ x ≤ 9223372036854775807 := by
  unfold Lit.wf at h
  rw [Bool.and_eq_true] at h
  exact ⟨of_decide_eq_true h.1, of_decide_eq_true h.2⟩
theorem wf_u64 {x : Int} (h : (Lit.int .u64 x).wf = true) : 0 ≤ x ∧ x ≤ 18446744073709551615 := by
  unfold Lit.wf at h
  rw [Bool.and_eq_true] at h
  exact ⟨of_decide_eq_true h.1, of_decide_eq_true h.2⟩
/-- What a value that came in is. -/
structure CameV (A : Va) : Prop where
  kind : (Lit.int .i64 A.kind).wf = true
  time : (Lit.int .i64 A.time).wf = true
  node : (Lit.int .i64 A.node).wf = true
  text : A.text.length ≤ maxLen
  plus : ∀ x ∈ A.plus, (Lit.int .i64 x).wf = true
  minus : ∀ x ∈ A.minus, (Lit.int .i64 x).wf = true
  np : A.plus.length ≤ maxLen
  nm : A.minus.length ≤ maxLen
set_option maxRecDepth 100000 in
set_option maxHeartbeats 1000000 in
theorem open_va {W : World} {H : Type} {enc : TypeId × Value → H} {base b0 : Nat} {spare : Nat → Bool} {held : Bool} {v : Value} {d : DataW H} {p : List MemPlace} (hv : Value.okWide Tryz.prog W .any b0 25 v)
    (h : DataW.Trod enc Tryz.prog W base spare held 25 v d p) : ∃ A : Va, isVa A v W ∧ CameV A := by
  obtain ⟨⟨l⟩, rfl, hsz⟩ := okWide_struct Tryz.underlying25 hv
  have hl : l.length = 8 := hsz.trans (by kernel_rfl)
  match l, hl with
  | [v0, v1, v2, v3, v4, v5, v6, v7], _ =>
    obtain ⟨fuel, hf⟩ := h
    obtain ⟨xs, n, _, hxe, _, hxl, hg⟩ := DataW.trod_struct Tryz.underlying25 hf
    have at_ : ∀ i, i < 8 → ∃ y, xs[i]? = some y := fun i hi => ⟨_, List.getElem?_eq_getElem (by rw [hxl]; exact hi)⟩
    have c2 : Tryz.prog.cellsOf 22 = 1 := by kernel_rfl
    have c3 : Tryz.prog.cellsOf 3 = 1 := by kernel_rfl
    have c4 : Tryz.prog.cellsOf 9 = 1 := by kernel_rfl
    have c5 : Tryz.prog.cellsOf 4 = 1 := by kernel_rfl
    have c6 : Tryz.prog.cellsOf 23 = 1 := by kernel_rfl
    obtain ⟨y0, e0⟩ := at_ 0 (by decide)
    obtain ⟨y1, e1⟩ := at_ 1 (by decide)
    obtain ⟨y2, e2⟩ := at_ 2 (by decide)
    obtain ⟨y3, e3⟩ := at_ 3 (by decide)
    obtain ⟨y4, e4⟩ := at_ 4 (by decide)
    obtain ⟨y5, e5⟩ := at_ 5 (by decide)
    obtain ⟨y6, e6⟩ := at_ 6 (by decide)
    obtain ⟨y7, e7⟩ := at_ 7 (by decide)
    have g0 := hg 0 _ rfl
    have g1 := hg 1 _ rfl
    have g2 := hg 2 _ rfl
    have g3 := hg 3 _ rfl
    have g4 := hg 4 _ rfl
    have g5 := hg 5 _ rfl
    have g6 := hg 6 _ rfl
    have g7 := hg 7 _ rfl
    simp only [Value.cells, c2, c3, c4, c5, c6, List.drop_zero, List.drop_succ_cons, List.take_succ_cons, List.take_zero] at g0 g1 g2 g3 g4 g5 g6 g7
    rw [e0] at g0
    rw [e1] at g1
    rw [e2] at g2
    rw [e3] at g3
    rw [e4] at g4
    rw [e5] at g5
    rw [e6] at g6
    rw [e7] at g7
    obtain ⟨kind, h0, _, w0⟩ := DataW.trod_int Tryz.underlying3 g0
    obtain ⟨time, h1, _, w1⟩ := DataW.trod_int Tryz.underlying3 g1
    obtain ⟨node, h2, _, w2⟩ := DataW.trod_int Tryz.underlying3 g2
    obtain ⟨dead, h3, _⟩ := DataW.trod_bool Tryz.underlying4 g3
    obtain ⟨text, h4, _, w4⟩ := DataW.trod_string Tryz.underlying9 g4
    obtain ⟨plus, hp, hpn, hpw⟩ := open_row g5
    obtain ⟨minus, hm, hmn, hmw⟩ := open_row g6
    obtain ⟨flags, h7, _, w7⟩ := DataW.trod_int Tryz.underlying23 g7
    injection h0 with h0 _
    injection h1 with h1 _
    injection h2 with h2 _
    injection h3 with h3 _
    injection h4 with h4 _
    injection h7 with h7 _
    subst h0 h1 h2 h3 h4 h7
    have b7 := wf_u64 w7
    have f7 : ((UInt64.ofNat flags.toNat).toNat : Int) = flags := by
      rw [UInt64.toNat_ofNat_of_lt' (by show flags.toNat < 18446744073709551616; omega)]
      omega
    refine ⟨⟨kind, time, node, dead, text.data.toList, plus, minus, UInt64.ofNat flags.toNat⟩, ⟨v5, v6, ?_, hp, hm⟩, ⟨w0, w1, w2, by simpa using w4, hpw, hmw, hpn, hmn⟩⟩
    show Value.agg #[.int .i64 kind, .int .i64 time, .int .i64 node, .bool dead, .string text, v5, v6, .int .u64 flags] = .agg #[.int .i64 kind, .int .i64 time, .int .i64 node, .bool dead, .string ⟨text.data.toList.toArray⟩, v5, v6, .int .u64 ((UInt64.ofNat flags.toNat).toNat : Int)]
    rw [f7, ← str_eta]
theorem joinE_self (A : Va) : (joinE A A == 0) = okV A := by
  unfold joinE
  cases okV A <;> simp
theorem checkV_zero (A : Va) : (checkV A == 0) = okV A := by
  unfold checkV
  cases okV A <;> simp
theorem joinE_no {A B : Va} (h : okV A = false) : (joinE A B == 0) = false := by
  unfold joinE
  rw [h]
  rfl
theorem joinE_no2 {A B : Va} (h : okV B = false) : (joinE A B == 0) = false := by
  unfold joinE
  rw [h, Bool.and_false]
  rfl
end Go.Proofs.YtebjljiklacolaaGreat
end
section
namespace Go.Proofs.YtebjljiklacolaaGreat
open Go.RowKit Go.ChangeShapes Go.WideShapes
set_option linter.unusedVariables false
set_option linter.unusedSimpArgs false

structure CameE (E : En) : Prop where
  key : E.key.length ≤ maxLen
  val : CameV E.val
set_option maxRecDepth 100000 in
set_option maxHeartbeats 1000000 in
theorem open_en {W : World} {H : Type} {enc : TypeId × Value → H} {base b0 : Nat} {spare : Nat → Bool} {held : Bool} {v : Value} {d : DataW H} {p : List MemPlace} (hv : Value.okWide Tryz.prog W .any b0 27 v)
    (h : DataW.Trod enc Tryz.prog W base spare held 27 v d p) : ∃ E : En, isEn E v W ∧ CameE E := by
  obtain ⟨⟨l⟩, rfl, hsz⟩ := okWide_struct Tryz.underlying27 hv
  have hl : l.length = 9 := hsz.trans (by kernel_rfl)
  match l, hl with
  | [v8, v0, v1, v2, v3, v4, v5, v6, v7], _ =>
    obtain ⟨fuel0, hf0⟩ := h
    obtain ⟨xs0, n0, _, hxe0, _, hxl0, hg0⟩ := DataW.trod_struct Tryz.underlying27 hf0
    obtain ⟨z0, ez0⟩ : ∃ y, xs0[0]? = some y := ⟨_, List.getElem?_eq_getElem (by rw [hxl0]; decide)⟩
    obtain ⟨z1, ez1⟩ : ∃ y, xs0[1]? = some y := ⟨_, List.getElem?_eq_getElem (by rw [hxl0]; decide)⟩
    have g8 := hg0 0 _ rfl
    have hf := hg0 1 _ rfl
    have c2 : Tryz.prog.cellsOf 22 = 1 := by kernel_rfl
    have c3 : Tryz.prog.cellsOf 3 = 1 := by kernel_rfl
    have c4 : Tryz.prog.cellsOf 9 = 1 := by kernel_rfl
    have c5 : Tryz.prog.cellsOf 4 = 1 := by kernel_rfl
    have c6 : Tryz.prog.cellsOf 23 = 1 := by kernel_rfl
    have c7 : Tryz.prog.cellsOf 25 = 8 := by kernel_rfl
    have g8a : DataW.trod enc Tryz.prog W base spare held n0 9 (List.take (Tryz.prog.cellsOf 9) [v8, v0, v1, v2, v3, v4, v5, v6, v7]) = xs0[0]? := g8
    have hfa : DataW.trod enc Tryz.prog W base spare held n0 25 (List.take (Tryz.prog.cellsOf 25) [v0, v1, v2, v3, v4, v5, v6, v7]) = xs0[1]? := hf
    rw [ez0, c4] at g8a
    rw [ez1, c7] at hfa
    replace g8 : DataW.trod enc Tryz.prog W base spare held n0 9 [v8] = some z0 := g8a
    replace hf : DataW.trod enc Tryz.prog W base spare held n0 25 [v0, v1, v2, v3, v4, v5, v6, v7] = some z1 := hfa
    obtain ⟨key, h8, _, w8⟩ := DataW.trod_string Tryz.underlying9 g8
    obtain ⟨xs, n, _, hxe, _, hxl, hg⟩ := DataW.trod_struct Tryz.underlying25 hf
    have at_ : ∀ i, i < 8 → ∃ y, xs[i]? = some y := fun i hi => ⟨_, List.getElem?_eq_getElem (by rw [hxl]; exact hi)⟩
    obtain ⟨y0, e0⟩ := at_ 0 (by decide)
    obtain ⟨y1, e1⟩ := at_ 1 (by decide)
    obtain ⟨y2, e2⟩ := at_ 2 (by decide)
    obtain ⟨y3, e3⟩ := at_ 3 (by decide)
    obtain ⟨y4, e4⟩ := at_ 4 (by decide)
    obtain ⟨y5, e5⟩ := at_ 5 (by decide)
    obtain ⟨y6, e6⟩ := at_ 6 (by decide)
    obtain ⟨y7, e7⟩ := at_ 7 (by decide)
    have g0 := hg 0 _ rfl
    have g1 := hg 1 _ rfl
    have g2 := hg 2 _ rfl
    have g3 := hg 3 _ rfl
    have g4 := hg 4 _ rfl
    have g5 := hg 5 _ rfl
    have g6 := hg 6 _ rfl
    have g7 := hg 7 _ rfl
    have q0 : DataW.trod enc Tryz.prog W base spare held n 3 (List.take (Tryz.prog.cellsOf 3) [v0, v1, v2, v3, v4, v5, v6, v7]) = xs[0]? := g0
    rw [e0, c3] at q0
    replace g0 : DataW.trod enc Tryz.prog W base spare held n 3 [v0] = some y0 := q0
    have q1 : DataW.trod enc Tryz.prog W base spare held n 3 (List.take (Tryz.prog.cellsOf 3) [v1, v2, v3, v4, v5, v6, v7]) = xs[1]? := g1
    rw [e1, c3] at q1
    replace g1 : DataW.trod enc Tryz.prog W base spare held n 3 [v1] = some y1 := q1
    have q2 : DataW.trod enc Tryz.prog W base spare held n 3 (List.take (Tryz.prog.cellsOf 3) [v2, v3, v4, v5, v6, v7]) = xs[2]? := g2
    rw [e2, c3] at q2
    replace g2 : DataW.trod enc Tryz.prog W base spare held n 3 [v2] = some y2 := q2
    have q3 : DataW.trod enc Tryz.prog W base spare held n 4 (List.take (Tryz.prog.cellsOf 4) [v3, v4, v5, v6, v7]) = xs[3]? := g3
    rw [e3, c5] at q3
    replace g3 : DataW.trod enc Tryz.prog W base spare held n 4 [v3] = some y3 := q3
    have q4 : DataW.trod enc Tryz.prog W base spare held n 9 (List.take (Tryz.prog.cellsOf 9) [v4, v5, v6, v7]) = xs[4]? := g4
    rw [e4, c4] at q4
    replace g4 : DataW.trod enc Tryz.prog W base spare held n 9 [v4] = some y4 := q4
    have q5 : DataW.trod enc Tryz.prog W base spare held n 22 (List.take (Tryz.prog.cellsOf 22) [v5, v6, v7]) = xs[5]? := g5
    rw [e5, c2] at q5
    replace g5 : DataW.trod enc Tryz.prog W base spare held n 22 [v5] = some y5 := q5
    have q6 : DataW.trod enc Tryz.prog W base spare held n 22 (List.take (Tryz.prog.cellsOf 22) [v6, v7]) = xs[6]? := g6
    rw [e6, c2] at q6
    replace g6 : DataW.trod enc Tryz.prog W base spare held n 22 [v6] = some y6 := q6
    have q7 : DataW.trod enc Tryz.prog W base spare held n 23 (List.take (Tryz.prog.cellsOf 23) [v7]) = xs[7]? := g7
    rw [e7, c6] at q7
    replace g7 : DataW.trod enc Tryz.prog W base spare held n 23 [v7] = some y7 := q7
    obtain ⟨kind, h0, _, w0⟩ := DataW.trod_int Tryz.underlying3 g0
    obtain ⟨time, h1, _, w1⟩ := DataW.trod_int Tryz.underlying3 g1
    obtain ⟨node, h2, _, w2⟩ := DataW.trod_int Tryz.underlying3 g2
    obtain ⟨dead, h3, _⟩ := DataW.trod_bool Tryz.underlying4 g3
    obtain ⟨text, h4, _, w4⟩ := DataW.trod_string Tryz.underlying9 g4
    obtain ⟨plus, hp, hpn, hpw⟩ := open_row g5
    obtain ⟨minus, hm, hmn, hmw⟩ := open_row g6
    obtain ⟨flags, h7, _, w7⟩ := DataW.trod_int Tryz.underlying23 g7
    injection h8 with h8 _
    injection h0 with h0 _
    injection h1 with h1 _
    injection h2 with h2 _
    injection h3 with h3 _
    injection h4 with h4 _
    injection h7 with h7 _
    subst h0 h1 h2 h3 h4 h7 h8
    have b7 := wf_u64 w7
    have f7 : ((UInt64.ofNat flags.toNat).toNat : Int) = flags := by
      rw [UInt64.toNat_ofNat_of_lt' (by show flags.toNat < 18446744073709551616; omega)]
      omega
    refine ⟨⟨key.data.toList, ⟨kind, time, node, dead, text.data.toList, plus, minus, UInt64.ofNat flags.toNat⟩⟩, ⟨v5, v6, ?_, hp, hm⟩, ⟨by simpa using w8, ⟨w0, w1, w2, by simpa using w4, hpw, hmw, hpn, hmn⟩⟩⟩
    show Value.agg #[.string key, .int .i64 kind, .int .i64 time, .int .i64 node, .bool dead, .string text, v5, v6, .int .u64 flags] = .agg #[.string ⟨key.data.toList.toArray⟩, .int .i64 kind, .int .i64 time, .int .i64 node, .bool dead, .string ⟨text.data.toList.toArray⟩, v5, v6, .int .u64 ((UInt64.ofNat flags.toNat).toNat : Int)]
    rw [f7, ← str_eta, ← str_eta]
/-- Few. -/
def fewE (E : En) : Bool := fewV E.val && decide ((E.key.length : Int) ≤ 100)
theorem fewE_fit {E : En} (h : fewE E = true) : FitE E := by
  unfold fewE at h
  rw [Bool.and_eq_true, decide_eq_true_eq] at h
  exact ⟨by omega, few_fit h.1⟩
set_option maxRecDepth 100000 in
set_option maxHeartbeats 2000000 in
theorem efew_any (E : En) (v : Value) (w : World) (hv : isEn E v w) (hk : E.key.length ≤ maxLen) : Calls Tryz.prog 6 #[v] w fun e w' => e = .returned (.bool (fewE E)) ∧ Below w.heap.size w w' := by
  have hs : (⟨E.key.toArray⟩ : ByteArray).size = E.key.length := by simp [ByteArray.size]
  have HF := Kept.mk (show fewE E = (fewV E.val && decide ((E.key.length : Int) ≤ 100)) from rfl)
  obtain ⟨pe, me, rfl, hpe, hme⟩ := hv
  obtain ⟨hB, Ve⟩ := ebox w E pe me hpe hme (w.heap.size) (by simp)
  clear hpe hme
  obtain ⟨qe, re, xe, ye, ke0, ke1, ke2, ke3, ke4, ke5, ke6, ke7, ke8⟩ := Ve.out.open_
  have Xe := Kept.mk xe
  have Ye := Kept.mk ye
  clear xe ye
  go_enter Tryz.func6, Tryz.ntmps6
  go_wp2_with fail
  refine (vfew_any E.val _ _ Ye.out).mono ?_
  rintro e W1 ⟨rfl, hb1⟩
  replace hB := Kept.mk (hB.out.trans (hb1.mono hB.out.size))
  replace Ve := Kept.mk (Ve.out.keep hb1)
  clear hb1 Xe Ye ke0 ke1 ke2 ke3 ke4 ke5 ke6 ke7 ke8
  obtain ⟨_, _, _, _, ke0, _⟩ := Ve.out.open_
  cases hz : fewV E.val with
  | false =>
    rw [hz] at HF
    go_wp2
    go_ret
    exact ⟨by rw [HF.out]; rfl, hB.out⟩
  | true =>
    rw [hz] at HF
    go_wp2
    go_ret
    exact ⟨by rw [HF.out]; rfl, hB.out⟩
end Go.Proofs.YtebjljiklacolaaGreat
end
section
namespace Go.Proofs.YtebjljiklacolaaGreat
open Go.RowKit
set_option linter.unusedVariables false
set_option linter.unusedSimpArgs false
attribute [local irreducible] setN

def eA : En := ⟨[107], ⟨3, 0, 0, false, [], [], [], 5⟩⟩
def eB : En := ⟨[107], ⟨3, 0, 0, false, [], [], [], 2⟩⟩
def eC : En := ⟨[107], ⟨1, 2, 1, false, [118], [], [], 0⟩⟩
def eD : En := ⟨[107], ⟨3, 0, 0, false, [], [], [], 7⟩⟩
def sA : List UInt8 := [3, 1, 107, 0, 0, 0, 0, 0, 0, 0, 5] ++ List.replicate 31 0
theorem getEF_put {E : En} (h : okE E = true) : getEF (putEn E) = E ∧ getEE (putEn E) = 0 := by
  have := rd_putEn h
  unfold getEF getEE getOk
  rw [this]
  exact ⟨rfl, rfl⟩
theorem sA_put : putEn eA = sA := by kernel_rfl
theorem okA : okE eA = true := by kernel_rfl
theorem c_ac (v u : Value) (w : World) (hv : isEn eA v w) (hu : isEn eC u w) : Calls Tryz.prog 10 #[v, u] w fun e w' => ∃ v', e = .returned (.tuple #[v', .int .i64 3]) ∧ isEnN w.heap.size zeroE v' w' ∧ Below w.heap.size w w' := by
  have h := ejoin_any eA eC v u w hv hu ⟨by decide, ⟨by decide, by decide, by decide⟩⟩ ⟨by decide, ⟨by decide, by decide, by decide⟩⟩
  rwa [show joinEF eA eC = zeroE by kernel_rfl, show joinEE eA eC = 3 by kernel_rfl] at h
theorem c_ab (v u : Value) (w : World) (hv : isEn eA v w) (hu : isEn eB u w) : Calls Tryz.prog 10 #[v, u] w fun e w' => ∃ v', e = .returned (.tuple #[v', .int .i64 0]) ∧ isEnN w.heap.size eD v' w' ∧ Below w.heap.size w w' := by
  have h := ejoin_any eA eB v u w hv hu ⟨by decide, ⟨by decide, by decide, by decide⟩⟩ ⟨by decide, ⟨by decide, by decide, by decide⟩⟩
  rwa [show joinEF eA eB = eD by kernel_rfl, show joinEE eA eB = 0 by kernel_rfl] at h
theorem c_put (v : Value) (w : World) (hv : isEn eA v w) : Calls Tryz.prog 8 #[v] w fun e w' => e = .returned (.tuple #[.string ⟨sA.toArray⟩, .int .i64 0]) ∧ Below w.heap.size w w' := by
  have h := eput_any eA v w hv ⟨by decide, ⟨by decide, by decide, by decide⟩⟩
  rwa [show putF eA = sA by kernel_rfl, show chkE eA = 0 by kernel_rfl] at h
theorem c_putZ (v : Value) (w : World) (hv : isEn zeroE v w) : Calls Tryz.prog 8 #[v] w fun e w' => e = .returned (.tuple #[.string ⟨#[]⟩, .int .i64 2]) ∧ Below w.heap.size w w' := by
  have h := eput_any zeroE v w hv ⟨by decide, ⟨by decide, by decide, by decide⟩⟩
  rwa [show putF zeroE = [] by kernel_rfl, show chkE zeroE = 2 by kernel_rfl] at h
theorem c_get (w : World) : Calls Tryz.prog 17 #[.string ⟨sA.toArray⟩] w fun e w' => ∃ v', e = .returned (.tuple #[v', .int .i64 0]) ∧ isEnN w.heap.size eA v' w' ∧ Below w.heap.size w w' := by
  have h := eget_any sA w (by decide)
  have e := getEF_put okA
  rw [sA_put] at e
  rwa [e.1, e.2] at h
theorem c_getX (w : World) : Calls Tryz.prog 17 #[.string ⟨(sA ++ [120]).toArray⟩] w fun e w' => ∃ v', e = .returned (.tuple #[v', .int .i64 2]) ∧ isEnN w.heap.size zeroE v' w' ∧ Below w.heap.size w w' := by
  have h := eget_any (sA ++ [120]) w (by decide)
  have e := rd_len (s := sA ++ [120]) (by decide)
  rwa [show getEF (sA ++ [120]) = zeroE by unfold getEF; rw [e]; rfl, show getEE (sA ++ [120]) = 2 by unfold getEE getOk; rw [e]; rfl] at h
theorem eB_lit (w : World) : isEn eB (.agg #[.string ⟨#[107]⟩, .int .i64 3, .int .i64 0, .int .i64 0, .bool false, .string ⟨#[]⟩, .slice none 0 0, .slice none 0 0, .int .u64 2]) w := ⟨_, _, rfl, .inl ⟨rfl, rfl⟩, .inl ⟨rfl, rfl⟩⟩
theorem zeroE_lit (w : World) : isEn zeroE (.agg #[.string ⟨#[]⟩, .int .i64 0, .int .i64 0, .int .i64 0, .bool false, .string ⟨#[]⟩, .slice none 0 0, .slice none 0 0, .int .u64 0]) w := ⟨_, _, rfl, .inl ⟨rfl, rfl⟩, .inl ⟨rfl, rfl⟩⟩
theorem g_same (A B : En) (r : Bool) (v u : Value) (w : World) (hv : isEn A v w) (hu : isEn B u w) (h1 : Fit A.val) (h2 : Fit B.val) (hr : decide (A = B) = r) : Calls Tryz.prog 16 #[v, u] w fun e w' => e = .returned (.bool r) ∧ Below w.heap.size w w' := by
  subst hr; exact esame_any A B v u w hv hu h1 h2
theorem g_less (A B : En) (r : Bool) (v u : Value) (w : World) (hv : isEn A v w) (hu : isEn B u w) (hr : lessE A B = r) : Calls Tryz.prog 15 #[v, u] w fun e w' => e = .returned (.bool r) ∧ Below w.heap.size w w' := by
  subst hr; exact eless_any A B v u w hv hu
theorem g_check (A : En) (r : Int) (v : Value) (w : World) (hv : isEn A v w) (h1 : FitE A) (hr : chkE A = r) : Calls Tryz.prog 14 #[v] w fun e w' => e = .returned (.int .i64 r) ∧ Below w.heap.size w w' := by
  subst hr; exact echeck_any A v w hv h1
noncomputable def eworksOps : Array Oper := regionOf Tryz.f5 9
set_option maxRecDepth 100000 in
set_option maxHeartbeats 2000000 in
theorem eworks_region (Q : Exit → Act → World → Prop) (a0 : Act) (w0 : World) (hsz : a0.tmps.size = 125) 
    (hQ : ∀ (g : Nat → Value) (w : World), g 15 = .string ⟨sA.toArray⟩ → Below w0.heap.size w0 w → Q .normal { tmps := [54, 55, 56, 57, 58, 15].foldl (fun t s => t.setIfInBounds s (g s)) a0.tmps, defers := a0.defers } w) :
    (Code.region 9 eworksOps true).wp Tryz.prog Q a0 w0 := by
  obtain ⟨iu8, hiu8, hzu8, hsu8, _⟩ := info_parts Tryz.infoU8
  refine wp_region_flow mixed (by rw [hsz]; kernel_rfl) ?_
  rw [show eworksOps.size = 6 by kernel_rfl]
  refine ⟨isRow [3, 1, 107, 0, 0, 0, 0, 0, 0, 0, 5], step_row 39 5 #[(0, .const (.int .u8 3)), (1, .const (.int .u8 1)), (2, .const (.int .u8 107)), (3, .const (.int .u8 0)), (4, .const (.int .u8 0)), (5, .const (.int .u8 0)), (6, .const (.int .u8 0)), (7, .const (.int .u8 0)), (8, .const (.int .u8 0)), (9, .const (.int .u8 0)), (10, .const (.int .u8 5))] [3, 1, 107, 0, 0, 0, 0, 0, 0, 0, 5] iu8 (by kernel_rfl) (wanted_none (by kernel_rfl)) Tryz.underlying39 hiu8 hzu8 hsu8 (by decide) (by decide) (by kernel_rfl), ?_⟩
  refine ⟨isVal (.string ⟨[3, 1, 107, 0, 0, 0, 0, 0, 0, 0, 5].toArray⟩), step_convRow 39 9 5 (.tmp 54) [3, 1, 107, 0, 0, 0, 0, 0, 0, 0, 5] (by kernel_rfl) (wanted_none (by kernel_rfl)) (knows_new (V := isRow [3, 1, 107, 0, 0, 0, 0, 0, 0, 0, 5]) 54 0 (by kernel_rfl) (by kernel_rfl) (by kernel_rfl)) Tryz.underlying39 Tryz.underlying5 Tryz.underlying9, ?_⟩
  refine ⟨isRow (List.replicate 31 0), step_make 39 5 (.const (.int .i64 31)) 31 (by kernel_rfl) (wanted_none (by kernel_rfl)) (knows_const _) Tryz.underlying39 Tryz.infoU8 (by omega), ?_⟩
  refine ⟨isVal (.string ⟨(List.replicate 31 0).toArray⟩), step_convRow 39 9 5 (.tmp 56) (List.replicate 31 0) (by kernel_rfl) (wanted_none (by kernel_rfl)) (knows_new (V := isRow (List.replicate 31 0)) 56 2 (by kernel_rfl) (by kernel_rfl) (by kernel_rfl)) Tryz.underlying39 Tryz.underlying5 Tryz.underlying9, ?_⟩
  refine ⟨isVal (.string ⟨sA.toArray⟩), step_bin .add 9 9 (.tmp 55) (.tmp 57) (.string ⟨[3, 1, 107, 0, 0, 0, 0, 0, 0, 0, 5].toArray⟩) (.string ⟨(List.replicate 31 0).toArray⟩) (.string ⟨sA.toArray⟩) (by kernel_rfl) (wanted_none (by kernel_rfl)) (knows_new (V := isVal (.string ⟨[3, 1, 107, 0, 0, 0, 0, 0, 0, 0, 5].toArray⟩)) 55 1 (by kernel_rfl) (by kernel_rfl) (by kernel_rfl)) (knows_new (V := isVal (.string ⟨(List.replicate 31 0).toArray⟩)) 57 3 (by kernel_rfl) (by kernel_rfl) (by kernel_rfl)) (fun _ => rfl) (fun W => run_string_add_lists W [3, 1, 107, 0, 0, 0, 0, 0, 0, 0, 5] (List.replicate 31 0) (by decide) (by decide)), ?_⟩
  refine ⟨isVal (.string ⟨sA.toArray⟩), step_assign (.tmp 58) (by kernel_rfl) (wanted_none (by kernel_rfl)) (stable_val _) (knows_new (V := isVal (.string ⟨sA.toArray⟩)) 58 4 (by kernel_rfl) (by kernel_rfl) (by kernel_rfl)), ?_⟩
  intro a w hkp hb hd
  rw [kept_of hkp [some 54, some 55, some 56, some 57, some 58, some 15] [54, 55, 56, 57, 58, 15] (by kernel_rfl) (by decide)]
  have d15 := fdone_of (hd 5 (by rw [show eworksOps.size = 6 by kernel_rfl]; decide)) (t := 15) (V := isVal (.string ⟨sA.toArray⟩)) (by kernel_rfl) (by kernel_rfl)
  exact hQ (fun s => a.tmps.getD s undef) w d15 hb
set_option maxRecDepth 100000 in
set_option maxHeartbeats 4000000 in
theorem eworks_any (w : World) : Calls Tryz.prog 5 #[] w fun e w' => e = .returned (.bool true) ∧ Below w.heap.size w w' := by
  go_enter Tryz.func5, Tryz.ntmps5
  obtain ⟨K1, K2, K3, K4, K5⟩ := enew w eA (.slice none 0 0) (.slice none 0 0) (.inl ⟨rfl, rfl⟩) (.inl ⟨rfl, rfl⟩) w.heap.size rfl
  go_wp2_with (have hz0 := K1; refine wpList_storeN 27 rfl (.tmp 1) (.tmp 17) rfl w.heap.size [.string ⟨eA.key.toArray⟩, .int .i64 eA.val.kind, .int .i64 eA.val.time, .int .i64 eA.val.node, .bool eA.val.dead, .string ⟨eA.val.text.toArray⟩, .slice none 0 0, .slice none 0 0, .int .u64 (eA.val.flags.toNat : Int)] size_en rfl rfl K1.out rfl K2.out K5.out ?_; have hB := Kept.mk K3.out; have Va := Kept.mk (show VarN _ _ eA from ⟨_, _, K4.out⟩); clear hz0 K1 K2 K3 K4 K5; generalize setN (w.alloc (.cells #[.string ⟨#[]⟩, .int .i64 0, .int .i64 0, .int .i64 0, .bool false, .string ⟨#[]⟩, .slice none 0 0, .slice none 0 0, .int .u64 0] 27)) w.heap.size 0 [.string ⟨eA.key.toArray⟩, .int .i64 eA.val.kind, .int .i64 eA.val.time, .int .i64 eA.val.node, .bool eA.val.dead, .string ⟨eA.val.text.toArray⟩, .slice none 0 0, .slice none 0 0, .int .u64 (eA.val.flags.toNat : Int)] = W1 at *; skip; obtain ⟨qa, ra, xa, ya, ka0, ka1, ka2, ka3, ka4, ka5, ka6, ka7, ka8⟩ := Va.out.open_; have Xa := Kept.mk xa; have Ya := Kept.mk ya; clear xa ya)
  ((with_reducible refine (c_put _ _ Xa.out).mono ?_); rintro e W2 ⟨rfl, hb1⟩)
  clear Xa Ya ka0 ka1 ka2 ka3 ka4 ka5 ka6 ka7 ka8
  replace hB := Kept.mk (hB.out.trans ((hb1).mono hB.out.size))
  replace Va := Kept.mk (Va.out.keep (hb1))
  clear hb1
  go_wp2_with fail
  ((with_reducible refine (c_get _).mono ?_); rintro e U ⟨v', rfl, ⟨p', m', rfl, hp', hm', _, _⟩, hb1⟩)
  obtain ⟨K1, K2, K3, K4, K5⟩ := enew U eA p' m' hp' hm' U.heap.size rfl
  clear hp' hm'
  replace hB := Kept.mk (hB.out.trans ((hb1).mono hB.out.size))
  replace Va := Kept.mk (Va.out.keep (hb1))
  clear hb1
  go_wp2_with (first | (have hz0 := K1; refine wpList_storeN 27 rfl (.tmp 4) (.tmp 26) rfl U.heap.size [.string ⟨eA.key.toArray⟩, .int .i64 eA.val.kind, .int .i64 eA.val.time, .int .i64 eA.val.node, .bool eA.val.dead, .string ⟨eA.val.text.toArray⟩, p', m', .int .u64 (eA.val.flags.toNat : Int)] size_en rfl rfl K1.out rfl K2.out K5.out ?_; replace hB := Kept.mk (hB.out.trans ((K3.out).mono hB.out.size)); replace Va := Kept.mk (Va.out.keep (K3.out)); have Vb := Kept.mk (show VarN _ _ eA from ⟨_, _, K4.out⟩); clear hz0 K1 K2 K3 K4 K5; generalize setN (U.alloc (.cells #[.string ⟨#[]⟩, .int .i64 0, .int .i64 0, .int .i64 0, .bool false, .string ⟨#[]⟩, .slice none 0 0, .slice none 0 0, .int .u64 0] 27)) U.heap.size 0 [.string ⟨eA.key.toArray⟩, .int .i64 eA.val.kind, .int .i64 eA.val.time, .int .i64 eA.val.node, .bool eA.val.dead, .string ⟨eA.val.text.toArray⟩, p', m', .int .u64 (eA.val.flags.toNat : Int)] = W3 at *; generalize U.heap.size = gb at *; obtain ⟨K1, K2, K3, K4, K5⟩ := enew W3 eC (.slice none 0 0) (.slice none 0 0) (.inl ⟨rfl, rfl⟩) (.inl ⟨rfl, rfl⟩) W3.heap.size rfl) | (have hz0 := K1; refine wpList_storeN 27 rfl (.tmp 6) (.tmp 29) rfl W3.heap.size [.string ⟨eC.key.toArray⟩, .int .i64 eC.val.kind, .int .i64 eC.val.time, .int .i64 eC.val.node, .bool eC.val.dead, .string ⟨eC.val.text.toArray⟩, .slice none 0 0, .slice none 0 0, .int .u64 (eC.val.flags.toNat : Int)] size_en rfl rfl K1.out rfl K2.out K5.out ?_; replace hB := Kept.mk (hB.out.trans ((K3.out).mono hB.out.size)); replace Va := Kept.mk (Va.out.keep (K3.out)); replace Vb := Kept.mk (Vb.out.keep (K3.out)); have Vc := Kept.mk (show VarN _ _ eC from ⟨_, _, K4.out⟩); clear hz0 K1 K2 K3 K4 K5; generalize setN (W3.alloc (.cells #[.string ⟨#[]⟩, .int .i64 0, .int .i64 0, .int .i64 0, .bool false, .string ⟨#[]⟩, .slice none 0 0, .slice none 0 0, .int .u64 0] 27)) W3.heap.size 0 [.string ⟨eC.key.toArray⟩, .int .i64 eC.val.kind, .int .i64 eC.val.time, .int .i64 eC.val.node, .bool eC.val.dead, .string ⟨eC.val.text.toArray⟩, .slice none 0 0, .slice none 0 0, .int .u64 (eC.val.flags.toNat : Int)] = W4 at *; generalize W3.heap.size = gc at *; obtain ⟨qa, ra, xa, ya, ka0, ka1, ka2, ka3, ka4, ka5, ka6, ka7, ka8⟩ := Va.out.open_; have Xa := Kept.mk xa; have Ya := Kept.mk ya; clear xa ya; obtain ⟨qc, rc, xc, yc, kc0, kc1, kc2, kc3, kc4, kc5, kc6, kc7, kc8⟩ := Vc.out.open_; have Xc := Kept.mk xc; have Yc := Kept.mk yc; clear xc yc))
  ((with_reducible refine (c_ac _ _ _ Xa.out Xc.out).mono ?_); rintro e U ⟨v', rfl, ⟨p', m', rfl, hp', hm', _, _⟩, hb1⟩)
  obtain ⟨K1, K2, K3, K4, K5⟩ := enew U zeroE p' m' hp' hm' U.heap.size rfl
  clear hp' hm'
  clear Xa Ya ka0 ka1 ka2 ka3 ka4 ka5 ka6 ka7 ka8
  clear Xc Yc kc0 kc1 kc2 kc3 kc4 kc5 kc6 kc7 kc8
  replace hB := Kept.mk (hB.out.trans ((hb1).mono hB.out.size))
  replace Va := Kept.mk (Va.out.keep (hb1))
  replace Vb := Kept.mk (Vb.out.keep (hb1))
  replace Vc := Kept.mk (Vc.out.keep (hb1))
  clear hb1
  go_wp2_with (have hz0 := K1; refine wpList_storeN 27 rfl (.tmp 7) (.tmp 34) rfl U.heap.size [.string ⟨zeroE.key.toArray⟩, .int .i64 zeroE.val.kind, .int .i64 zeroE.val.time, .int .i64 zeroE.val.node, .bool zeroE.val.dead, .string ⟨zeroE.val.text.toArray⟩, p', m', .int .u64 (zeroE.val.flags.toNat : Int)] size_en rfl rfl K1.out rfl K2.out K5.out ?_; replace hB := Kept.mk (hB.out.trans ((K3.out).mono hB.out.size)); replace Va := Kept.mk (Va.out.keep (K3.out)); replace Vb := Kept.mk (Vb.out.keep (K3.out)); replace Vc := Kept.mk (Vc.out.keep (K3.out)); have Vx := Kept.mk (show VarN _ _ zeroE from ⟨_, _, K4.out⟩); clear hz0 K1 K2 K3 K4 K5; generalize setN (U.alloc (.cells #[.string ⟨#[]⟩, .int .i64 0, .int .i64 0, .int .i64 0, .bool false, .string ⟨#[]⟩, .slice none 0 0, .slice none 0 0, .int .u64 0] 27)) U.heap.size 0 [.string ⟨zeroE.key.toArray⟩, .int .i64 zeroE.val.kind, .int .i64 zeroE.val.time, .int .i64 zeroE.val.node, .bool zeroE.val.dead, .string ⟨zeroE.val.text.toArray⟩, p', m', .int .u64 (zeroE.val.flags.toNat : Int)] = W5 at *; generalize U.heap.size = gx at *; obtain ⟨qa, ra, xa, ya, ka0, ka1, ka2, ka3, ka4, ka5, ka6, ka7, ka8⟩ := Va.out.open_; have Xa := Kept.mk xa; have Ya := Kept.mk ya; clear xa ya)
  ((with_reducible refine (c_ab _ _ _ Xa.out (eB_lit _)).mono ?_); rintro e U ⟨v', rfl, ⟨p', m', rfl, hp', hm', _, _⟩, hb1⟩)
  obtain ⟨K1, K2, K3, K4, K5⟩ := enew U eD p' m' hp' hm' U.heap.size rfl
  clear hp' hm'
  clear Xa Ya ka0 ka1 ka2 ka3 ka4 ka5 ka6 ka7 ka8
  replace hB := Kept.mk (hB.out.trans ((hb1).mono hB.out.size))
  replace Va := Kept.mk (Va.out.keep (hb1))
  replace Vb := Kept.mk (Vb.out.keep (hb1))
  replace Vc := Kept.mk (Vc.out.keep (hb1))
  replace Vx := Kept.mk (Vx.out.keep (hb1))
  clear hb1
  go_wp2_with (have hz0 := K1; refine wpList_storeN 27 rfl (.tmp 9) (.tmp 41) rfl U.heap.size [.string ⟨eD.key.toArray⟩, .int .i64 eD.val.kind, .int .i64 eD.val.time, .int .i64 eD.val.node, .bool eD.val.dead, .string ⟨eD.val.text.toArray⟩, p', m', .int .u64 (eD.val.flags.toNat : Int)] size_en rfl rfl K1.out rfl K2.out K5.out ?_; replace hB := Kept.mk (hB.out.trans ((K3.out).mono hB.out.size)); replace Va := Kept.mk (Va.out.keep (K3.out)); replace Vb := Kept.mk (Vb.out.keep (K3.out)); replace Vc := Kept.mk (Vc.out.keep (K3.out)); replace Vx := Kept.mk (Vx.out.keep (K3.out)); have Vd := Kept.mk (show VarN _ _ eD from ⟨_, _, K4.out⟩); clear hz0 K1 K2 K3 K4 K5; generalize setN (U.alloc (.cells #[.string ⟨#[]⟩, .int .i64 0, .int .i64 0, .int .i64 0, .bool false, .string ⟨#[]⟩, .slice none 0 0, .slice none 0 0, .int .u64 0] 27)) U.heap.size 0 [.string ⟨eD.key.toArray⟩, .int .i64 eD.val.kind, .int .i64 eD.val.time, .int .i64 eD.val.node, .bool eD.val.dead, .string ⟨eD.val.text.toArray⟩, p', m', .int .u64 (eD.val.flags.toNat : Int)] = W6 at *; generalize U.heap.size = gd at *; have hcat := fun W => run_string_add_lists (P := Tryz.prog) W sA [120] (by decide) (by decide))
  clear hcat
  ((with_reducible refine (c_getX _).mono ?_); rintro e U ⟨v', rfl, ⟨p', m', rfl, hp', hm', _, _⟩, hb1⟩)
  obtain ⟨K1, K2, K3, K4, K5⟩ := enew U zeroE p' m' hp' hm' U.heap.size rfl
  clear hp' hm'
  replace hB := Kept.mk (hB.out.trans ((hb1).mono hB.out.size))
  replace Va := Kept.mk (Va.out.keep (hb1))
  replace Vb := Kept.mk (Vb.out.keep (hb1))
  replace Vc := Kept.mk (Vc.out.keep (hb1))
  replace Vx := Kept.mk (Vx.out.keep (hb1))
  replace Vd := Kept.mk (Vd.out.keep (hb1))
  clear hb1
  go_wp2_with (have hz0 := K1; refine wpList_storeN 27 rfl (.tmp 11) (.tmp 47) rfl U.heap.size [.string ⟨zeroE.key.toArray⟩, .int .i64 zeroE.val.kind, .int .i64 zeroE.val.time, .int .i64 zeroE.val.node, .bool zeroE.val.dead, .string ⟨zeroE.val.text.toArray⟩, p', m', .int .u64 (zeroE.val.flags.toNat : Int)] size_en rfl rfl K1.out rfl K2.out K5.out ?_; replace hB := Kept.mk (hB.out.trans ((K3.out).mono hB.out.size)); replace Va := Kept.mk (Va.out.keep (K3.out)); replace Vb := Kept.mk (Vb.out.keep (K3.out)); replace Vc := Kept.mk (Vc.out.keep (K3.out)); replace Vx := Kept.mk (Vx.out.keep (K3.out)); replace Vd := Kept.mk (Vd.out.keep (K3.out)); have Vy := Kept.mk (show VarN _ _ zeroE from ⟨_, _, K4.out⟩); clear hz0 K1 K2 K3 K4 K5; generalize setN (U.alloc (.cells #[.string ⟨#[]⟩, .int .i64 0, .int .i64 0, .int .i64 0, .bool false, .string ⟨#[]⟩, .slice none 0 0, .slice none 0 0, .int .u64 0] 27)) U.heap.size 0 [.string ⟨zeroE.key.toArray⟩, .int .i64 zeroE.val.kind, .int .i64 zeroE.val.time, .int .i64 zeroE.val.node, .bool zeroE.val.dead, .string ⟨zeroE.val.text.toArray⟩, p', m', .int .u64 (zeroE.val.flags.toNat : Int)] = W7 at *; generalize U.heap.size = gy at *)
  ((with_reducible refine (c_putZ _ _ (zeroE_lit _)).mono ?_); rintro e W8 ⟨rfl, hb1⟩)
  replace hB := Kept.mk (hB.out.trans ((hb1).mono hB.out.size))
  replace Va := Kept.mk (Va.out.keep (hb1))
  replace Vb := Kept.mk (Vb.out.keep (hb1))
  replace Vc := Kept.mk (Vc.out.keep (hb1))
  replace Vx := Kept.mk (Vx.out.keep (hb1))
  replace Vd := Kept.mk (Vd.out.keep (hb1))
  replace Vy := Kept.mk (Vy.out.keep (hb1))
  clear hb1
  go_wp2_with fail
  refine eworks_region _ _ _ rfl ?_
  intro f9 W9 d15 hb9
  simp only [List.foldl_cons, List.foldl_nil, d15]
  generalize f9 54 = y54
  generalize f9 55 = y55
  generalize f9 56 = y56
  generalize f9 57 = y57
  generalize f9 58 = y58
  clear d15
  simp only [List.setIfInBounds_toArray, List.set_cons_succ, List.set_cons_zero]
  replace hB := Kept.mk (hB.out.trans ((hb9).mono hB.out.size))
  replace Va := Kept.mk (Va.out.keep (hb9))
  replace Vb := Kept.mk (Vb.out.keep (hb9))
  replace Vc := Kept.mk (Vc.out.keep (hb9))
  replace Vx := Kept.mk (Vx.out.keep (hb9))
  replace Vd := Kept.mk (Vd.out.keep (hb9))
  replace Vy := Kept.mk (Vy.out.keep (hb9))
  clear hb9
  obtain ⟨qa, ra, xa, ya, ka0, ka1, ka2, ka3, ka4, ka5, ka6, ka7, ka8⟩ := Va.out.open_
  have Xa := Kept.mk xa
  have Ya := Kept.mk ya
  clear xa ya
  obtain ⟨qb, rb, xb, yb, kb0, kb1, kb2, kb3, kb4, kb5, kb6, kb7, kb8⟩ := Vb.out.open_
  have Xb := Kept.mk xb
  have Yb := Kept.mk yb
  clear xb yb
  have hsa : (sA == sA) = true := by decide
  go_wp2_with fail
  ((with_reducible refine (g_same eA eA true _ _ _ Xa.out Xb.out ⟨by decide, by decide, by decide⟩ ⟨by decide, by decide, by decide⟩ (by decide)).mono ?_); rintro e W9 ⟨rfl, hb1⟩)
  clear Xa Ya ka0 ka1 ka2 ka3 ka4 ka5 ka6 ka7 ka8
  clear Xb Yb kb0 kb1 kb2 kb3 kb4 kb5 kb6 kb7 kb8
  replace hB := Kept.mk (hB.out.trans ((hb1).mono hB.out.size))
  replace Va := Kept.mk (Va.out.keep (hb1))
  replace Vb := Kept.mk (Vb.out.keep (hb1))
  replace Vc := Kept.mk (Vc.out.keep (hb1))
  replace Vx := Kept.mk (Vx.out.keep (hb1))
  replace Vd := Kept.mk (Vd.out.keep (hb1))
  replace Vy := Kept.mk (Vy.out.keep (hb1))
  clear hb1
  obtain ⟨qd, rd, xd, yd, kd0, kd1, kd2, kd3, kd4, kd5, kd6, kd7, kd8⟩ := Vd.out.open_
  have Xd := Kept.mk xd
  have Yd := Kept.mk yd
  clear xd yd
  obtain ⟨qc, rc, xc, yc, kc0, kc1, kc2, kc3, kc4, kc5, kc6, kc7, kc8⟩ := Vc.out.open_
  have Xc := Kept.mk xc
  have Yc := Kept.mk yc
  clear xc yc
  obtain ⟨qa, ra, xa, ya, ka0, ka1, ka2, ka3, ka4, ka5, ka6, ka7, ka8⟩ := Va.out.open_
  have Xa := Kept.mk xa
  have Ya := Kept.mk ya
  clear xa ya
  have h7 : ((eD.val.flags.toNat : Int) == 7) = true := by decide
  go_wp2_with fail
  clear h7
  ((with_reducible refine (g_less eC eA true _ _ _ Xc.out Xa.out (by kernel_rfl)).mono ?_); rintro e W10 ⟨rfl, hb1⟩)
  clear Xd Yd kd0 kd1 kd2 kd3 kd4 kd5 kd6 kd7 kd8
  clear Xc Yc kc0 kc1 kc2 kc3 kc4 kc5 kc6 kc7 kc8
  clear Xa Ya ka0 ka1 ka2 ka3 ka4 ka5 ka6 ka7 ka8
  replace hB := Kept.mk (hB.out.trans ((hb1).mono hB.out.size))
  replace Va := Kept.mk (Va.out.keep (hb1))
  replace Vb := Kept.mk (Vb.out.keep (hb1))
  replace Vc := Kept.mk (Vc.out.keep (hb1))
  replace Vx := Kept.mk (Vx.out.keep (hb1))
  replace Vd := Kept.mk (Vd.out.keep (hb1))
  replace Vy := Kept.mk (Vy.out.keep (hb1))
  clear hb1
  obtain ⟨qa, ra, xa, ya, ka0, ka1, ka2, ka3, ka4, ka5, ka6, ka7, ka8⟩ := Va.out.open_
  have Xa := Kept.mk xa
  have Ya := Kept.mk ya
  clear xa ya
  obtain ⟨qc, rc, xc, yc, kc0, kc1, kc2, kc3, kc4, kc5, kc6, kc7, kc8⟩ := Vc.out.open_
  have Xc := Kept.mk xc
  have Yc := Kept.mk yc
  clear xc yc
  go_wp2_with fail
  ((with_reducible refine (g_less eA eC false _ _ _ Xa.out Xc.out (by kernel_rfl)).mono ?_); rintro e W11 ⟨rfl, hb1⟩)
  clear Xa Ya ka0 ka1 ka2 ka3 ka4 ka5 ka6 ka7 ka8
  clear Xc Yc kc0 kc1 kc2 kc3 kc4 kc5 kc6 kc7 kc8
  replace hB := Kept.mk (hB.out.trans ((hb1).mono hB.out.size))
  replace Va := Kept.mk (Va.out.keep (hb1))
  replace Vb := Kept.mk (Vb.out.keep (hb1))
  replace Vc := Kept.mk (Vc.out.keep (hb1))
  replace Vx := Kept.mk (Vx.out.keep (hb1))
  replace Vd := Kept.mk (Vd.out.keep (hb1))
  replace Vy := Kept.mk (Vy.out.keep (hb1))
  clear hb1
  obtain ⟨qa, ra, xa, ya, ka0, ka1, ka2, ka3, ka4, ka5, ka6, ka7, ka8⟩ := Va.out.open_
  have Xa := Kept.mk xa
  have Ya := Kept.mk ya
  clear xa ya
  go_wp2_with fail
  ((with_reducible refine (g_less eA eA false _ _ _ Xa.out Xa.out (by kernel_rfl)).mono ?_); rintro e W12 ⟨rfl, hb1⟩)
  clear Xa Ya ka0 ka1 ka2 ka3 ka4 ka5 ka6 ka7 ka8
  replace hB := Kept.mk (hB.out.trans ((hb1).mono hB.out.size))
  replace Va := Kept.mk (Va.out.keep (hb1))
  replace Vb := Kept.mk (Vb.out.keep (hb1))
  replace Vc := Kept.mk (Vc.out.keep (hb1))
  replace Vx := Kept.mk (Vx.out.keep (hb1))
  replace Vd := Kept.mk (Vd.out.keep (hb1))
  replace Vy := Kept.mk (Vy.out.keep (hb1))
  clear hb1
  obtain ⟨qc, rc, xc, yc, kc0, kc1, kc2, kc3, kc4, kc5, kc6, kc7, kc8⟩ := Vc.out.open_
  have Xc := Kept.mk xc
  have Yc := Kept.mk yc
  clear xc yc
  go_wp2_with fail
  ((with_reducible refine (g_check eC 0 _ _ Xc.out ⟨by decide, ⟨by decide, by decide, by decide⟩⟩ (by kernel_rfl)).mono ?_); rintro e W13 ⟨rfl, hb1⟩)
  clear Xc Yc kc0 kc1 kc2 kc3 kc4 kc5 kc6 kc7 kc8
  replace hB := Kept.mk (hB.out.trans ((hb1).mono hB.out.size))
  replace Va := Kept.mk (Va.out.keep (hb1))
  replace Vb := Kept.mk (Vb.out.keep (hb1))
  replace Vc := Kept.mk (Vc.out.keep (hb1))
  replace Vx := Kept.mk (Vx.out.keep (hb1))
  replace Vd := Kept.mk (Vd.out.keep (hb1))
  replace Vy := Kept.mk (Vy.out.keep (hb1))
  clear hb1
  obtain ⟨qa, ra, xa, ya, ka0, ka1, ka2, ka3, ka4, ka5, ka6, ka7, ka8⟩ := Va.out.open_
  have Xa := Kept.mk xa
  have Ya := Kept.mk ya
  clear xa ya
  obtain ⟨qc, rc, xc, yc, kc0, kc1, kc2, kc3, kc4, kc5, kc6, kc7, kc8⟩ := Vc.out.open_
  have Xc := Kept.mk xc
  have Yc := Kept.mk yc
  clear xc yc
  go_wp2_with fail
  ((with_reducible refine (g_same eA eC false _ _ _ Xa.out Xc.out ⟨by decide, by decide, by decide⟩ ⟨by decide, by decide, by decide⟩ (by decide)).mono ?_); rintro e W14 ⟨rfl, hb1⟩)
  clear Xa Ya ka0 ka1 ka2 ka3 ka4 ka5 ka6 ka7 ka8
  clear Xc Yc kc0 kc1 kc2 kc3 kc4 kc5 kc6 kc7 kc8
  replace hB := Kept.mk (hB.out.trans ((hb1).mono hB.out.size))
  replace Va := Kept.mk (Va.out.keep (hb1))
  replace Vb := Kept.mk (Vb.out.keep (hb1))
  replace Vc := Kept.mk (Vc.out.keep (hb1))
  replace Vx := Kept.mk (Vx.out.keep (hb1))
  replace Vd := Kept.mk (Vd.out.keep (hb1))
  replace Vy := Kept.mk (Vy.out.keep (hb1))
  clear hb1
  go_wp2
  go_ret
  exact ⟨rfl, hB.out⟩
end Go.Proofs.YtebjljiklacolaaGreat
end
section
namespace Go.Proofs.YtebjljiklacolaaGreat
open Go.RowKit
set_option linter.unusedVariables false
set_option linter.unusedSimpArgs false

theorem eput_yes (E : En) (s : List UInt8) (v : Value) (w : World) (hv : isEn E v w) (hF : FitE E) (hok : okE E = true) (hs : putEn E = s) : Calls Tryz.prog 8 #[v] w fun e w' => e = .returned (.tuple #[.string ⟨s.toArray⟩, .int .i64 0]) ∧ Below w.heap.size w w' := by
  have h := eput_any E v w hv hF
  rwa [show putF E = s by unfold putF; rw [if_pos hok]; exact hs, chk_ok hok] at h
theorem eput_no (E : En) (v : Value) (w : World) (hv : isEn E v w) (hF : FitE E) (hok : okE E = false) : Calls Tryz.prog 8 #[v] w fun e w' => e = .returned (.tuple #[.string ⟨#[]⟩, .int .i64 2]) ∧ Below w.heap.size w w' := by
  have h := eput_any E v w hv hF
  rwa [show putF E = [] by unfold putF; rw [hok]; rfl, chk_no hok] at h
theorem eget_yes (s : List UInt8) (E : En) (w : World) (h : rdEn s = some E) (hl : s.length ≤ 1000) : Calls Tryz.prog 17 #[.string ⟨s.toArray⟩] w fun e w' => ∃ v', e = .returned (.tuple #[v', .int .i64 0]) ∧ isEnN w.heap.size E v' w' ∧ Below w.heap.size w w' := by
  have hg := eget_any s w hl
  rwa [show getEF s = E by unfold getEF; rw [h]; rfl, show getEE s = 0 by unfold getEE getOk; rw [h]; rfl] at hg
theorem eget_no (s : List UInt8) (w : World) (h : rdEn s = none) (hl : s.length ≤ 1000) : Calls Tryz.prog 17 #[.string ⟨s.toArray⟩] w fun e w' => ∃ v', e = .returned (.tuple #[v', .int .i64 2]) ∧ isEnN w.heap.size zeroE v' w' ∧ Below w.heap.size w w' := by
  have hg := eget_any s w hl
  rwa [show getEF s = zeroE by unfold getEF; rw [h]; rfl, show getEE s = 2 by unfold getEE getOk; rw [h]; rfl] at hg
theorem join_at (A B : En) (r : Int) (G : En) (v u : Value) (w : World) (hv : isEn A v w) (hu : isEn B u w) (hA : FitE A) (hF : FitE B) (hr : joinEE A B = r) (hg : joinEF A B = G) : Calls Tryz.prog 10 #[v, u] w fun e w' => ∃ v', e = .returned (.tuple #[v', .int .i64 r]) ∧ isEnN w.heap.size G v' w' ∧ Below w.heap.size w w' := by
  subst hr hg; exact ejoin_any A B v u w hv hu hA hF
theorem vjoin_at (A B : Va) (r : Int) (G : Va) (v u : Value) (w : World) (hv : isVa A v w) (hu : isVa B u w) (hA : Fit A) (hF : Fit B) (hr : joinE A B = r) (hg : joinF A B = G) : Calls Tryz.prog 28 #[v, u] w fun e w' => ∃ v', e = .returned (.tuple #[v', .int .i64 r]) ∧ isVaN w.heap.size G v' w' ∧ Below w.heap.size w w' := by
  subst hr hg; exact vjoin_any A B v u w hv hu hA hF
theorem gv_same (A B : Va) (r : Bool) (v u : Value) (w : World) (hv : isVa A v w) (hu : isVa B u w) (h1 : Fit A) (h2 : Fit B) (hr : decide (A = B) = r) : Calls Tryz.prog 33 #[v, u] w fun e w' => e = .returned (.bool r) ∧ Below w.heap.size w w' := by
  subst hr; exact vsame_fit A B v u w hv hu h1 h2
theorem fitE_zero : FitE zeroE := ⟨by decide, ⟨by decide, by decide, by decide⟩⟩
/-- What is put tells what it was. -/
theorem put_inj {A B : En} (hA : okE A = true) (hB : okE B = true) : (putEn A == putEn B) = decide (A = B) := by
  rw [Bool.eq_iff_iff, beq_iff_eq, decide_eq_true_eq]
  constructor
  · intro h
    have h1 := rd_putEn hA
    rw [h, rd_putEn hB] at h1
    injection h1 with h1
    exact h1.symm
  · rintro rfl; rfl
theorem ok_fit {E : En} (h : okE E = true) : FitE E := by
  simp only [okE, Bool.and_eq_true, decide_eq_true_eq] at h
  obtain ⟨⟨h1, h8⟩, hv⟩ := h
  refine ⟨by omega, ?_⟩
  unfold okV kindN at hv
  split at hv
  · split at hv
    · rename_i hi
      simp only [inReg, Bool.and_eq_true, decide_eq_true_eq] at hi
      obtain ⟨⟨⟨_, h8'⟩, _⟩, ho⟩ := hi
      refine ⟨by omega, ?_, ?_⟩
      · rw [ho]; show 0 ≤ _; omega
      · rw [ho]; show 0 ≤ _; omega
    · simp at hv
  · split at hv
    · split at hv
      · rename_i hi
        simp only [inCount, okRow, Bool.and_eq_true, decide_eq_true_eq] at hi
        obtain ⟨⟨⟨l1, _⟩, ⟨l2, _⟩⟩, ho⟩ := hi
        refine ⟨?_, by omega, by omega⟩
        rw [ho]; show 0 ≤ _; omega
      · simp at hv
    · split at hv
      · split at hv
        · rename_i ho
          simp only [decide_eq_true_eq] at ho
          refine ⟨?_, ?_, ?_⟩ <;> (rw [ho]; show 0 ≤ _; omega)
        · simp at hv
      · simp at hv
end Go.Proofs.YtebjljiklacolaaGreat
end
section
namespace Go.Proofs.YtebjljiklacolaaGreat
set_option linter.unusedVariables false
set_option linter.unusedSimpArgs false

theorem lessE_iff (A B : En) : lessE A B = true ↔ A.val.kind < B.val.kind ∨ (A.val.kind = B.val.kind ∧ Op.bytesLess A.key B.key = true) := by
  unfold lessE
  by_cases h : A.val.kind = B.val.kind
  · rw [if_pos h, h]; simp
  · rw [if_neg h]; simp [h]
theorem less_both (A B : En) (h1 : lessE A B = true) (h2 : lessE B A = true) : False := by
  rw [lessE_iff] at h1 h2
  rcases h1 with h1 | ⟨e1, h1⟩ <;> rcases h2 with h2 | ⟨e2, h2⟩
  · omega
  · omega
  · omega
  · have := less_trans h1 h2
    rw [less_irrefl] at this
    cases this
theorem less_name (A B : En) (h : nameB A B = true) : lessE A B = false := by
  unfold nameB at h
  simp only [Bool.and_eq_true, decide_eq_true_eq] at h
  unfold lessE
  rw [if_pos h.1, h.2, less_irrefl]
theorem less_none (A B : En) (h1 : lessE A B = false) (h2 : lessE B A = false) : nameB A B = true := by
  unfold lessE at h1 h2
  by_cases h : A.val.kind = B.val.kind
  · rw [if_pos h] at h1
    rw [if_pos h.symm] at h2
    have := less_total _ _ h1 h2
    unfold nameB
    simp [h, this]
  · rw [if_neg h] at h1
    rw [if_neg (fun e => h e.symm)] at h2
    simp at h1 h2
    omega
theorem lessE_trans (A B C : En) (h1 : lessE A B = true) (h2 : lessE B C = true) : lessE A C = true := by
  rw [lessE_iff] at h1 h2 ⊢
  rcases h1 with h1 | ⟨e1, h1⟩ <;> rcases h2 with h2 | ⟨e2, h2⟩
  · left; omega
  · left; omega
  · left; omega
  · right; exact ⟨by omega, less_trans h1 h2⟩
theorem name_comm (A B : En) : nameB A B = nameB B A := by
  unfold nameB
  rw [Bool.eq_iff_iff]
  simp only [Bool.and_eq_true, decide_eq_true_eq]
  exact ⟨fun h => ⟨h.1.symm, h.2.symm⟩, fun h => ⟨h.1.symm, h.2.symm⟩⟩
theorem joinEE_zero {A B : En} (h : joinEE A B = 0) : okE A = true ∧ okE B = true ∧ nameB A B = true := by
  unfold joinEE at h
  split at h
  · rename_i h1
    rw [Bool.and_eq_true] at h1
    split at h
    · rename_i h2
      exact ⟨h1.1, h1.2, h2⟩
    · simp at h
  · simp at h
theorem joinEE_name {A B : En} (h : nameB A B = true) : ¬ joinEE A B = 3 := by
  unfold joinEE
  rw [h]
  split <;> simp
theorem joinEE_comm (A B : En) : joinEE A B = joinEE B A := by
  unfold joinEE
  rw [name_comm A B, Bool.and_comm]
theorem okE_val {E : En} (h : okE E = true) : okV E.val = true := by unfold okE at h; rw [Bool.and_eq_true] at h; exact h.2
theorem joinE_val {A B : En} (h : joinEE A B = 0) : joinE A.val B.val = 0 ∧ A.val.kind = B.val.kind ∧ A.key = B.key := by
  obtain ⟨h1, h2, h3⟩ := joinEE_zero h
  unfold nameB at h3
  simp only [Bool.and_eq_true, decide_eq_true_eq] at h3
  refine ⟨?_, h3⟩
  unfold joinE
  rw [okE_val h1, okE_val h2, Bool.and_self, if_pos rfl, if_pos h3.1]
theorem joinEF_some {A B : En} (h : joinEE A B = 0) : joinEF A B = ⟨A.key, joinF A.val B.val⟩ := by
  unfold joinEF joinF
  rw [if_pos h, if_pos (joinE_val h).1]
theorem joinEF_comm {A B : En} (h : joinEE A B = 0) : joinEF B A = joinEF A B := by
  have h2 := (joinEE_comm B A).trans h
  obtain ⟨e1, _, e3⟩ := joinE_val h
  rw [joinEF_some h, joinEF_some h2, ← join_comm e1, e3]
theorem joinEF_ok {A B : En} (h : joinEE A B = 0) : okE (joinEF A B) = true := by
  obtain ⟨h1, h2, _⟩ := joinEE_zero h
  rw [joinEF_some h]
  unfold okE at h1 ⊢
  rw [Bool.and_eq_true] at h1 ⊢
  exact ⟨h1.1, (join_ok (joinE_val h).1).1⟩
end Go.Proofs.YtebjljiklacolaaGreat
end
section
namespace Go.Proofs.YtebjljiklacolaaGreat
open Go.RowKit
set_option linter.unusedVariables false

def encB (l : List UInt8) : List Value := l.map fun b => .int .u8 (b.toNat : Int)
theorem length_encB (l : List UInt8) : (encB l).length = l.length := by simp [encB]
theorem encB_snoc (l : List UInt8) (x : UInt8) : encB l ++ [.int .u8 (x.toNat : Int)] = encB (l ++ [x]) := by simp [encB]

/-- The slice v holds just the bytes l, in a block of the call's own. -/
def OwnB (w : World) (base : Nat) (e : TypeId) (v : Value) (l : List UInt8) : Prop := w.ownsRow base e 1 v l.length (encB l)

theorem OwnB.nil (w : World) (base : Nat) (e : TypeId) : OwnB w base e (.slice none 0 0) [] := World.ownsRow_nil _ _ _ _
theorem OwnB.back {P : Program} {w : World} {base : Nat} {e : TypeId} {v : Value} {l : List UInt8} (h : OwnB w base e v l) (src dst : TypeId)
    (hs : P.underlying src = some (.slice e)) (he : P.underlying e = some (.int .u8)) (hd : P.underlying dst = some .string) :
    (convert src dst v).run P w = .ok (.string ⟨l.toArray⟩) w := by
  obtain ⟨h1, ⟨rfl, h0⟩ | ⟨g, cap, cur, rfl, _, hh, _, _, hcs, ht⟩⟩ := h
  · have : l = [] := List.eq_nil_of_length_eq_zero h0
    subst this
    exact run_convert_bytes_nil (w := w) src e hs he 0 0 dst hd
  · refine run_convert_bytes_back w src dst e ⟨g, 0, none⟩ cap l hs he hd (fun j hj => ?_)
    have hc : w.cell? ⟨g, j, none⟩ = cur[j]? := cell_of_row w g j cur e (0, 0) hh
    have hj2 : cur.toList[j]? = some (.int .u8 (l[j].toNat : Int)) := by
      have := congrArg (fun x => x[j]?) ht
      simp only [Nat.mul_one] at this
      rw [List.getElem?_take_of_lt hj] at this
      rw [this]
      simp [encB, hj]
    have e1 : (⟨g, 0, none⟩ : Addr).add j = ⟨g, j, none⟩ := by
      by_cases e0 : j = 0
      · subst e0; simp [Addr.add]
      · simp [Addr.add, e0]
    rw [e1, hc, ← Array.getElem?_toList, hj2]
theorem OwnB.size_le {w : World} {base : Nat} {e : TypeId} {v : Value} {l : List UInt8} (h : OwnB w base e v l) : ∀ k, v.ownBlock = some k → base ≤ k := by
  intro k hk
  obtain ⟨_, ⟨rfl, _⟩ | ⟨g, cap, cur, rfl, hb, _⟩⟩ := h
  · simp [Value.ownBlock] at hk
  · simp only [Value.ownBlock, Option.some.injEq] at hk
    omega
end Go.Proofs.YtebjljiklacolaaGreat
end
section
namespace Go.Proofs.YtebjljiklacolaaGreat
open Go.RowKit
set_option linter.unusedVariables false

theorem putL_snoc : ∀ (k m : Nat), putL m (k + 1) = putL m k ++ [UInt8.ofNat (m / 256 ^ k)]
  | 0, m => by simp [putL]
  | k + 1, m => by
    have h := putL_snoc k (m / 256)
    rw [putL, h, putL, Nat.div_div_eq_div_mul, Nat.pow_succ, Nat.mul_comm]
    simp

set_option maxRecDepth 20000 in
set_option maxHeartbeats 400000 in
theorem refPut_bad (n width : Int) (w : World) (h : isWidthB width = false ∨ n < 0) :
    Calls Tryz.prog 45 #[.int .i64 n, .int .i64 width] w fun e w' => e = .returned (.tuple #[.string ⟨#[]⟩, .int .i64 1]) ∧ w = w' := by
  by_cases h1 : width < 1
  · go_enter Tryz.func45, Tryz.ntmps45
    go_wp2
    go_ret2
    exact ⟨rfl, rfl⟩
  · have h1' : decide (width < 1) = false := by simpa using h1
    by_cases h7 : 7 < width
    · go_enter Tryz.func45, Tryz.ntmps45
      go_wp2
      go_ret2
      exact ⟨rfl, rfl⟩
    · have h7' : decide (7 < width) = false := by simpa using h7
      have hn : n < 0 := by
        rcases h with h | h
        · simp only [isWidthB, Bool.and_eq_false_iff, decide_eq_false_iff_not] at h; omega
        · exact h
      clear h
      go_enter Tryz.func45, Tryz.ntmps45
      go_wp2
      go_ret2
      exact ⟨rfl, rfl⟩

/-- What is left of a number, byte by byte. -/
def leftN (m k : Nat) : Nat := m / 256 ^ k
theorem leftN_succ (m k : Nat) : leftN m (k + 1) = leftN m k / 256 := by
  unfold leftN; rw [Nat.pow_succ, Nat.div_div_eq_div_mul]
theorem leftN_le (m k : Nat) : leftN m k ≤ m := Nat.div_le_self _ _

set_option maxRecDepth 20000 in
set_option maxHeartbeats 400000 in
theorem refPut_run (m wd : Nat) (w : World) (h1 : 1 ≤ wd) (h7 : wd ≤ 7) (hm : (m : Int) ≤ 9223372036854775807) (z : Bool) (hz : decide (0 < leftN m wd) = z) :
    Calls Tryz.prog 45 #[.int .i64 (m : Int), .int .i64 (wd : Int)] w fun e w' => e = .returned (if z = true then .tuple #[.string ⟨#[]⟩, .int .i64 1] else .tuple #[.string ⟨(putL m wd).toArray⟩, .int .i64 0]) ∧ Below w.heap.size w w' := by
  obtain ⟨i0, hi, hz0, hz1, hz2⟩ := info_parts Tryz.infoU8
  have d1 : decide ((wd : Int) < 1) = false := by simp; omega
  have d2 : decide (7 < (wd : Int)) = false := by simp; omega
  have d3 : decide ((m : Int) < 0) = false := by simp
  have HZ := Lib.hid hz
  clear hz
  go_enter Tryz.func45, Tryz.ntmps45
  go_wp2
  go_loopw [0, 6, 7] (fun n v i wr => ∃ k : Nat, k ≤ wd ∧ i = .int .i64 k ∧ n = .int .i64 (leftN m k : Int) ∧ OwnB wr w.heap.size 5 v (putL m k) ∧ Below w.heap.size w wr) (fun _ _ i _ => wd - (intOf i).toNat)
  case atStart => exact ⟨0, Nat.zero_le _, rfl, by simp [leftN], OwnB.nil _ _ _, Below.refl _ _⟩
  case round =>
    obtain ⟨k, hk, rfl, rfl, hown, hbel⟩ := hrel
    have hle := leftN_le m k
    by_cases hlt : k < wd
    · have hlen := length_putL k m
      have hbs := hown.size_le
      have HS := Lib.hid (putL_snoc k m)
      have HN := Lib.hid (leftN_succ m k)
      have HQ := Lib.hid (show ((leftN m k : Int) % 256) = ((UInt8.ofNat (m / 256 ^ k)).toNat : Int) by unfold leftN; simp)
      generalize putL m k = l at *
      have HO := Lib.hid hown
      have HBS := Lib.hid hbs
      have hll : l.length ≤ 7 := by omega
      clear hown hbs hlen
      go_wp2_with (at_builtin; refine wpList_append_own _ rfl _ _ 39 rfl w.heap.size 5 i0 (.int .u8 0) 1 1 Tryz.underlying39 hi hz0 hz1 hz2 rfl (by decide) _ _ _ rfl (HO.out.alloc _) ⟨wr.heap.size, 0, none⟩ 1 1 [.int .u8 ((leftN m k : Int) % 256)] rfl rfl ?c1 ?c2 ?c3 ?c4 ?c5 ?_)
      case c1 => exact cell_one_new _ _ _
      case c2 => intro u hu; simp at hu; subst hu; rfl
      case c3 => unfold maxLen; omega
      case c4 => omega
      case c5 => have := hbel.size; simp; omega
      · intro v' w1 hown' hgrow _
        have hB1 : Below w.heap.size w w1 := (hbel.alloc (by have := hbel.size; omega) _).grown hgrow (by have := hbel.size; simp; omega) HBS.out
        have HO1 : Hid (OwnB w1 w.heap.size 5 v' (putL m (k + 1))) := by
          show OwnB _ _ _ _ _
          rw [HS.out]
          rw [HQ.out, encB_snoc] at hown'
          have e : l.length + 1 = (l ++ [UInt8.ofNat (m / 256 ^ k)]).length := by simp
          rw [e] at hown'
          exact hown'
        clear hown' hgrow
        go_wp2
        go_roundw
        case rel => exact ⟨k + 1, by omega, by go_num, by rw [HN.out]; go_num, HO1.out, hB1⟩
        case measure => simp [intOf]; omega
    · obtain rfl : k = wd := by omega
      have hbk := hown.back (P := Tryz.prog) 39 9 Tryz.underlying39 Tryz.underlying5 Tryz.underlying9
      have HO := Lib.hid hown
      clear hown
      have hzz := HZ.out
      cases z with
      | true =>
        have hp : 0 < leftN m k := by simpa using hzz
        go_wp2
        go_ret2
        exact ⟨rfl, hbel⟩
      | false =>
        have hp : ¬ 0 < leftN m k := by simpa using hzz
        go_wp2
        go_ret2
        exact ⟨rfl, hbel⟩

theorem refPut_any (n width : Int) (w : World) (hm : n ≤ 9223372036854775807) :
    Calls Tryz.prog 45 #[.int .i64 n, .int .i64 width] w fun e w' => e = .returned (.tuple #[.string ⟨(putS n width).toArray⟩, .int .i64 (putE n width)]) ∧ Below w.heap.size w w' := by
  by_cases h : isWidthB width = false ∨ n < 0
  · refine (refPut_bad n width w h).mono ?_
    rintro e w' ⟨rfl, rfl⟩
    have ok : okPut n width = false := by
      rcases h with h | h
      · simp [okPut, h]
      · simp [okPut]; omega
    exact ⟨by simp [putS, putE, ok], Below.refl _ _⟩
  · have hw : isWidthB width = true := by simp at h; exact h.1
    have hwd : 1 ≤ width ∧ width ≤ 7 := by simpa [isWidthB] using hw
    obtain ⟨m, rfl⟩ := Int.eq_ofNat_of_zero_le (show 0 ≤ n by simp at h; omega)
    obtain ⟨wd, rfl⟩ := Int.eq_ofNat_of_zero_le (show 0 ≤ width by omega)
    refine (refPut_run m wd w (by omega) (by omega) hm _ rfl).mono ?_
    rintro e w' ⟨rfl, hb⟩
    have hiff : okPut (m : Int) (wd : Int) = !decide (0 < leftN m wd) := by
      have e1 : ((256 : Int) ^ wd) = ((256 ^ wd : Nat) : Int) := by simp
      simp only [okPut, hw, Bool.true_and, Int.toNat_natCast, e1]
      unfold leftN
      by_cases hz : m < 256 ^ wd
      · have : m / 256 ^ wd = 0 := Nat.div_eq_of_lt hz
        simp [this]
        omega
      · have := Nat.div_pos (Nat.le_of_not_lt hz) (Nat.pow_pos (n := wd) (show 0 < 256 by omega))
        simp [this]
        omega
    refine ⟨?_, hb⟩
    cases hd : decide (0 < leftN m wd) with
    | true => rw [hd] at hiff; simp [putS, putE, hiff]
    | false => rw [hd] at hiff; simp [putS, putE, hiff]

set_option maxRecDepth 20000 in
set_option maxHeartbeats 400000 in
theorem refGet_bad1 (l : List UInt8) (at_ wd : Int) (w : World) (h : isWidthB wd = false) :
    Calls Tryz.prog 70 #[.string ⟨l.toArray⟩, .int .i64 at_, .int .i64 wd] w fun e w' => e = .returned (.tuple #[.int .i64 0, .int .i64 1]) ∧ w = w' := by
  by_cases h1 : wd < 1
  · go_enter Tryz.func70, Tryz.ntmps70
    go_wp2
    go_ret2
    exact ⟨rfl, rfl⟩
  · have h1' : decide (wd < 1) = false := by simpa using h1
    have h7 : 7 < wd := by simp only [isWidthB, Bool.and_eq_false_iff, decide_eq_false_iff_not] at h; omega
    go_enter Tryz.func70, Tryz.ntmps70
    go_wp2
    go_ret2
    exact ⟨rfl, rfl⟩
set_option maxRecDepth 20000 in
set_option maxHeartbeats 400000 in
theorem refGet_bad2 (l : List UInt8) (at_ wd : Int) (w : World) (hl : l.length ≤ 1000000000) (h1 : 1 ≤ wd) (h7 : wd ≤ 7) (h : at_ < 0 ∨ (l.length : Int) < at_ + wd) :
    Calls Tryz.prog 70 #[.string ⟨l.toArray⟩, .int .i64 at_, .int .i64 wd] w fun e w' => e = .returned (.tuple #[.int .i64 0, .int .i64 2]) ∧ w = w' := by
  have d1 : decide (wd < 1) = false := by simp; omega
  have d2 : decide (7 < wd) = false := by simp; omega
  by_cases h0 : at_ < 0
  · clear h
    go_enter Tryz.func70, Tryz.ntmps70
    go_wp2
    go_ret2
    exact ⟨rfl, rfl⟩
  · have h' : (l.length : Int) < at_ + wd := by omega
    have d0 : decide (at_ < 0) = false := by simp; omega
    clear h
    by_cases h2 : (l.length : Int) < at_
    · go_enter Tryz.func70, Tryz.ntmps70
      go_wp2
      go_ret2
      exact ⟨rfl, rfl⟩
    · have d3 : decide ((l.length : Int) < at_) = false := by simp; omega
      have d4 : decide ((l.length : Int) - at_ < wd) = true := by simp; omega
      have b1 : 0 ≤ at_ := by omega
      have b2 : at_ ≤ 1000000000 := by omega
      go_enter Tryz.func70, Tryz.ntmps70
      go_wp2
      go_ret2
      exact ⟨rfl, rfl⟩

theorem getN_drop (l : List UInt8) (i : Nat) (h : i < l.length) : getN (l.drop i) = 256 * getN (l.drop (i + 1)) + l[i].toNat := by
  rw [List.drop_eq_getElem_cons h, getN]
  omega

theorem get_step (g b : Nat) (hg : g ≤ 281474976710656) (hb : b < 2 ^ 8) : wrap64 (256 * (g : Int) + wrap64 (b : Int)) = ((256 * g + b : Nat) : Int) := by
  unfold wrap64
  omega

set_option maxRecDepth 20000 in
set_option maxHeartbeats 400000 in
theorem refGet_ok (l : List UInt8) (at_ wd : Nat) (w : World) (hl : l.length ≤ 1000000000) (h1 : 1 ≤ wd) (h7 : wd ≤ 7) (hf : at_ + wd ≤ l.length) :
    Calls Tryz.prog 70 #[.string ⟨l.toArray⟩, .int .i64 (at_ : Int), .int .i64 (wd : Int)] w fun e w' => e = .returned (.tuple #[.int .i64 (getN ((l.drop at_).take wd) : Int), .int .i64 0]) ∧ w = w' := by
  have d1 : decide ((wd : Int) < 1) = false := by simp; omega
  have d2 : decide (7 < (wd : Int)) = false := by simp; omega
  have d0 : decide ((at_ : Int) < 0) = false := by simp
  have d3 : decide (l.length < at_) = false := by simp; omega
  have d4 : decide ((l.length : Int) - (at_ : Int) < (wd : Int)) = false := by simp; omega
  have hq : ((l.drop at_).take wd).length = wd := by rw [List.length_take, List.length_drop]; omega
  have HQ := Lib.hid hq
  clear hq
  go_enter Tryz.func70, Tryz.ntmps70
  go_wp2
  go_loop [8, 9] (fun n i => ∃ k : Nat, k ≤ wd ∧ i = .int .i64 ((k : Int) - 1) ∧ n = .int .i64 (getN (((l.drop at_).take wd).drop k) : Int)) (fun _ i => (intOf i + 1).toNat)
  case atStart => exact ⟨wd, Nat.le_refl _, rfl, by rw [List.drop_eq_nil_of_le (by rw [HQ.out]; exact Nat.le_refl _)]; rfl⟩
  case round =>
    obtain ⟨k, hk, rfl, rfl⟩ := hrel
    by_cases h0 : 0 < k
    · obtain ⟨j, rfl⟩ : ∃ j, k = j + 1 := ⟨k - 1, by omega⟩
      have HD := Lib.hid (getN_drop ((l.drop at_).take wd) j (by rw [HQ.out]; omega))
      have HG := Lib.hid (show ((l.drop at_).take wd)[j]'(by rw [HQ.out]; omega) = l[at_ + j]'(by omega) by simp)
      have hgl := getN_lt (((l.drop at_).take wd).drop (j + 1))
      have hgp : 256 ^ (((l.drop at_).take wd).drop (j + 1)).length ≤ 281474976710656 := by
        rw [List.length_drop, HQ.out]
        have := Nat.pow_le_pow_right (n := 256) (show 0 < 256 by omega) (show wd - (j + 1) ≤ 6 by omega)
        simpa using this
      have hgb : getN (((l.drop at_).take wd).drop (j + 1)) ≤ 281474976710656 := by omega
      clear hgl hgp
      have hbt := UInt8.toNat_lt (l[at_ + j]'(by omega))
      go_wp2
      go_round
      case rel =>
        go_light
        refine ⟨j, by omega, rfl, ?_⟩
        rw [HD.out, HG.out]
        exact congrArg (Value.int .i64) (get_step _ _ hgb hbt)
      case measure => simp [intOf]
    · obtain rfl : k = 0 := by omega
      go_wp2
      go_ret2
      exact ⟨rfl, rfl⟩

theorem refGet_any (l : List UInt8) (at_ wd : Int) (w : World) (hl : l.length ≤ 1000000000) :
    Calls Tryz.prog 70 #[.string ⟨l.toArray⟩, .int .i64 at_, .int .i64 wd] w fun e w' => e = .returned (.tuple #[.int .i64 (getV ⟨l.toArray⟩ at_ wd), .int .i64 (getE ⟨l.toArray⟩ at_ wd)]) ∧ w = w' := by
  cases h : isWidthB wd with
  | false =>
    refine (refGet_bad1 l at_ wd w h).mono ?_
    rintro e w' ⟨rfl, rfl⟩
    exact ⟨by simp [getV, getE, h], rfl⟩
  | true =>
    have hwd : 1 ≤ wd ∧ wd ≤ 7 := by simpa [isWidthB] using h
    by_cases hb : at_ < 0 ∨ (l.length : Int) < at_ + wd
    · refine (refGet_bad2 l at_ wd w hl hwd.1 hwd.2 hb).mono ?_
      rintro e w' ⟨rfl, rfl⟩
      have ok : okGet ⟨l.toArray⟩ at_ wd = false := by simp only [okGet, size_mk, Bool.and_eq_false_iff, decide_eq_false_iff_not]; omega
      exact ⟨by simp [getV, getE, h, ok], rfl⟩
    · obtain ⟨a, rfl⟩ := Int.eq_ofNat_of_zero_le (show 0 ≤ at_ by omega)
      obtain ⟨b, rfl⟩ := Int.eq_ofNat_of_zero_le (show 0 ≤ wd by omega)
      refine (refGet_ok l a b w hl (by omega) (by omega) (by omega)).mono ?_
      rintro e w' ⟨rfl, rfl⟩
      have ok : okGet ⟨l.toArray⟩ (a : Int) (b : Int) = true := by simp only [okGet, size_mk, Bool.and_eq_true, decide_eq_true_eq]; omega
      exact ⟨by simp [getV, getE, h, ok], rfl⟩
end Go.Proofs.YtebjljiklacolaaGreat
end
section
namespace Go.Proofs.YtebjljiklacolaaGreat
open Go.RowKit
set_option linter.unusedVariables false
set_option linter.unusedSimpArgs false
attribute [local irreducible] setN

set_option maxHeartbeats 800000 in
theorem rnum_any (n : Int) (wd : Nat) (w : World) (h0 : 0 ≤ n) (hm : n ≤ 9223372036854775807) (h1 : 1 ≤ wd) (h7 : wd ≤ 7) (hn : n.toNat < 256 ^ wd) :
    Calls Tryz.prog 25 #[.int .i64 n, .int .i64 (wd : Int)] w fun e w' => e = .returned (txt (putL n.toNat wd)) ∧ Below w.heap.size w w' := by
  have HE := Kept.mk (putS_nat n wd h0 h1 h7 hn)
  go_enter Tryz.func25, Tryz.ntmps25
  go_wp2_with fail
  refine (refPut_any n wd w hm).mono ?_
  rintro e w1 ⟨rfl, hb⟩
  rw [HE.out]
  generalize putE n wd = pe
  generalize hX : putL n.toNat wd = x
  have HX := Kept.mk hX
  clear hX
  have HB := Kept.mk hb
  clear hb
  go_wp2
  go_ret
  exact ⟨by rw [HX.out]; rfl, HB.out⟩
theorem call_rnum (n : Int) (wd : Nat) (w : World) (h0 : 0 ≤ n) (hm : n ≤ 9223372036854775807) (h1 : 1 ≤ wd) (h7 : wd ≤ 7) (hn : n.toNat < 256 ^ wd) :
    Calls Tryz.prog 25 #[.int .i64 n, .int .i64 (wd : Int)] w fun e w' => ∃ x, e = .returned x ∧ isVal (txt (putL n.toNat wd)) x w' ∧ Below w.heap.size w w' :=
  (rnum_any n wd w h0 hm h1 h7 hn).mono (by rintro e w' ⟨rfl, hb⟩; exact ⟨_, rfl, rfl, hb⟩)
set_option maxHeartbeats 800000 in
theorem rpad_any (s : List UInt8) (n : Nat) (w : World) (hs : s.length ≤ n) (hn : n ≤ 1000) :
    Calls Tryz.prog 26 #[.string ⟨s.toArray⟩, .int .i64 (n : Int)] w fun e w' => e = .returned (txt (s ++ zerosL (n - s.length))) ∧ Below w.heap.size w w' := by
  have hz : (⟨s.toArray⟩ : ByteArray).size = s.length := by simp [ByteArray.size]
  have e0 : (n : Int) - (s.length : Int) = ((n - s.length : Nat) : Int) := by omega
  have hmk : (Instr.makeSlice 39 (.int .i64 ((n : Int) - (s.length : Int))) (.int .i64 ((n : Int) - (s.length : Int)))).run Tryz.prog w = .ok (.slice (some ⟨w.heap.size, 0, none⟩) (n - s.length) (n - s.length)) (w.alloc (.cells (madeCells #[.int .u8 0] (n - s.length)) 5)) := by
    rw [e0]; exact run_make_row' (P := Tryz.prog) 39 5 (.int .u8 0) 1 Tryz.underlying39 Tryz.infoU8 rfl .i64 .i64 (n - s.length) (by omega) (by omega) w
  have hbk := (BRow.made w 5 (n - s.length)).back (P := Tryz.prog) 39 9 5 (n - s.length) (n - s.length) (by simp) Tryz.underlying39 Tryz.underlying5 Tryz.underlying9
  have HB := Kept.mk (lit_below w (.cells (madeCells #[.int .u8 0] (n - s.length)) 5))
  have hcat := fun W => run_string_add_lists (P := Tryz.prog) W s (List.replicate (n - s.length) 0) (by omega) (by rw [List.length_replicate]; omega)
  generalize w.alloc (.cells (madeCells #[.int .u8 0] (n - s.length)) 5) = W1 at *
  clear e0
  go_enter Tryz.func26, Tryz.ntmps26
  go_wp2
  go_ret
  exact ⟨rfl, HB.out⟩
theorem call_rpad (s : List UInt8) (n : Nat) (w : World) (hs : s.length ≤ n) (hn : n ≤ 1000) :
    Calls Tryz.prog 26 #[.string ⟨s.toArray⟩, .int .i64 (n : Int)] w fun e w' => ∃ x, e = .returned x ∧ isVal (txt (s ++ zerosL (n - s.length))) x w' ∧ Below w.heap.size w w' :=
  (rpad_any s n w hs hn).mono (by rintro e w' ⟨rfl, hb⟩; exact ⟨_, rfl, rfl, hb⟩)
set_option maxHeartbeats 400000 in
theorem rbit_any (b : Bool) (w : World) : Calls Tryz.prog 46 #[.bool b] w fun e w' => e = .returned (.int .i64 (bitI b)) ∧ w = w' := by
  cases b with
  | true =>
    go_enter Tryz.func46, Tryz.ntmps46
    go_wp2
    go_ret
    exact ⟨rfl, rfl⟩
  | false =>
    go_enter Tryz.func46, Tryz.ntmps46
    go_wp2
    go_ret
    exact ⟨rfl, rfl⟩
theorem call_rbit (b : Bool) (w : World) : Calls Tryz.prog 46 #[.bool b] w fun e w' => ∃ x, e = .returned x ∧ isVal (.int .i64 (bitI b)) x w' ∧ Below w.heap.size w w' :=
  (rbit_any b w).mono (by rintro e w' ⟨rfl, rfl⟩; exact ⟨_, rfl, rfl, Below.refl _ _⟩)
set_option maxRecDepth 100000 in
set_option maxHeartbeats 4000000 in
theorem rnums_any (l : List Int) (v : Value) (w : World) (hv : isCells (l.map intC) v w) (hl : l.length ≤ 40) (hn : l.all okNum = true) :
    Calls Tryz.prog 47 #[v] w fun e w' => e = .returned (txt (numsL l)) ∧ Below w.heap.size w w' := by
  obtain ⟨a, cap, hva⟩ := hv.len
  rw [List.length_map] at hva
  subst hva
  have HV := Kept.mk hv
  have HN := Kept.mk hn
  have HB := Kept.mk (Below.refl w.heap.size w)
  clear hv hn
  go_enter Tryz.func47, Tryz.ntmps47
  go_wp2
  go_loopw [3, 4] (fun s i wr => ∃ k : Nat, k ≤ l.length ∧ s = .string ⟨(numsL (l.take k)).toArray⟩ ∧ i = .int .i64 (k : Int) ∧ Kept (Below w.heap.size w wr)) (fun s i _ => l.length - (intOf i).toNat)
  case atStart => exact ⟨0, Nat.zero_le _, rfl, rfl, HB⟩
  case round =>
    clear HB
    obtain ⟨k, hk, rfl, rfl, HB⟩ := hrel
    by_cases hlt : k < l.length
    · have HV1 := stable_cells _ _ _ _ HV.out HB.out
      obtain ⟨b, off, cap', hs, hb, hc⟩ := HV1.some_ (by rw [List.length_map]; omega)
      rw [List.length_map] at hs
      injection hs with h1 h2 h3
      subst h1 h3
      have hcell := hc k _ (get_map intC l k hlt)
      have hx2 : okNum l[k] = true := List.all_eq_true.1 HN.out _ (List.getElem_mem hlt)
      unfold okNum at hx2
      simp only [Bool.and_eq_true, decide_eq_true_eq] at hx2
      have HS := Kept.mk (nums_take l k hlt)
      obtain ⟨x, hx⟩ : ∃ x, x = l[k] := ⟨_, rfl⟩
      rw [← hx] at hcell HS hx2
      unfold intC at hcell
      clear hc hx HV1
      obtain ⟨b3, b4⟩ := hx2
      have hlen := length_nums (l.take k)
      have hlk : (l.take k).length ≤ 40 := by rw [List.length_take]; omega
      have d1 : decide ((k : Int) < (l.length : Int)) = true := by simpa using hlt
      have hcat := fun W => run_string_add_lists (P := Tryz.prog) W (numsL (l.take k)) (putL x.toNat 2) (by omega) (by rw [length_putL]; omega)
      obtain ⟨s, hs⟩ : ∃ s, s = numsL (l.take k) := ⟨_, rfl⟩
      rw [← hs] at HS hcat ⊢
      clear hs
      go_wp2_with fail
      refine (rnum_any x 2 _ b3 (by omega) (by omega) (by omega) (by show _ < 65536; omega)).mono ?_
      rintro e w2 ⟨rfl, hb2⟩
      replace HB := Kept.mk (HB.out.trans (hb2.mono HB.out.size))
      clear hb2 hcell
      generalize putL x.toNat 2 = px at *
      go_wp2
      go_roundw
      case rel => exact ⟨k + 1, by omega, by rw [HS.out], by go_num, HB⟩
      case measure => simp [intOf]; omega
    · have d1 : decide ((k : Int) < (l.length : Int)) = false := by simpa using hlt
      have HS := Kept.mk (show numsL (l.take k) = numsL l by rw [List.take_of_length_le (by omega)])
      go_wp2
      go_ret
      exact ⟨ret_str HS.out, HB.out⟩
theorem call_rnums (l : List Int) (v : Value) (w : World) (hv : isCells (l.map intC) v w) (hl : l.length ≤ 40) (hn : l.all okNum = true) :
    Calls Tryz.prog 47 #[v] w fun e w' => ∃ x, e = .returned x ∧ isVal (txt (numsL l)) x w' ∧ Below w.heap.size w w' :=
  (rnums_any l v w hv hl hn).mono (by rintro e w' ⟨rfl, hb⟩; exact ⟨_, rfl, rfl, hb⟩)
end Go.Proofs.YtebjljiklacolaaGreat
end
section
namespace Go.Proofs.YtebjljiklacolaaGreat
open Go.RowKit
set_option linter.unusedVariables false
set_option linter.unusedSimpArgs false
attribute [local irreducible] setN

def noCountB (A : Va) : Bool := decide (A.plus.length + A.minus.length = 0)
def noRegB (A : Va) : Bool := (A.time == 0) && (A.node == 0) && !A.dead && A.text.isEmpty
set_option maxRecDepth 20000 in
set_option maxHeartbeats 1000000 in
theorem noCount_any (A : Va) (v : Value) (w : World) (hv : isVa A v w) (hF : Fit A) :
    Calls Tryz.prog 37 #[v] w fun e w' => e = .returned (.bool (noCountB A)) ∧ Below w.heap.size w w' := by
  obtain ⟨vp, vm, rfl, hp, hm⟩ := hv
  obtain ⟨hB, _⟩ := vbox w A vp vm hp hm w.heap.size rfl
  obtain ⟨a, cap, rfl⟩ := hp.len
  obtain ⟨a2, cap2, rfl⟩ := hm.len
  clear hp hm
  rw [List.length_map, List.length_map] at *
  have h1 := hF.plus
  have h2 := hF.minus
  have HS := Kept.mk (show noCountB A = ((A.plus.length : Int) + (A.minus.length : Int) == 0) by unfold noCountB; rw [Bool.eq_iff_iff, decide_eq_true_eq, beq_iff_eq]; omega)
  generalize A.plus.length = n1 at *
  generalize A.minus.length = n2 at *
  go_enter Tryz.func37, Tryz.ntmps37
  go_wp2
  go_ret
  exact ⟨by rw [HS.out]; rfl, hB.out⟩
set_option maxRecDepth 20000 in
set_option maxHeartbeats 1000000 in
theorem noReg_any (A : Va) (v : Value) (w : World) (hv : isVa A v w) :
    Calls Tryz.prog 39 #[v] w fun e w' => e = .returned (.bool (noRegB A)) ∧ Below w.heap.size w w' := by
  obtain ⟨vp, vm, rfl, hp, hm⟩ := hv
  obtain ⟨hB, _⟩ := vbox w A vp vm hp hm w.heap.size rfl
  clear hp hm
  have HS := Kept.mk (show noRegB A = ((A.time == 0) && (A.node == 0) && !A.dead && A.text.isEmpty) from rfl)
  cases d0 : (A.time == 0) with
  | false =>
    go_enter Tryz.func39, Tryz.ntmps39
    go_wp2
    go_ret
    exact ⟨by rw [HS.out, d0]; rfl, hB.out⟩
  | true =>
    cases d1 : (A.node == 0) with
    | false =>
      go_enter Tryz.func39, Tryz.ntmps39
      go_wp2
      go_ret
      exact ⟨by rw [HS.out, d0, d1]; rfl, hB.out⟩
    | true =>
      cases d2 : A.dead with
      | true =>
        rw [d2] at hB
        go_enter Tryz.func39, Tryz.ntmps39
        go_wp2
        go_ret
        exact ⟨by rw [HS.out, d0, d1, d2]; rfl, hB.out⟩
      | false =>
        rw [d2] at hB
        go_enter Tryz.func39, Tryz.ntmps39
        go_wp2
        go_ret
        exact ⟨by rw [HS.out, d0, d1, d2]; rfl, hB.out⟩
set_option maxRecDepth 20000 in
set_option maxHeartbeats 1000000 in
theorem counts_any (l : List Int) (v : Value) (w : World) (hv : isCells (l.map intC) v w) (hl : l.length ≤ 1000000) :
    Calls Tryz.prog 38 #[v] w fun e w' => e = .returned (.bool (okRow l)) ∧ w = w' := by
  obtain ⟨a, cap, hva⟩ := hv.len
  rw [List.length_map] at hva
  subst hva
  have HV := Kept.mk hv
  clear hv
  go_enter Tryz.func38, Tryz.ntmps38
  go_wp2
  go_loop [3] (fun i => ∃ k : Nat, k ≤ l.length ∧ i = .int .i64 (k : Int) ∧ Kept ((l.take k).all okNum = true)) (fun i => l.length - (intOf i).toNat)
  case atStart => exact ⟨0, Nat.zero_le _, rfl, ⟨rfl⟩⟩
  case round =>
    obtain ⟨k, hk, rfl, HB⟩ := hrel
    by_cases hlt : k < l.length
    · obtain ⟨b, off, cap', hs, hb, hc⟩ := HV.out.some_ (by rw [List.length_map]; omega)
      rw [List.length_map] at hs
      injection hs with h1 h2 h3
      subst h1 h3
      have hcell := hc k _ (get_map intC l k hlt)
      have HD := Kept.mk (show (l.take (k + 1)).all okNum = ((l.take k).all okNum && okNum l[k]) by rw [List.take_succ_eq_append_getElem hlt, List.all_append]; simp)
      have HM := Kept.mk (List.getElem_mem hlt)
      obtain ⟨x, hx⟩ : ∃ x, x = l[k] := ⟨_, rfl⟩
      rw [← hx] at hcell HD HM
      unfold intC at hcell
      clear hc hx
      have d0 : decide ((k : Int) < (l.length : Int)) = true := by simp; omega
      have bad : okNum x = false → okRow l = false := fun h => by
        unfold okRow
        rw [Bool.and_eq_false_iff]
        right
        rw [List.all_eq_false]
        exact ⟨x, HM.out, by rw [h]; simp⟩
      by_cases hz : x < 0
      · have d : decide (x < 0) = true := by simpa using hz
        have HR := Kept.mk (bad (by unfold okNum; simp; omega))
        clear hz bad
        go_wp2
        all_goals go_ret
        all_goals exact ⟨by rw [HR.out]; rfl, rfl⟩
      · have d : decide (x < 0) = false := by simpa using hz
        by_cases hy : 65535 < x
        · have d2 : decide (65535 < x) = true := by simpa using hy
          have HR := Kept.mk (bad (by unfold okNum; simp; omega))
          clear hz hy bad
          go_wp2
          all_goals go_ret
          all_goals exact ⟨by rw [HR.out]; rfl, rfl⟩
        · have d2 : decide (65535 < x) = false := by simpa using hy
          have HR := Kept.mk (show (l.take (k + 1)).all okNum = true by rw [HD.out, HB.out, Bool.true_and]; unfold okNum; simp; omega)
          clear hz hy bad
          go_wp2
          all_goals go_round
          case rel => exact ⟨k + 1, by omega, by go_num, HR⟩
          case measure => simp [intOf]; omega
    · have HR := Kept.mk (show okRow l = ((l.length : Int) == 8) by
        have := HB.out
        rw [List.take_of_length_le (by omega)] at this
        unfold okRow
        rw [this, Bool.and_true, Bool.eq_iff_iff]
        simp
        omega)
      have d0 : decide ((k : Int) < (l.length : Int)) = false := by simp; omega
      go_wp2
      go_ret
      exact ⟨by rw [HR.out]; rfl, rfl⟩
theorem flags_zero (fl : UInt64) : fl = 0 ↔ (fl.toNat : Int) = 0 := by
  rw [← UInt64.toNat_inj]
  simp
theorem beq_nil (l : List UInt8) : (l == []) = l.isEmpty := by cases l <;> rfl
theorem ok_regs (A : Va) (h : A.kind = 1) : okV A = (decide (0 ≤ A.time) && decide (A.time ≤ 2147483647) && decide (0 ≤ A.node) && decide (A.node ≤ 7) && decide ((A.text.length : Int) ≤ 8) && (!A.dead || A.text.isEmpty) && noCountB A && ((A.flags.toNat : Int) == 0)) := by
  rw [Bool.eq_iff_iff]
  constructor
  · intro ho
    obtain ⟨r1, r2⟩ := ok_reg ho h
    have e1 : A.plus = [] := congrArg Va.plus r2
    have e2 : A.minus = [] := congrArg Va.minus r2
    have e3 : A.flags = 0 := congrArg Va.flags r2
    unfold inReg at r1
    rw [beq_nil] at r1
    simp only [Bool.and_eq_true, decide_eq_true_eq] at r1
    obtain ⟨⟨⟨⟨c1, c2⟩, ⟨c3, c4⟩⟩, c5⟩, c6⟩ := r1
    simp only [Bool.and_eq_true, decide_eq_true_eq]
    exact ⟨⟨⟨⟨⟨⟨⟨c1, c2⟩, c3⟩, c4⟩, c5⟩, c6⟩, by unfold noCountB; rw [e1, e2]; rfl⟩, by rw [e3]; rfl⟩
  · intro hh
    simp only [Bool.and_eq_true, decide_eq_true_eq] at hh
    obtain ⟨⟨⟨⟨⟨⟨⟨c1, c2⟩, c3⟩, c4⟩, c5⟩, c6⟩, c7⟩, c8⟩ := hh
    unfold noCountB at c7
    simp only [decide_eq_true_eq] at c7
    have e1 : A.plus = [] := List.eq_nil_of_length_eq_zero (by omega)
    have e2 : A.minus = [] := List.eq_nil_of_length_eq_zero (by omega)
    have e3 : A.flags = 0 := (flags_zero _).2 (by simpa using c8)
    refine reg_ok h ?_ ?_
    · unfold inReg
      rw [beq_nil]
      simp only [Bool.and_eq_true, decide_eq_true_eq]
      exact ⟨⟨⟨⟨c1, c2⟩, ⟨c3, c4⟩⟩, c5⟩, c6⟩
    · unfold onlyReg
      obtain ⟨k, t, n, d, tx, p, mi, fl⟩ := A
      simp only at h e1 e2 e3
      subst h e1 e2 e3
      rfl
theorem ok_counts (A : Va) (h : A.kind = 2) : okV A = (okRow A.plus && okRow A.minus && noRegB A && ((A.flags.toNat : Int) == 0)) := by
  rw [Bool.eq_iff_iff]
  constructor
  · intro ho
    obtain ⟨r1, r2⟩ := ok_count ho h
    have e1 : A.time = 0 := congrArg Va.time r2
    have e2 : A.node = 0 := congrArg Va.node r2
    have e3 : A.flags = 0 := congrArg Va.flags r2
    have e4 : A.dead = false := congrArg Va.dead r2
    have e5 : A.text = [] := congrArg Va.text r2
    unfold inCount at r1
    rw [r1, e3]
    unfold noRegB
    rw [e1, e2, e4, e5]
    rfl
  · intro hh
    simp only [Bool.and_eq_true] at hh
    obtain ⟨⟨⟨c1, c2⟩, c3⟩, c8⟩ := hh
    unfold noRegB at c3
    simp only [Bool.and_eq_true, beq_iff_eq] at c3
    obtain ⟨⟨⟨e1, e2⟩, e4⟩, e5⟩ := c3
    have e3 : A.flags = 0 := (flags_zero _).2 (by simpa using c8)
    refine count_ok h (by unfold inCount; rw [c1, c2]; rfl) ?_
    unfold onlyCount
    obtain ⟨k, t, n, d, tx, p, mi, fl⟩ := A
    simp only at h e1 e2 e3 e4 e5
    have e4' : d = false := by simpa using e4
    have e5' : tx = [] := by simpa using e5
    subst h e1 e2 e3 e4' e5'
    rfl
theorem ok_flagss (A : Va) (h : A.kind = 3) : okV A = (noRegB A && noCountB A) := by
  rw [Bool.eq_iff_iff]
  constructor
  · intro ho
    have r2 := ok_flags ho h
    have e1 : A.time = 0 := congrArg Va.time r2
    have e2 : A.node = 0 := congrArg Va.node r2
    have e4 : A.dead = false := congrArg Va.dead r2
    have e5 : A.text = [] := congrArg Va.text r2
    have e6 : A.plus = [] := congrArg Va.plus r2
    have e7 : A.minus = [] := congrArg Va.minus r2
    unfold noRegB noCountB
    rw [e1, e2, e4, e5, e6, e7]
    rfl
  · intro hh
    simp only [Bool.and_eq_true] at hh
    obtain ⟨c3, c7⟩ := hh
    unfold noRegB at c3
    simp only [Bool.and_eq_true, beq_iff_eq] at c3
    obtain ⟨⟨⟨e1, e2⟩, e4⟩, e5⟩ := c3
    unfold noCountB at c7
    simp only [decide_eq_true_eq] at c7
    have e6 : A.plus = [] := List.eq_nil_of_length_eq_zero (by omega)
    have e7 : A.minus = [] := List.eq_nil_of_length_eq_zero (by omega)
    refine flags_ok h ?_
    unfold onlyFlags
    obtain ⟨k, t, n, d, tx, p, mi, fl⟩ := A
    simp only at h e1 e2 e4 e5 e6 e7
    have e4' : d = false := by simpa using e4
    have e5' : tx = [] := by simpa using e5
    subst h e1 e2 e4' e5' e6 e7
    rfl
set_option maxRecDepth 20000 in
set_option maxHeartbeats 1000000 in
theorem rcheck_reg (A : Va) (v : Value) (w : World) (hv : isVa A v w) (hF : Fit A) (hk : A.kind = 1) :
    Calls Tryz.prog 20 #[v] w fun e w' => e = .returned (.bool (okV A)) ∧ Below w.heap.size w w' := by
  obtain ⟨vp, vm, rfl, hp, hm⟩ := hv
  obtain ⟨hB, hV⟩ := vbox w A vp vm hp hm w.heap.size rfl
  have HP := Kept.mk (stable_cells _ _ _ _ hp hB.out)
  have HM := Kept.mk (stable_cells _ _ _ _ hm hB.out)
  have HXa := Kept.mk (show isVa A (.agg #[.int .i64 A.kind, .int .i64 A.time, .int .i64 A.node, .bool A.dead, .string ⟨A.text.toArray⟩, vp, vm, .int .u64 (A.flags.toNat : Int)]) (w.alloc (.cells #[.int .i64 A.kind, .int .i64 A.time, .int .i64 A.node, .bool A.dead, .string ⟨A.text.toArray⟩, vp, vm, .int .u64 (A.flags.toNat : Int)] 25)) from ⟨vp, vm, rfl, HP.out, HM.out⟩)
  clear hp hm
  have HS := Kept.mk (ok_regs A hk)
  have kk : (A.kind == 1) = true := by simpa using hk
  have hsz : (⟨A.text.toArray⟩ : ByteArray).size = A.text.length := size_mk _
  clear hk
  cases d0 : decide (0 ≤ A.time) with
  | false =>
    go_enter Tryz.func20, Tryz.ntmps20
    go_wp2
    all_goals go_ret
    all_goals exact ⟨by rw [HS.out, d0]; rfl, hB.out⟩
  | true =>
    cases d1 : decide (A.time ≤ 2147483647) with
    | false =>
      go_enter Tryz.func20, Tryz.ntmps20
      go_wp2
      all_goals go_ret
      all_goals exact ⟨by rw [HS.out, d0, d1]; rfl, hB.out⟩
    | true =>
      cases d2 : decide (0 ≤ A.node) with
      | false =>
        go_enter Tryz.func20, Tryz.ntmps20
        go_wp2
        all_goals go_ret
        all_goals exact ⟨by rw [HS.out, d0, d1, d2]; rfl, hB.out⟩
      | true =>
        cases d3 : decide (A.node ≤ 7) with
        | false =>
          go_enter Tryz.func20, Tryz.ntmps20
          go_wp2
          all_goals go_ret
          all_goals exact ⟨by rw [HS.out, d0, d1, d2, d3]; rfl, hB.out⟩
        | true =>
          cases d4 : decide ((A.text.length : Int) ≤ 8) with
          | false =>
            go_enter Tryz.func20, Tryz.ntmps20
            go_wp2
            all_goals go_ret
            all_goals exact ⟨by rw [HS.out, d0, d1, d2, d3, d4]; rfl, hB.out⟩
          | true =>
            cases dd : A.dead with
            | false =>
              rw [dd] at hB hV HXa HS
              have dd2 := Kept.mk dd
              clear dd
              go_enter Tryz.func20, Tryz.ntmps20
              go_wp2_with fail
              ((with_reducible refine (noCount_any A _ _ HXa.out hF).mono ?_); rintro e w1 ⟨rfl, hb1⟩)
              obtain ⟨q, r, -, -, -, k0, k1, k2, k3, k4, k5, k6, k7⟩ := (hV.out.keep hb1).open_
              replace hB := Kept.mk (hB.out.trans (hb1.mono hB.out.size))
              clear hb1
              cases dn : noCountB A with
              | false =>
                go_wp2
                all_goals go_ret
                all_goals exact ⟨by rw [HS.out, d0, d1, d2, d3, d4, dn]; rfl, hB.out⟩
              | true =>
                go_wp2
                all_goals go_ret
                all_goals exact ⟨by rw [HS.out, d0, d1, d2, d3, d4, dn]; rfl, hB.out⟩
            | true =>
              rw [dd] at hB hV HXa HS
              clear dd
              cases de : A.text.isEmpty with
              | false =>
                go_enter Tryz.func20, Tryz.ntmps20
                go_wp2
                all_goals go_ret
                all_goals exact ⟨by rw [HS.out, d0, d1, d2, d3, d4, de]; rfl, hB.out⟩
              | true =>
                go_enter Tryz.func20, Tryz.ntmps20
                go_wp2_with fail
                ((with_reducible refine (noCount_any A _ _ HXa.out hF).mono ?_); rintro e w1 ⟨rfl, hb1⟩)
                obtain ⟨q, r, -, -, -, k0, k1, k2, k3, k4, k5, k6, k7⟩ := (hV.out.keep hb1).open_
                replace hB := Kept.mk (hB.out.trans (hb1.mono hB.out.size))
                clear hb1
                cases dn : noCountB A with
                | false =>
                  go_wp2
                  all_goals go_ret
                  all_goals exact ⟨by rw [HS.out, d0, d1, d2, d3, d4, de, dn]; rfl, hB.out⟩
                | true =>
                  go_wp2
                  all_goals go_ret
                  all_goals exact ⟨by rw [HS.out, d0, d1, d2, d3, d4, de, dn]; rfl, hB.out⟩
set_option maxRecDepth 20000 in
set_option maxHeartbeats 1000000 in
theorem rcheck_count (A : Va) (v : Value) (w : World) (hv : isVa A v w) (hF : Fit A) (hk : A.kind = 2) :
    Calls Tryz.prog 20 #[v] w fun e w' => e = .returned (.bool (okV A)) ∧ Below w.heap.size w w' := by
  obtain ⟨vp, vm, rfl, hp, hm⟩ := hv
  obtain ⟨hB, hV⟩ := vbox w A vp vm hp hm w.heap.size rfl
  have HP := Kept.mk (stable_cells _ _ _ _ hp hB.out)
  have HM := Kept.mk (stable_cells _ _ _ _ hm hB.out)
  have HXa := Kept.mk (show isVa A (.agg #[.int .i64 A.kind, .int .i64 A.time, .int .i64 A.node, .bool A.dead, .string ⟨A.text.toArray⟩, vp, vm, .int .u64 (A.flags.toNat : Int)]) (w.alloc (.cells #[.int .i64 A.kind, .int .i64 A.time, .int .i64 A.node, .bool A.dead, .string ⟨A.text.toArray⟩, vp, vm, .int .u64 (A.flags.toNat : Int)] 25)) from ⟨vp, vm, rfl, HP.out, HM.out⟩)
  clear hp hm
  have HS := Kept.mk (ok_counts A hk)
  have kk : (A.kind == 1) = false := by rw [hk]; decide
  have kk2 : (A.kind == 2) = true := by rw [hk]; decide
  clear hk
  go_enter Tryz.func20, Tryz.ntmps20
  go_wp2_with fail
  ((with_reducible refine (counts_any A.plus _ _ HP.out hF.plus).mono ?_); rintro e w1 ⟨rfl, rfl⟩)
  cases d1 : okRow A.plus with
  | false =>
    go_wp2
    all_goals go_ret
    all_goals exact ⟨by rw [HS.out, d1]; rfl, hB.out⟩
  | true =>
    go_wp2_with fail
    ((with_reducible refine (counts_any A.minus _ _ HM.out hF.minus).mono ?_); rintro e w1 ⟨rfl, rfl⟩)
    cases d2 : okRow A.minus with
    | false =>
      go_wp2
      all_goals go_ret
      all_goals exact ⟨by rw [HS.out, d1, d2]; rfl, hB.out⟩
    | true =>
      go_wp2_with fail
      ((with_reducible refine (noReg_any A _ _ HXa.out).mono ?_); rintro e w1 ⟨rfl, hb1⟩)
      obtain ⟨q, r, -, -, -, k0, k1, k2, k3, k4, k5, k6, k7⟩ := (hV.out.keep hb1).open_
      replace hB := Kept.mk (hB.out.trans (hb1.mono hB.out.size))
      clear hb1
      cases dn : noRegB A with
      | false =>
        go_wp2
        all_goals go_ret
        all_goals exact ⟨by rw [HS.out, d1, d2, dn]; rfl, hB.out⟩
      | true =>
        go_wp2
        all_goals go_ret
        all_goals exact ⟨by rw [HS.out, d1, d2, dn]; rfl, hB.out⟩
set_option maxRecDepth 20000 in
set_option maxHeartbeats 1000000 in
theorem rcheck_flags (A : Va) (v : Value) (w : World) (hv : isVa A v w) (hF : Fit A) (hk : A.kind = 3) :
    Calls Tryz.prog 20 #[v] w fun e w' => e = .returned (.bool (okV A)) ∧ Below w.heap.size w w' := by
  obtain ⟨vp, vm, rfl, hp, hm⟩ := hv
  obtain ⟨hB, hV⟩ := vbox w A vp vm hp hm w.heap.size rfl
  have HP := Kept.mk (stable_cells _ _ _ _ hp hB.out)
  have HM := Kept.mk (stable_cells _ _ _ _ hm hB.out)
  have HXa := Kept.mk (show isVa A (.agg #[.int .i64 A.kind, .int .i64 A.time, .int .i64 A.node, .bool A.dead, .string ⟨A.text.toArray⟩, vp, vm, .int .u64 (A.flags.toNat : Int)]) (w.alloc (.cells #[.int .i64 A.kind, .int .i64 A.time, .int .i64 A.node, .bool A.dead, .string ⟨A.text.toArray⟩, vp, vm, .int .u64 (A.flags.toNat : Int)] 25)) from ⟨vp, vm, rfl, HP.out, HM.out⟩)
  clear hp hm
  have HS := Kept.mk (ok_flagss A hk)
  have kk : (A.kind == 1) = false := by rw [hk]; decide
  have kk2 : (A.kind == 2) = false := by rw [hk]; decide
  have kk3 : (A.kind == 3) = true := by rw [hk]; decide
  clear hk
  go_enter Tryz.func20, Tryz.ntmps20
  go_wp2_with fail
  ((with_reducible refine (noReg_any A _ _ HXa.out).mono ?_); rintro e w1 ⟨rfl, hb1⟩)
  obtain ⟨q, r, x1, -, -, k0, k1, k2, k3, k4, k5, k6, k7⟩ := (hV.out.keep hb1).open_
  have X1 := Kept.mk x1
  replace hB := Kept.mk (hB.out.trans (hb1.mono hB.out.size))
  clear hb1 x1
  cases dn : noRegB A with
  | false =>
    go_wp2
    all_goals go_ret
    all_goals exact ⟨by rw [HS.out, dn]; rfl, hB.out⟩
  | true =>
    go_wp2_with fail
    ((with_reducible refine (noCount_any A _ _ X1.out hF).mono ?_); rintro e w2 ⟨rfl, hb1⟩)
    replace hB := Kept.mk (hB.out.trans (hb1.mono hB.out.size))
    clear hb1 X1 k0 k1 k2 k3 k4 k5 k6 k7
    cases d2 : noCountB A with
    | false =>
      go_wp2
      all_goals go_ret
      all_goals exact ⟨by rw [HS.out, dn, d2]; rfl, hB.out⟩
    | true =>
      go_wp2
      all_goals go_ret
      all_goals exact ⟨by rw [HS.out, dn, d2]; rfl, hB.out⟩
set_option maxRecDepth 20000 in
set_option maxHeartbeats 1000000 in
theorem rcheck_none (A : Va) (v : Value) (w : World) (hv : isVa A v w) (hF : Fit A) (h1 : A.kind ≠ 1) (h2 : A.kind ≠ 2) (h3 : A.kind ≠ 3) :
    Calls Tryz.prog 20 #[v] w fun e w' => e = .returned (.bool (okV A)) ∧ Below w.heap.size w w' := by
  obtain ⟨vp, vm, rfl, hp, hm⟩ := hv
  obtain ⟨hB, hV⟩ := vbox w A vp vm hp hm w.heap.size rfl
  have HP := Kept.mk (stable_cells _ _ _ _ hp hB.out)
  have HM := Kept.mk (stable_cells _ _ _ _ hm hB.out)
  have HXa := Kept.mk (show isVa A (.agg #[.int .i64 A.kind, .int .i64 A.time, .int .i64 A.node, .bool A.dead, .string ⟨A.text.toArray⟩, vp, vm, .int .u64 (A.flags.toNat : Int)]) (w.alloc (.cells #[.int .i64 A.kind, .int .i64 A.time, .int .i64 A.node, .bool A.dead, .string ⟨A.text.toArray⟩, vp, vm, .int .u64 (A.flags.toNat : Int)] 25)) from ⟨vp, vm, rfl, HP.out, HM.out⟩)
  clear hp hm
  have HS := Kept.mk (show okV A = false by unfold okV kindN; rw [if_neg h1, if_neg h2, if_neg h3]; rfl)
  have kk : (A.kind == 1) = false := by simpa using h1
  have kk2 : (A.kind == 2) = false := by simpa using h2
  have kk3 : (A.kind == 3) = false := by simpa using h3
  clear h1 h2 h3
  go_enter Tryz.func20, Tryz.ntmps20
  go_wp2
  all_goals go_ret
  all_goals exact ⟨by rw [HS.out]; rfl, hB.out⟩
theorem rcheck_any (A : Va) (v : Value) (w : World) (hv : isVa A v w) (hF : Fit A) :
    Calls Tryz.prog 20 #[v] w fun e w' => e = .returned (.bool (okV A)) ∧ Below w.heap.size w w' := by
  by_cases h1 : A.kind = 1
  · exact rcheck_reg A v w hv hF h1
  · by_cases h2 : A.kind = 2
    · exact rcheck_count A v w hv hF h2
    · by_cases h3 : A.kind = 3
      · exact rcheck_flags A v w hv hF h3
      · exact rcheck_none A v w hv hF h1 h2 h3
end Go.Proofs.YtebjljiklacolaaGreat
end
