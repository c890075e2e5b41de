/- Joined texts: contracts of the program's functions, and the mathematics that they lean on. -/
import Derived.Test.YtkjghoomdefbbaaGreatDoorPartE
import Derived.RangeFuncCalls
import Derived.RegionTactic
import Derived.Laws.EntriesVeiled
section
namespace Go.Proofs.YtkjghoomdefbbaaGreatDoor
open Go.RowKit
set_option linter.unusedVariables false
set_option linter.unusedSimpArgs false
attribute [local irreducible] setN

theorem old_blk {cs : List Value} {v : Value} {w : World} (h : isCells cs v w) (h0 : 0 < cs.length) {g : Nat} (hg : w.heap.size ≤ g) : blk v ≠ some g := by
  obtain ⟨b, off, cap, rfl, hb, -⟩ := h.some_ h0
  intro e
  injection e with e
  have : b = g := e
  omega
noncomputable def pu1Ops : Array Oper := regionOf Tryz.f31 5
set_option maxRecDepth 100000 in
set_option maxHeartbeats 2000000 in
theorem pu1_region (Q : Exit → Act → World → Prop) (a0 : Act) (w0 : World) (hsz : a0.tmps.size = 54) (E : En) (g b : Nat) (vp vm : Value) (e5 : a0.tmps.getD 5 undef = .pointer (some ⟨g, 0, none⟩)) (e1 : a0.tmps.getD 1 undef = .pointer (some ⟨b, 0, none⟩)) (hc : CellsN w0 b [.string ⟨E.key.toArray⟩, .int .i64 E.val.kind, .int .i64 E.val.time, .int .i64 E.val.node, .bool E.val.dead, .string ⟨E.val.text.toArray⟩, vp, vm, .int .u64 (E.val.flags.toNat : Int)])
    (hC : ∀ (y : Nat → Value) (w : World), Below w0.heap.size w0 w → Calls Tryz.prog 56 #[.pointer (some ⟨g, 0, none⟩), .int .i64 E.val.kind, .int .i64 1] w fun e w' => ∃ v, e = .returned v ∧ Q .normal { tmps := ([13, 14, 15, 16, 17, 18, 19].foldl (fun t s => t.setIfInBounds s (y s)) a0.tmps).setIfInBounds 19 v, defers := a0.defers } w') :
    (Code.region 5 pu1Ops true).wp Tryz.prog Q a0 w0 := by
  refine wp_region_cov 6 mixed (by rw [hsz]; kernel_rfl) (by kernel_rfl) ?_
  rw [show pu1Ops.size - 6 = 1 by kernel_rfl]
  refine ⟨isVal (.pointer (some ⟨g, 0, none⟩)), step_move (.tmp 5) (by kernel_rfl) (wanted_none (by kernel_rfl)) (stable_val _) (knows_old 5 (.pointer (some ⟨g, 0, none⟩)) (by kernel_rfl) e5), ?_⟩
  refine ⟨isVal (.pointer (some ⟨g, 0, none⟩)), step_nilP (.tmp 13) ⟨g, 0, none⟩ (by kernel_rfl) (wanted_none (by kernel_rfl)) (knows_new (V := isVal (.pointer (some ⟨g, 0, none⟩))) 13 0 (by kernel_rfl) (by kernel_rfl) (by kernel_rfl)), ?_⟩
  refine ⟨isVal (.pointer (some ⟨g, 0, none⟩)), step_field 87 (.tmp 14) 0 ⟨g, 0, none⟩ ⟨g, 0, none⟩ (by kernel_rfl) (wanted_none (by kernel_rfl)) (knows_new (V := isVal (.pointer (some ⟨g, 0, none⟩))) 14 1 (by kernel_rfl) (by kernel_rfl) (by kernel_rfl)) (field_wr g 0 (by omega)), ?_⟩
  refine ⟨isVal (.pointer (some ⟨b, 1, none⟩)), step_field 48 (.tmp 1) 1 ⟨b, 0, none⟩ ⟨b, 1, none⟩ (by kernel_rfl) (wanted_none (by kernel_rfl)) (knows_old 1 (.pointer (some ⟨b, 0, none⟩)) (by kernel_rfl) e1) (field_en b 1 (by omega)), ?_⟩
  refine ⟨isVal (.pointer (some ⟨b, 1, none⟩)), step_field 46 (.tmp 16) 0 ⟨b, 1, none⟩ ⟨b, 1, none⟩ (by kernel_rfl) (wanted_none (by kernel_rfl)) (knows_new (V := isVal (.pointer (some ⟨b, 1, none⟩))) 16 3 (by kernel_rfl) (by kernel_rfl) (by kernel_rfl)) (field_va1 b 0 (by omega)), ?_⟩
  refine ⟨isVal (.int .i64 E.val.kind), step_read 3 (.tmp 17) ⟨b, 1, none⟩ (.int .i64 E.val.kind) (by kernel_rfl) (wanted_none (by kernel_rfl)) (knows_new (V := isVal (.pointer (some ⟨b, 1, none⟩))) 17 4 (by kernel_rfl) (by kernel_rfl) (by kernel_rfl)) (hc.2 1 _ rfl) hc.1 agg_int, ?_⟩
  intro a w hkp hb hd
  have d15 : a.eval (.tmp 15) = _ := fdone_of (hd 2 (by decide)) (t := 15) (V := isVal (.pointer (some ⟨g, 0, none⟩))) (by kernel_rfl) (by kernel_rfl)
  have d18 : a.eval (.tmp 18) = _ := fdone_of (hd 5 (by decide)) (t := 18) (V := isVal (.int .i64 E.val.kind)) (by kernel_rfl) (by kernel_rfl)
  refine tail_call 56 #[.tmp 15, .tmp 18, .const (.int .i64 1)] #[85, 3, 3] #[.pointer (some ⟨g, 0, none⟩), .int .i64 E.val.kind, .int .i64 1] 19 (by kernel_rfl) (by kernel_rfl) (by simp only [List.map_toArray, List.map_cons, List.map_nil, d15, d18]; try rfl) (enters_of Tryz.func56 (by kernel_rfl) rfl) ?_
  obtain ⟨y, ey⟩ := kept_ex hkp [some 13, some 14, some 15, some 16, some 17, some 18, some 19] [13, 14, 15, 16, 17, 18, 19] (by kernel_rfl) (by decide)
  refine (hC y w hb).mono ?_
  rintro e w' ⟨v, rfl, hq⟩
  exact ⟨v, rfl, put_kept ey hq⟩
noncomputable def pu2Ops : Array Oper := regionOf Tryz.f31 6
set_option maxRecDepth 100000 in
set_option maxHeartbeats 2000000 in
theorem pu2_region (Q : Exit → Act → World → Prop) (a0 : Act) (w0 : World) (hsz : a0.tmps.size = 54) (E : En) (g b : Nat) (vp vm : Value) (e5 : a0.tmps.getD 5 undef = .pointer (some ⟨g, 0, none⟩)) (e1 : a0.tmps.getD 1 undef = .pointer (some ⟨b, 0, none⟩)) (hc : CellsN w0 b [.string ⟨E.key.toArray⟩, .int .i64 E.val.kind, .int .i64 E.val.time, .int .i64 E.val.node, .bool E.val.dead, .string ⟨E.val.text.toArray⟩, vp, vm, .int .u64 (E.val.flags.toNat : Int)])
    (hC : ∀ (y : Nat → Value) (w : World), Below w0.heap.size w0 w → Calls Tryz.prog 56 #[.pointer (some ⟨g, 0, none⟩), .int .i64 (E.key.length : Int), .int .i64 1] w fun e w' => ∃ v, e = .returned v ∧ Q .normal { tmps := ([20, 21, 22, 23, 24, 25, 26].foldl (fun t s => t.setIfInBounds s (y s)) a0.tmps).setIfInBounds 26 v, defers := a0.defers } w') :
    (Code.region 6 pu2Ops true).wp Tryz.prog Q a0 w0 := by
  refine wp_region_cov 6 mixed (by rw [hsz]; kernel_rfl) (by kernel_rfl) ?_
  rw [show pu2Ops.size - 6 = 1 by kernel_rfl]
  refine ⟨isVal (.pointer (some ⟨g, 0, none⟩)), step_move (.tmp 5) (by kernel_rfl) (wanted_none (by kernel_rfl)) (stable_val _) (knows_old 5 (.pointer (some ⟨g, 0, none⟩)) (by kernel_rfl) e5), ?_⟩
  refine ⟨isVal (.pointer (some ⟨g, 0, none⟩)), step_nilP (.tmp 20) ⟨g, 0, none⟩ (by kernel_rfl) (wanted_none (by kernel_rfl)) (knows_new (V := isVal (.pointer (some ⟨g, 0, none⟩))) 20 0 (by kernel_rfl) (by kernel_rfl) (by kernel_rfl)), ?_⟩
  refine ⟨isVal (.pointer (some ⟨g, 0, none⟩)), step_field 87 (.tmp 21) 0 ⟨g, 0, none⟩ ⟨g, 0, none⟩ (by kernel_rfl) (wanted_none (by kernel_rfl)) (knows_new (V := isVal (.pointer (some ⟨g, 0, none⟩))) 21 1 (by kernel_rfl) (by kernel_rfl) (by kernel_rfl)) (field_wr g 0 (by omega)), ?_⟩
  refine ⟨isVal (.pointer (some ⟨b, 0, none⟩)), step_field 48 (.tmp 1) 0 ⟨b, 0, none⟩ ⟨b, 0, none⟩ (by kernel_rfl) (wanted_none (by kernel_rfl)) (knows_old 1 (.pointer (some ⟨b, 0, none⟩)) (by kernel_rfl) e1) (field_en b 0 (by omega)), ?_⟩
  refine ⟨isVal (.string ⟨E.key.toArray⟩), step_read 9 (.tmp 23) ⟨b, 0, none⟩ (.string ⟨E.key.toArray⟩) (by kernel_rfl) (wanted_none (by kernel_rfl)) (knows_new (V := isVal (.pointer (some ⟨b, 0, none⟩))) 23 3 (by kernel_rfl) (by kernel_rfl) (by kernel_rfl)) (hc.2 0 _ rfl) hc.1 agg_str, ?_⟩
  refine ⟨isVal (.int .i64 (E.key.length : Int)), step_len 9 (.tmp 24) (.string ⟨E.key.toArray⟩) (.int .i64 (E.key.length : Int)) (by kernel_rfl) (wanted_none (by kernel_rfl)) (knows_new (V := isVal (.string ⟨E.key.toArray⟩)) 24 4 (by kernel_rfl) (by kernel_rfl) (by kernel_rfl)) (len_str E.key), ?_⟩
  intro a w hkp hb hd
  have d22 : a.eval (.tmp 22) = _ := fdone_of (hd 2 (by decide)) (t := 22) (V := isVal (.pointer (some ⟨g, 0, none⟩))) (by kernel_rfl) (by kernel_rfl)
  have d25 : a.eval (.tmp 25) = _ := fdone_of (hd 5 (by decide)) (t := 25) (V := isVal (.int .i64 (E.key.length : Int))) (by kernel_rfl) (by kernel_rfl)
  refine tail_call 56 #[.tmp 22, .tmp 25, .const (.int .i64 1)] #[85, 3, 3] #[.pointer (some ⟨g, 0, none⟩), .int .i64 (E.key.length : Int), .int .i64 1] 26 (by kernel_rfl) (by kernel_rfl) (by simp only [List.map_toArray, List.map_cons, List.map_nil, d22, d25]; try rfl) (enters_of Tryz.func56 (by kernel_rfl) rfl) ?_
  obtain ⟨y, ey⟩ := kept_ex hkp [some 20, some 21, some 22, some 23, some 24, some 25, some 26] [20, 21, 22, 23, 24, 25, 26] (by kernel_rfl) (by decide)
  refine (hC y w hb).mono ?_
  rintro e w' ⟨v, rfl, hq⟩
  exact ⟨v, rfl, put_kept ey hq⟩
noncomputable def pu3Ops : Array Oper := regionOf Tryz.f31 7
set_option maxRecDepth 100000 in
set_option maxHeartbeats 2000000 in
theorem pu3_region (Q : Exit → Act → World → Prop) (a0 : Act) (w0 : World) (hsz : a0.tmps.size = 54) (E : En) (g b : Nat) (vp vm : Value) (e5 : a0.tmps.getD 5 undef = .pointer (some ⟨g, 0, none⟩)) (e1 : a0.tmps.getD 1 undef = .pointer (some ⟨b, 0, none⟩)) (hc : CellsN w0 b [.string ⟨E.key.toArray⟩, .int .i64 E.val.kind, .int .i64 E.val.time, .int .i64 E.val.node, .bool E.val.dead, .string ⟨E.val.text.toArray⟩, vp, vm, .int .u64 (E.val.flags.toNat : Int)])
    (hC : ∀ (y : Nat → Value) (w : World), Below w0.heap.size w0 w → Calls Tryz.prog 57 #[.pointer (some ⟨g, 0, none⟩), .string ⟨E.key.toArray⟩] w fun e w' => ∃ v, e = .returned v ∧ Q .normal { tmps := ([27, 28, 29, 30, 31, 32].foldl (fun t s => t.setIfInBounds s (y s)) a0.tmps).setIfInBounds 32 v, defers := a0.defers } w') :
    (Code.region 7 pu3Ops true).wp Tryz.prog Q a0 w0 := by
  refine wp_region_cov 5 mixed (by rw [hsz]; kernel_rfl) (by kernel_rfl) ?_
  rw [show pu3Ops.size - 5 = 1 by kernel_rfl]
  refine ⟨isVal (.pointer (some ⟨g, 0, none⟩)), step_move (.tmp 5) (by kernel_rfl) (wanted_none (by kernel_rfl)) (stable_val _) (knows_old 5 (.pointer (some ⟨g, 0, none⟩)) (by kernel_rfl) e5), ?_⟩
  refine ⟨isVal (.pointer (some ⟨g, 0, none⟩)), step_nilP (.tmp 27) ⟨g, 0, none⟩ (by kernel_rfl) (wanted_none (by kernel_rfl)) (knows_new (V := isVal (.pointer (some ⟨g, 0, none⟩))) 27 0 (by kernel_rfl) (by kernel_rfl) (by kernel_rfl)), ?_⟩
  refine ⟨isVal (.pointer (some ⟨g, 0, none⟩)), step_field 87 (.tmp 28) 0 ⟨g, 0, none⟩ ⟨g, 0, none⟩ (by kernel_rfl) (wanted_none (by kernel_rfl)) (knows_new (V := isVal (.pointer (some ⟨g, 0, none⟩))) 28 1 (by kernel_rfl) (by kernel_rfl) (by kernel_rfl)) (field_wr g 0 (by omega)), ?_⟩
  refine ⟨isVal (.pointer (some ⟨b, 0, none⟩)), step_field 48 (.tmp 1) 0 ⟨b, 0, none⟩ ⟨b, 0, none⟩ (by kernel_rfl) (wanted_none (by kernel_rfl)) (knows_old 1 (.pointer (some ⟨b, 0, none⟩)) (by kernel_rfl) e1) (field_en b 0 (by omega)), ?_⟩
  refine ⟨isVal (.string ⟨E.key.toArray⟩), step_read 9 (.tmp 30) ⟨b, 0, none⟩ (.string ⟨E.key.toArray⟩) (by kernel_rfl) (wanted_none (by kernel_rfl)) (knows_new (V := isVal (.pointer (some ⟨b, 0, none⟩))) 30 3 (by kernel_rfl) (by kernel_rfl) (by kernel_rfl)) (hc.2 0 _ rfl) hc.1 agg_str, ?_⟩
  intro a w hkp hb hd
  have d29 : a.eval (.tmp 29) = _ := fdone_of (hd 2 (by decide)) (t := 29) (V := isVal (.pointer (some ⟨g, 0, none⟩))) (by kernel_rfl) (by kernel_rfl)
  have d31 : a.eval (.tmp 31) = _ := fdone_of (hd 4 (by decide)) (t := 31) (V := isVal (.string ⟨E.key.toArray⟩)) (by kernel_rfl) (by kernel_rfl)
  refine tail_call 57 #[.tmp 29, .tmp 31] #[85, 9] #[.pointer (some ⟨g, 0, none⟩), .string ⟨E.key.toArray⟩] 32 (by kernel_rfl) (by kernel_rfl) (by simp only [List.map_toArray, List.map_cons, List.map_nil, d29, d31]; try rfl) (enters_of Tryz.func57 (by kernel_rfl) rfl) ?_
  obtain ⟨y, ey⟩ := kept_ex hkp [some 27, some 28, some 29, some 30, some 31, some 32] [27, 28, 29, 30, 31, 32] (by kernel_rfl) (by decide)
  refine (hC y w hb).mono ?_
  rintro e w' ⟨v, rfl, hq⟩
  exact ⟨v, rfl, put_kept ey hq⟩
noncomputable def pk1Ops : Array Oper := regionOf Tryz.f31 9
set_option maxRecDepth 100000 in
set_option maxHeartbeats 2000000 in
theorem pk1_region (Q : Exit → Act → World → Prop) (a0 : Act) (w0 : World) (hsz : a0.tmps.size = 54) (E : En) (g b : Nat) (vp vm : Value) (e5 : a0.tmps.getD 5 undef = .pointer (some ⟨g, 0, none⟩)) (e1 : a0.tmps.getD 1 undef = .pointer (some ⟨b, 0, none⟩)) (hc : CellsN w0 b [.string ⟨E.key.toArray⟩, .int .i64 E.val.kind, .int .i64 E.val.time, .int .i64 E.val.node, .bool E.val.dead, .string ⟨E.val.text.toArray⟩, vp, vm, .int .u64 (E.val.flags.toNat : Int)]) (hk : E.val.kind = 1)
    (hC : ∀ (y : Nat → Value) (w : World), Below w0.heap.size w0 w → Calls Tryz.prog 88 #[.pointer (some ⟨g, 0, none⟩), .agg #[.int .i64 E.val.kind, .int .i64 E.val.time, .int .i64 E.val.node, .bool E.val.dead, .string ⟨E.val.text.toArray⟩, vp, vm, .int .u64 (E.val.flags.toNat : Int)]] w fun e w' => ∃ v, e = .returned v ∧ Q .normal { tmps := ([37, 38, 39, 40, 41, 42, 43, 44, 45].foldl (fun t s => t.setIfInBounds s (y s)) a0.tmps).setIfInBounds 45 v, defers := a0.defers } w') :
    (Code.region 9 pk1Ops true).wp Tryz.prog Q a0 w0 := by
  refine wp_region_cov 8 mixed (by rw [hsz]; kernel_rfl) (by kernel_rfl) ?_
  rw [show pk1Ops.size - 8 = 1 by kernel_rfl]
  refine ⟨isVal (.pointer (some ⟨g, 0, none⟩)), step_move (.tmp 5) (by kernel_rfl) (wanted_none (by kernel_rfl)) (stable_val _) (knows_old 5 (.pointer (some ⟨g, 0, none⟩)) (by kernel_rfl) e5), ?_⟩
  refine ⟨(isKinds g), step_call 59 #[.tmp 37] #[84] #[.pointer (some ⟨g, 0, none⟩)] (by kernel_rfl) (wanted_none (by kernel_rfl)) (stable_kinds g) (args1 (.tmp 37) (.pointer (some ⟨g, 0, none⟩)) (knows_new (V := isVal (.pointer (some ⟨g, 0, none⟩))) 37 0 (by kernel_rfl) (by kernel_rfl) (by kernel_rfl))) (enters_of Tryz.func59 (by kernel_rfl) rfl) (by intro w hb; exact kinds_any g w), ?_⟩
  refine ⟨isVal (.pointer (some ⟨b, 1, none⟩)), step_field 48 (.tmp 1) 1 ⟨b, 0, none⟩ ⟨b, 1, none⟩ (by kernel_rfl) (wanted_none (by kernel_rfl)) (knows_old 1 (.pointer (some ⟨b, 0, none⟩)) (by kernel_rfl) e1) (field_en b 1 (by omega)), ?_⟩
  refine ⟨isVal (.pointer (some ⟨b, 1, none⟩)), step_field 46 (.tmp 39) 0 ⟨b, 1, none⟩ ⟨b, 1, none⟩ (by kernel_rfl) (wanted_none (by kernel_rfl)) (knows_new (V := isVal (.pointer (some ⟨b, 1, none⟩))) 39 2 (by kernel_rfl) (by kernel_rfl) (by kernel_rfl)) (field_va1 b 0 (by omega)), ?_⟩
  refine ⟨isVal (.int .i64 E.val.kind), step_read 3 (.tmp 40) ⟨b, 1, none⟩ (.int .i64 E.val.kind) (by kernel_rfl) (wanted_none (by kernel_rfl)) (knows_new (V := isVal (.pointer (some ⟨b, 1, none⟩))) 40 3 (by kernel_rfl) (by kernel_rfl) (by kernel_rfl)) (hc.2 1 _ rfl) hc.1 agg_int, ?_⟩
  refine ⟨isVal (.func (.func 88) #[.pointer (some ⟨g, 0, none⟩)] #[]), step_find 92 (.tmp 38) (.tmp 41) g _ (.func (.func 88) #[.pointer (some ⟨g, 0, none⟩)] #[]) (by kernel_rfl) (wanted_none (by kernel_rfl)) (knows_new (V := (isKinds g)) 38 1 (by kernel_rfl) (by kernel_rfl) (by kernel_rfl)) (knows_new (V := isVal (.int .i64 E.val.kind)) 41 4 (by kernel_rfl) (by kernel_rfl) (by kernel_rfl)) (by rw [hk]; exact kind_at g 1 _ 0 (by kernel_rfl)), ?_⟩
  refine ⟨isVal (.pointer (some ⟨b, 1, none⟩)), step_field 48 (.tmp 1) 1 ⟨b, 0, none⟩ ⟨b, 1, none⟩ (by kernel_rfl) (wanted_none (by kernel_rfl)) (knows_old 1 (.pointer (some ⟨b, 0, none⟩)) (by kernel_rfl) e1) (field_en b 1 (by omega)), ?_⟩
  refine ⟨isVal (.agg #[.int .i64 E.val.kind, .int .i64 E.val.time, .int .i64 E.val.node, .bool E.val.dead, .string ⟨E.val.text.toArray⟩, vp, vm, .int .u64 (E.val.flags.toNat : Int)]), step_loadO 46 (.tmp 43) (b) _ [.int .i64 E.val.kind, .int .i64 E.val.time, .int .i64 E.val.node, .bool E.val.dead, .string ⟨E.val.text.toArray⟩, vp, vm, .int .u64 (E.val.flags.toNat : Int)] (by kernel_rfl) (wanted_none (by kernel_rfl)) (knows_new (V := isVal (.pointer (some ⟨b, 1, none⟩))) 43 6 (by kernel_rfl) (by kernel_rfl) (by kernel_rfl)) size_va agg_va hc, ?_⟩
  intro a w hkp hb hd
  have d44 : a.eval (.tmp 44) = _ := fdone_of (hd 7 (by decide)) (t := 44) (V := isVal (.agg #[.int .i64 E.val.kind, .int .i64 E.val.time, .int .i64 E.val.node, .bool E.val.dead, .string ⟨E.val.text.toArray⟩, vp, vm, .int .u64 (E.val.flags.toNat : Int)])) (by kernel_rfl) (by kernel_rfl)
  have d42 : a.eval (.tmp 42) = _ := fdone_of (hd 5 (by decide)) (t := 42) (V := isVal (.func (.func 88) #[.pointer (some ⟨g, 0, none⟩)] #[])) (by kernel_rfl) (by kernel_rfl)
  refine tail_callV (.tmp 42) 88 #[.pointer (some ⟨g, 0, none⟩)] #[.tmp 44] #[46] #[.agg #[.int .i64 E.val.kind, .int .i64 E.val.time, .int .i64 E.val.node, .bool E.val.dead, .string ⟨E.val.text.toArray⟩, vp, vm, .int .u64 (E.val.flags.toNat : Int)]] 45 (by kernel_rfl) (by kernel_rfl) d42 (by simp only [List.map_toArray, List.map_cons, List.map_nil, d44, d42]) (enters_of Tryz.func88 (by kernel_rfl) rfl) ?_
  obtain ⟨y, ey⟩ := kept_ex hkp [some 37, some 38, some 39, some 40, some 41, some 42, some 43, some 44, some 45] [37, 38, 39, 40, 41, 42, 43, 44, 45] (by kernel_rfl) (by decide)
  refine (hC y w hb).mono ?_
  rintro e w' ⟨v, rfl, hq⟩
  exact ⟨v, rfl, put_kept ey hq⟩
noncomputable def pk2Ops : Array Oper := regionOf Tryz.f31 9
set_option maxRecDepth 100000 in
set_option maxHeartbeats 2000000 in
theorem pk2_region (Q : Exit → Act → World → Prop) (a0 : Act) (w0 : World) (hsz : a0.tmps.size = 54) (E : En) (g b : Nat) (vp vm : Value) (e5 : a0.tmps.getD 5 undef = .pointer (some ⟨g, 0, none⟩)) (e1 : a0.tmps.getD 1 undef = .pointer (some ⟨b, 0, none⟩)) (hc : CellsN w0 b [.string ⟨E.key.toArray⟩, .int .i64 E.val.kind, .int .i64 E.val.time, .int .i64 E.val.node, .bool E.val.dead, .string ⟨E.val.text.toArray⟩, vp, vm, .int .u64 (E.val.flags.toNat : Int)]) (hk : E.val.kind = 2)
    (hC : ∀ (y : Nat → Value) (w : World), Below w0.heap.size w0 w → Calls Tryz.prog 89 #[.pointer (some ⟨g, 0, none⟩), .agg #[.int .i64 E.val.kind, .int .i64 E.val.time, .int .i64 E.val.node, .bool E.val.dead, .string ⟨E.val.text.toArray⟩, vp, vm, .int .u64 (E.val.flags.toNat : Int)]] w fun e w' => ∃ v, e = .returned v ∧ Q .normal { tmps := ([37, 38, 39, 40, 41, 42, 43, 44, 45].foldl (fun t s => t.setIfInBounds s (y s)) a0.tmps).setIfInBounds 45 v, defers := a0.defers } w') :
    (Code.region 9 pk2Ops true).wp Tryz.prog Q a0 w0 := by
  refine wp_region_cov 8 mixed (by rw [hsz]; kernel_rfl) (by kernel_rfl) ?_
  rw [show pk2Ops.size - 8 = 1 by kernel_rfl]
  refine ⟨isVal (.pointer (some ⟨g, 0, none⟩)), step_move (.tmp 5) (by kernel_rfl) (wanted_none (by kernel_rfl)) (stable_val _) (knows_old 5 (.pointer (some ⟨g, 0, none⟩)) (by kernel_rfl) e5), ?_⟩
  refine ⟨(isKinds g), step_call 59 #[.tmp 37] #[84] #[.pointer (some ⟨g, 0, none⟩)] (by kernel_rfl) (wanted_none (by kernel_rfl)) (stable_kinds g) (args1 (.tmp 37) (.pointer (some ⟨g, 0, none⟩)) (knows_new (V := isVal (.pointer (some ⟨g, 0, none⟩))) 37 0 (by kernel_rfl) (by kernel_rfl) (by kernel_rfl))) (enters_of Tryz.func59 (by kernel_rfl) rfl) (by intro w hb; exact kinds_any g w), ?_⟩
  refine ⟨isVal (.pointer (some ⟨b, 1, none⟩)), step_field 48 (.tmp 1) 1 ⟨b, 0, none⟩ ⟨b, 1, none⟩ (by kernel_rfl) (wanted_none (by kernel_rfl)) (knows_old 1 (.pointer (some ⟨b, 0, none⟩)) (by kernel_rfl) e1) (field_en b 1 (by omega)), ?_⟩
  refine ⟨isVal (.pointer (some ⟨b, 1, none⟩)), step_field 46 (.tmp 39) 0 ⟨b, 1, none⟩ ⟨b, 1, none⟩ (by kernel_rfl) (wanted_none (by kernel_rfl)) (knows_new (V := isVal (.pointer (some ⟨b, 1, none⟩))) 39 2 (by kernel_rfl) (by kernel_rfl) (by kernel_rfl)) (field_va1 b 0 (by omega)), ?_⟩
  refine ⟨isVal (.int .i64 E.val.kind), step_read 3 (.tmp 40) ⟨b, 1, none⟩ (.int .i64 E.val.kind) (by kernel_rfl) (wanted_none (by kernel_rfl)) (knows_new (V := isVal (.pointer (some ⟨b, 1, none⟩))) 40 3 (by kernel_rfl) (by kernel_rfl) (by kernel_rfl)) (hc.2 1 _ rfl) hc.1 agg_int, ?_⟩
  refine ⟨isVal (.func (.func 89) #[.pointer (some ⟨g, 0, none⟩)] #[]), step_find 92 (.tmp 38) (.tmp 41) g _ (.func (.func 89) #[.pointer (some ⟨g, 0, none⟩)] #[]) (by kernel_rfl) (wanted_none (by kernel_rfl)) (knows_new (V := (isKinds g)) 38 1 (by kernel_rfl) (by kernel_rfl) (by kernel_rfl)) (knows_new (V := isVal (.int .i64 E.val.kind)) 41 4 (by kernel_rfl) (by kernel_rfl) (by kernel_rfl)) (by rw [hk]; exact kind_at g 2 _ 1 (by kernel_rfl)), ?_⟩
  refine ⟨isVal (.pointer (some ⟨b, 1, none⟩)), step_field 48 (.tmp 1) 1 ⟨b, 0, none⟩ ⟨b, 1, none⟩ (by kernel_rfl) (wanted_none (by kernel_rfl)) (knows_old 1 (.pointer (some ⟨b, 0, none⟩)) (by kernel_rfl) e1) (field_en b 1 (by omega)), ?_⟩
  refine ⟨isVal (.agg #[.int .i64 E.val.kind, .int .i64 E.val.time, .int .i64 E.val.node, .bool E.val.dead, .string ⟨E.val.text.toArray⟩, vp, vm, .int .u64 (E.val.flags.toNat : Int)]), step_loadO 46 (.tmp 43) (b) _ [.int .i64 E.val.kind, .int .i64 E.val.time, .int .i64 E.val.node, .bool E.val.dead, .string ⟨E.val.text.toArray⟩, vp, vm, .int .u64 (E.val.flags.toNat : Int)] (by kernel_rfl) (wanted_none (by kernel_rfl)) (knows_new (V := isVal (.pointer (some ⟨b, 1, none⟩))) 43 6 (by kernel_rfl) (by kernel_rfl) (by kernel_rfl)) size_va agg_va hc, ?_⟩
  intro a w hkp hb hd
  have d44 : a.eval (.tmp 44) = _ := fdone_of (hd 7 (by decide)) (t := 44) (V := isVal (.agg #[.int .i64 E.val.kind, .int .i64 E.val.time, .int .i64 E.val.node, .bool E.val.dead, .string ⟨E.val.text.toArray⟩, vp, vm, .int .u64 (E.val.flags.toNat : Int)])) (by kernel_rfl) (by kernel_rfl)
  have d42 : a.eval (.tmp 42) = _ := fdone_of (hd 5 (by decide)) (t := 42) (V := isVal (.func (.func 89) #[.pointer (some ⟨g, 0, none⟩)] #[])) (by kernel_rfl) (by kernel_rfl)
  refine tail_callV (.tmp 42) 89 #[.pointer (some ⟨g, 0, none⟩)] #[.tmp 44] #[46] #[.agg #[.int .i64 E.val.kind, .int .i64 E.val.time, .int .i64 E.val.node, .bool E.val.dead, .string ⟨E.val.text.toArray⟩, vp, vm, .int .u64 (E.val.flags.toNat : Int)]] 45 (by kernel_rfl) (by kernel_rfl) d42 (by simp only [List.map_toArray, List.map_cons, List.map_nil, d44, d42]) (enters_of Tryz.func89 (by kernel_rfl) rfl) ?_
  obtain ⟨y, ey⟩ := kept_ex hkp [some 37, some 38, some 39, some 40, some 41, some 42, some 43, some 44, some 45] [37, 38, 39, 40, 41, 42, 43, 44, 45] (by kernel_rfl) (by decide)
  refine (hC y w hb).mono ?_
  rintro e w' ⟨v, rfl, hq⟩
  exact ⟨v, rfl, put_kept ey hq⟩
noncomputable def pk3Ops : Array Oper := regionOf Tryz.f31 9
set_option maxRecDepth 100000 in
set_option maxHeartbeats 2000000 in
theorem pk3_region (Q : Exit → Act → World → Prop) (a0 : Act) (w0 : World) (hsz : a0.tmps.size = 54) (E : En) (g b : Nat) (vp vm : Value) (e5 : a0.tmps.getD 5 undef = .pointer (some ⟨g, 0, none⟩)) (e1 : a0.tmps.getD 1 undef = .pointer (some ⟨b, 0, none⟩)) (hc : CellsN w0 b [.string ⟨E.key.toArray⟩, .int .i64 E.val.kind, .int .i64 E.val.time, .int .i64 E.val.node, .bool E.val.dead, .string ⟨E.val.text.toArray⟩, vp, vm, .int .u64 (E.val.flags.toNat : Int)]) (hk : E.val.kind = 3)
    (hC : ∀ (y : Nat → Value) (w : World), Below w0.heap.size w0 w → Calls Tryz.prog 90 #[.pointer (some ⟨g, 0, none⟩), .agg #[.int .i64 E.val.kind, .int .i64 E.val.time, .int .i64 E.val.node, .bool E.val.dead, .string ⟨E.val.text.toArray⟩, vp, vm, .int .u64 (E.val.flags.toNat : Int)]] w fun e w' => ∃ v, e = .returned v ∧ Q .normal { tmps := ([37, 38, 39, 40, 41, 42, 43, 44, 45].foldl (fun t s => t.setIfInBounds s (y s)) a0.tmps).setIfInBounds 45 v, defers := a0.defers } w') :
    (Code.region 9 pk3Ops true).wp Tryz.prog Q a0 w0 := by
  refine wp_region_cov 8 mixed (by rw [hsz]; kernel_rfl) (by kernel_rfl) ?_
  rw [show pk3Ops.size - 8 = 1 by kernel_rfl]
  refine ⟨isVal (.pointer (some ⟨g, 0, none⟩)), step_move (.tmp 5) (by kernel_rfl) (wanted_none (by kernel_rfl)) (stable_val _) (knows_old 5 (.pointer (some ⟨g, 0, none⟩)) (by kernel_rfl) e5), ?_⟩
  refine ⟨(isKinds g), step_call 59 #[.tmp 37] #[84] #[.pointer (some ⟨g, 0, none⟩)] (by kernel_rfl) (wanted_none (by kernel_rfl)) (stable_kinds g) (args1 (.tmp 37) (.pointer (some ⟨g, 0, none⟩)) (knows_new (V := isVal (.pointer (some ⟨g, 0, none⟩))) 37 0 (by kernel_rfl) (by kernel_rfl) (by kernel_rfl))) (enters_of Tryz.func59 (by kernel_rfl) rfl) (by intro w hb; exact kinds_any g w), ?_⟩
  refine ⟨isVal (.pointer (some ⟨b, 1, none⟩)), step_field 48 (.tmp 1) 1 ⟨b, 0, none⟩ ⟨b, 1, none⟩ (by kernel_rfl) (wanted_none (by kernel_rfl)) (knows_old 1 (.pointer (some ⟨b, 0, none⟩)) (by kernel_rfl) e1) (field_en b 1 (by omega)), ?_⟩
  refine ⟨isVal (.pointer (some ⟨b, 1, none⟩)), step_field 46 (.tmp 39) 0 ⟨b, 1, none⟩ ⟨b, 1, none⟩ (by kernel_rfl) (wanted_none (by kernel_rfl)) (knows_new (V := isVal (.pointer (some ⟨b, 1, none⟩))) 39 2 (by kernel_rfl) (by kernel_rfl) (by kernel_rfl)) (field_va1 b 0 (by omega)), ?_⟩
  refine ⟨isVal (.int .i64 E.val.kind), step_read 3 (.tmp 40) ⟨b, 1, none⟩ (.int .i64 E.val.kind) (by kernel_rfl) (wanted_none (by kernel_rfl)) (knows_new (V := isVal (.pointer (some ⟨b, 1, none⟩))) 40 3 (by kernel_rfl) (by kernel_rfl) (by kernel_rfl)) (hc.2 1 _ rfl) hc.1 agg_int, ?_⟩
  refine ⟨isVal (.func (.func 90) #[.pointer (some ⟨g, 0, none⟩)] #[]), step_find 92 (.tmp 38) (.tmp 41) g _ (.func (.func 90) #[.pointer (some ⟨g, 0, none⟩)] #[]) (by kernel_rfl) (wanted_none (by kernel_rfl)) (knows_new (V := (isKinds g)) 38 1 (by kernel_rfl) (by kernel_rfl) (by kernel_rfl)) (knows_new (V := isVal (.int .i64 E.val.kind)) 41 4 (by kernel_rfl) (by kernel_rfl) (by kernel_rfl)) (by rw [hk]; exact kind_at g 3 _ 2 (by kernel_rfl)), ?_⟩
  refine ⟨isVal (.pointer (some ⟨b, 1, none⟩)), step_field 48 (.tmp 1) 1 ⟨b, 0, none⟩ ⟨b, 1, none⟩ (by kernel_rfl) (wanted_none (by kernel_rfl)) (knows_old 1 (.pointer (some ⟨b, 0, none⟩)) (by kernel_rfl) e1) (field_en b 1 (by omega)), ?_⟩
  refine ⟨isVal (.agg #[.int .i64 E.val.kind, .int .i64 E.val.time, .int .i64 E.val.node, .bool E.val.dead, .string ⟨E.val.text.toArray⟩, vp, vm, .int .u64 (E.val.flags.toNat : Int)]), step_loadO 46 (.tmp 43) (b) _ [.int .i64 E.val.kind, .int .i64 E.val.time, .int .i64 E.val.node, .bool E.val.dead, .string ⟨E.val.text.toArray⟩, vp, vm, .int .u64 (E.val.flags.toNat : Int)] (by kernel_rfl) (wanted_none (by kernel_rfl)) (knows_new (V := isVal (.pointer (some ⟨b, 1, none⟩))) 43 6 (by kernel_rfl) (by kernel_rfl) (by kernel_rfl)) size_va agg_va hc, ?_⟩
  intro a w hkp hb hd
  have d44 : a.eval (.tmp 44) = _ := fdone_of (hd 7 (by decide)) (t := 44) (V := isVal (.agg #[.int .i64 E.val.kind, .int .i64 E.val.time, .int .i64 E.val.node, .bool E.val.dead, .string ⟨E.val.text.toArray⟩, vp, vm, .int .u64 (E.val.flags.toNat : Int)])) (by kernel_rfl) (by kernel_rfl)
  have d42 : a.eval (.tmp 42) = _ := fdone_of (hd 5 (by decide)) (t := 42) (V := isVal (.func (.func 90) #[.pointer (some ⟨g, 0, none⟩)] #[])) (by kernel_rfl) (by kernel_rfl)
  refine tail_callV (.tmp 42) 90 #[.pointer (some ⟨g, 0, none⟩)] #[.tmp 44] #[46] #[.agg #[.int .i64 E.val.kind, .int .i64 E.val.time, .int .i64 E.val.node, .bool E.val.dead, .string ⟨E.val.text.toArray⟩, vp, vm, .int .u64 (E.val.flags.toNat : Int)]] 45 (by kernel_rfl) (by kernel_rfl) d42 (by simp only [List.map_toArray, List.map_cons, List.map_nil, d44, d42]) (enters_of Tryz.func90 (by kernel_rfl) rfl) ?_
  obtain ⟨y, ey⟩ := kept_ex hkp [some 37, some 38, some 39, some 40, some 41, some 42, some 43, some 44, some 45] [37, 38, 39, 40, 41, 42, 43, 44, 45] (by kernel_rfl) (by decide)
  refine (hC y w hb).mono ?_
  rintro e w' ⟨v, rfl, hq⟩
  exact ⟨v, rfl, put_kept ey hq⟩
set_option maxRecDepth 100000 in
set_option maxHeartbeats 4000000 in
theorem eput_bad (E : En) (v : Value) (w : World) (hv : isEn E v w) (hF : FitE E) (hok : okE E = false) : Calls Tryz.prog 31 #[v] w fun e w' => e = .returned (.tuple #[txt (putF E), .int .i64 (chkE E)]) ∧ Below w.heap.size w w' := by
  have HO := Kept.mk hok
  clear hok
  obtain ⟨vp, vm, rfl, hp, hm⟩ := hv
  have HB := Kept.mk (lit_below w (.cells #[.string ⟨E.key.toArray⟩, .int .i64 E.val.kind, .int .i64 E.val.time, .int .i64 E.val.node, .bool E.val.dead, .string ⟨E.val.text.toArray⟩, vp, vm, .int .u64 (E.val.flags.toNat : Int)] 48))
  have HV := Kept.mk (Blk.new w 48 [.string ⟨E.key.toArray⟩, .int .i64 E.val.kind, .int .i64 E.val.time, .int .i64 E.val.node, .bool E.val.dead, .string ⟨E.val.text.toArray⟩, vp, vm, .int .u64 (E.val.flags.toNat : Int)] w.heap.size rfl)
  have HP := Kept.mk hp
  have HM := Kept.mk hm
  clear hp hm
  have kv0 := HV.out.cells.2 0 _ rfl
  have kv1 := HV.out.cells.2 1 _ rfl
  have kv2 := HV.out.cells.2 2 _ rfl
  have kv3 := HV.out.cells.2 3 _ rfl
  have kv4 := HV.out.cells.2 4 _ rfl
  have kv5 := HV.out.cells.2 5 _ rfl
  have kv6 := HV.out.cells.2 6 _ rfl
  have kv7 := HV.out.cells.2 7 _ rfl
  have kv8 := HV.out.cells.2 8 _ rfl
  go_enter Tryz.func31, Tryz.ntmps31
  go_wp2_with fail
  clear kv0 kv1 kv2 kv3 kv4 kv5 kv6 kv7 kv8
  generalize w.alloc (.cells #[.string ⟨E.key.toArray⟩, .int .i64 E.val.kind, .int .i64 E.val.time, .int .i64 E.val.node, .bool E.val.dead, .string ⟨E.val.text.toArray⟩, vp, vm, .int .u64 (E.val.flags.toNat : Int)] 48) = W0 at *
  have hs0 := HV.out.lt
  refine (echeck_any E _ W0 ⟨vp, vm, rfl, stable_cells _ _ _ _ HP.out HB.out, stable_cells _ _ _ _ HM.out HB.out⟩ hF).mono ?_
  rintro e W1 ⟨rfl, hb⟩
  replace HV := Kept.mk (HV.out.keep hb)
  replace HB := Kept.mk (HB.out.trans (hb.mono HB.out.size))
  have hs1 := hb.size
  clear hb
  have hC : chkE E = 2 := by unfold chkE; rw [HO.out]; rfl
  rw [hC]
  have HC := Kept.mk hC
  clear hC
  go_wp2
  go_ret2
  have e1 : putF E = [] := by unfold putF; rw [HO.out]; rfl
  refine ⟨?_, HB.out⟩
  rw [e1, HC.out]
  rfl
set_option maxRecDepth 100000 in
set_option maxHeartbeats 4000000 in
theorem eput_1 (E : En) (v : Value) (w : World) (hv : isEn E v w) (hF : FitE E) (hok : okE E = true) (hk : E.val.kind = 1) : Calls Tryz.prog 31 #[v] w fun e w' => e = .returned (.tuple #[txt (putF E), .int .i64 (chkE E)]) ∧ Below w.heap.size w w' := by
  have HO := Kept.mk hok
  have HK := Kept.mk hk
  have hl := length_head hok
  have HL := Kept.mk (length_putEn hok)
  have hdl := (length_data_le (show okV E.val = true by unfold okE at hok; rw [Bool.and_eq_true] at hok; exact hok.2)).1
  have hkl : 1 ≤ E.key.length ∧ E.key.length ≤ 8 := by simp only [okE, Bool.and_eq_true, decide_eq_true_eq] at hok; exact hok.1
  have HI := Kept.mk (show inReg E.val = true by unfold okE okV kindN at hok; rw [if_pos hk] at hok; rw [Bool.and_eq_true] at hok; have h2 := hok.2; split at h2; rename_i h3; rw [Bool.and_eq_true] at h3; exact h3.1; simp at h2)
  have hkz : 0 ≤ E.val.kind ∧ E.val.kind ≤ 3 := by omega
  clear hok hk
  obtain ⟨vp, vm, rfl, hp, hm⟩ := hv
  have HB := Kept.mk (lit_below w (.cells #[.string ⟨E.key.toArray⟩, .int .i64 E.val.kind, .int .i64 E.val.time, .int .i64 E.val.node, .bool E.val.dead, .string ⟨E.val.text.toArray⟩, vp, vm, .int .u64 (E.val.flags.toNat : Int)] 48))
  have HV := Kept.mk (Blk.new w 48 [.string ⟨E.key.toArray⟩, .int .i64 E.val.kind, .int .i64 E.val.time, .int .i64 E.val.node, .bool E.val.dead, .string ⟨E.val.text.toArray⟩, vp, vm, .int .u64 (E.val.flags.toNat : Int)] w.heap.size rfl)
  have HP := Kept.mk hp
  have HM := Kept.mk hm
  clear hp hm
  have kv0 := HV.out.cells.2 0 _ rfl
  have kv1 := HV.out.cells.2 1 _ rfl
  have kv2 := HV.out.cells.2 2 _ rfl
  have kv3 := HV.out.cells.2 3 _ rfl
  have kv4 := HV.out.cells.2 4 _ rfl
  have kv5 := HV.out.cells.2 5 _ rfl
  have kv6 := HV.out.cells.2 6 _ rfl
  have kv7 := HV.out.cells.2 7 _ rfl
  have kv8 := HV.out.cells.2 8 _ rfl
  go_enter Tryz.func31, Tryz.ntmps31
  go_wp2_with fail
  clear kv0 kv1 kv2 kv3 kv4 kv5 kv6 kv7 kv8
  generalize w.alloc (.cells #[.string ⟨E.key.toArray⟩, .int .i64 E.val.kind, .int .i64 E.val.time, .int .i64 E.val.node, .bool E.val.dead, .string ⟨E.val.text.toArray⟩, vp, vm, .int .u64 (E.val.flags.toNat : Int)] 48) = W0 at *
  have hs0 := HV.out.lt
  refine (echeck_any E _ W0 ⟨vp, vm, rfl, stable_cells _ _ _ _ HP.out HB.out, stable_cells _ _ _ _ HM.out HB.out⟩ hF).mono ?_
  rintro e W1 ⟨rfl, hb⟩
  replace HV := Kept.mk (HV.out.keep hb)
  replace HB := Kept.mk (HB.out.trans (hb.mono HB.out.size))
  have hs1 := hb.size
  clear hb
  have hC : chkE E = 0 := by unfold chkE; rw [HO.out]; rfl
  rw [hC]
  have HC := Kept.mk hC
  clear hC
  go_wp2_with fail
  have HW := Kept.mk (Wr.refl (show At (W1.alloc (.cells #[.string ⟨#[]⟩] 87)) W1.heap.size (txt []) from (fun b => ⟨b.cells.2 0 _ rfl, b.free 0, b.lt⟩) (Blk.new W1 87 [.string ⟨#[]⟩] W1.heap.size rfl)))
  replace HV := Kept.mk (HV.out.alloc (.cells #[.string ⟨#[]⟩] 87))
  replace HB := Kept.mk (HB.out.alloc HB.out.size (.cells #[.string ⟨#[]⟩] 87))
  generalize hW2 : W1.alloc (.cells #[.string ⟨#[]⟩] 87) = W2 at *
  clear hW2
  generalize hg : W1.heap.size = g at *
  clear hg
  refine pu1_region _ _ _ rfl E g w.heap.size vp vm rfl rfl HV.out.cells ?_
  intro y9 W9 hb9
  replace HW := Kept.mk (HW.out.then_ hb9)
  replace HV := Kept.mk (HV.out.keep hb9)
  replace HB := Kept.mk (HB.out.trans (hb9.mono HB.out.size))
  have hs9 := hb9.size
  clear hb9
  refine (number_z g [] E.val.kind 1 W9 HW.out.at_ (by simp) hkz.1 (by omega) (by omega) (by omega) (by show _ < 256; omega)).mono ?_
  rintro e W3 ⟨rfl, hw⟩
  replace HW := Kept.mk (HW.out.trans hw)
  replace HV := Kept.mk (HV.out.wr hw (by omega))
  replace HB := Kept.mk (HB.out.trans (hw.below (by omega) (by have := HB.out.size; omega)))
  clear hw hs9
  refine ⟨_, rfl, ?_⟩
  simp only [List.foldl_cons, List.foldl_nil]
  generalize y9 13 = z13
  generalize y9 14 = z14
  generalize y9 15 = z15
  generalize y9 16 = z16
  generalize y9 17 = z17
  generalize y9 18 = z18
  generalize y9 19 = z19
  simp only [List.setIfInBounds_toArray, List.set_cons_succ, List.set_cons_zero]
  clear y9
  go_wp2_with fail
  rw [List.nil_append] at HW
  refine pu2_region _ _ _ rfl E g w.heap.size vp vm rfl rfl HV.out.cells ?_
  intro y9 W9 hb9
  replace HW := Kept.mk (HW.out.then_ hb9)
  replace HV := Kept.mk (HV.out.keep hb9)
  replace HB := Kept.mk (HB.out.trans (hb9.mono HB.out.size))
  have hs9 := hb9.size
  clear hb9
  refine (number_z g (putL E.val.kind.toNat 1) (E.key.length : Int) 1 W9 HW.out.at_ (by rw [length_putL]; omega) (by omega) (by omega) (by omega) (by omega) (by show _ < 256; omega)).mono ?_
  rintro e W4 ⟨rfl, hw⟩
  replace HW := Kept.mk (HW.out.trans hw)
  replace HV := Kept.mk (HV.out.wr hw (by omega))
  replace HB := Kept.mk (HB.out.trans (hw.below (by omega) (by have := HB.out.size; omega)))
  clear hw hs9
  refine ⟨_, rfl, ?_⟩
  simp only [List.foldl_cons, List.foldl_nil]
  generalize y9 20 = z20
  generalize y9 21 = z21
  generalize y9 22 = z22
  generalize y9 23 = z23
  generalize y9 24 = z24
  generalize y9 25 = z25
  generalize y9 26 = z26
  simp only [List.setIfInBounds_toArray, List.set_cons_succ, List.set_cons_zero]
  clear y9
  go_wp2_with fail
  refine pu3_region _ _ _ rfl E g w.heap.size vp vm rfl rfl HV.out.cells ?_
  intro y9 W9 hb9
  replace HW := Kept.mk (HW.out.then_ hb9)
  replace HV := Kept.mk (HV.out.keep hb9)
  replace HB := Kept.mk (HB.out.trans (hb9.mono HB.out.size))
  have hs9 := hb9.size
  clear hb9
  refine (add_any g (putL E.val.kind.toNat 1 ++ putL (E.key.length : Int).toNat 1) E.key W9 HW.out.at_ (by simp only [List.length_append, length_putL]; omega) (by omega)).mono ?_
  rintro e W5 ⟨rfl, hw⟩
  replace HW := Kept.mk (HW.out.trans hw)
  replace HV := Kept.mk (HV.out.wr hw (by omega))
  replace HB := Kept.mk (HB.out.trans (hw.below (by omega) (by have := HB.out.size; omega)))
  clear hw hs9
  refine ⟨_, rfl, ?_⟩
  simp only [List.foldl_cons, List.foldl_nil]
  generalize y9 27 = z27
  generalize y9 28 = z28
  generalize y9 29 = z29
  generalize y9 30 = z30
  generalize y9 31 = z31
  generalize y9 32 = z32
  simp only [List.setIfInBounds_toArray, List.set_cons_succ, List.set_cons_zero]
  clear y9
  go_wp2_with fail
  refine (fill_any g ((putL E.val.kind.toNat 1 ++ putL (E.key.length : Int).toNat 1) ++ E.key) 10 W5 HW.out.at_ (by simp only [List.length_append, length_putL]; omega) (by omega)).mono ?_
  rintro e W6 ⟨rfl, hw⟩
  replace HW := Kept.mk (HW.out.trans hw)
  replace HV := Kept.mk (HV.out.wr hw (by omega))
  replace HB := Kept.mk (HB.out.trans (hw.below (by omega) (by have := HB.out.size; omega)))
  clear hw
  have eh : ((putL E.val.kind.toNat 1 ++ putL (E.key.length : Int).toNat 1) ++ E.key) ++ zerosL (10 - ((putL E.val.kind.toNat 1 ++ putL (E.key.length : Int).toNat 1) ++ E.key).length) = headL E := by
    have e1 : 10 - ((putL E.val.kind.toNat 1 ++ putL (E.key.length : Int).toNat 1) ++ E.key).length = 8 - E.key.length := by simp only [List.length_append, length_putL]; omega
    rw [e1]
    unfold headL
    simp only [List.append_assoc, Int.toNat_natCast]
  rw [eh] at HW
  clear eh
  go_wp2_with fail
  refine pk1_region _ _ _ rfl E g w.heap.size vp vm rfl rfl HV.out.cells HK.out ?_
  intro y9 W9 hb9
  replace HW := Kept.mk (HW.out.then_ hb9)
  replace HV := Kept.mk (HV.out.keep hb9)
  replace HB := Kept.mk (HB.out.trans (hb9.mono HB.out.size))
  have hs9 := hb9.size
  clear hb9
  refine (wreg_any E.val g (headL E) _ W9 ⟨vp, vm, rfl, stable_cells _ _ _ _ HP.out HB.out, stable_cells _ _ _ _ HM.out HB.out⟩ HW.out.at_ (by omega) HK.out HI.out).mono ?_
  rintro e W7 ⟨rfl, hw⟩
  replace HW := Kept.mk (HW.out.trans hw)
  replace HV := Kept.mk (HV.out.wr hw (by omega))
  replace HB := Kept.mk (HB.out.trans (hw.below (by omega) (by have := HB.out.size; omega)))
  clear hw hs9
  refine ⟨_, rfl, ?_⟩
  simp only [List.foldl_cons, List.foldl_nil]
  generalize y9 37 = z37
  generalize y9 38 = z38
  generalize y9 39 = z39
  generalize y9 40 = z40
  generalize y9 41 = z41
  generalize y9 42 = z42
  generalize y9 43 = z43
  generalize y9 44 = z44
  generalize y9 45 = z45
  simp only [List.setIfInBounds_toArray, List.set_cons_succ, List.set_cons_zero]
  clear y9
  go_wp2_with fail
  refine (fill_any g (headL E ++ dataL E.val) 42 W7 HW.out.at_ (by rw [List.length_append]; omega) (by omega)).mono ?_
  rintro e W8 ⟨rfl, hw⟩
  replace HW := Kept.mk (HW.out.trans hw)
  replace HV := Kept.mk (HV.out.wr hw (by omega))
  replace HB := Kept.mk (HB.out.trans (hw.below (by omega) (by have := HB.out.size; omega)))
  clear hw
  have eh : (headL E ++ dataL E.val) ++ zerosL (42 - (headL E ++ dataL E.val).length) = putEn E := by
    have e1 : 42 - (headL E ++ dataL E.val).length = 32 - (dataL E.val).length := by rw [List.length_append]; omega
    rw [e1]
    unfold putEn
    rw [List.append_assoc]
  rw [eh] at HW
  clear eh
  have kc := HW.out.at_.cell
  go_wp2
  go_ret2
  refine ⟨?_, HB.out⟩
  have e1 : putF E = putEn E := by unfold putF; rw [HO.out]; rfl
  rw [e1, HC.out]
  rfl
set_option maxRecDepth 100000 in
set_option maxHeartbeats 4000000 in
theorem eput_2 (E : En) (v : Value) (w : World) (hv : isEn E v w) (hF : FitE E) (hok : okE E = true) (hk : E.val.kind = 2) : Calls Tryz.prog 31 #[v] w fun e w' => e = .returned (.tuple #[txt (putF E), .int .i64 (chkE E)]) ∧ Below w.heap.size w w' := by
  have HO := Kept.mk hok
  have HK := Kept.mk hk
  have hl := length_head hok
  have HL := Kept.mk (length_putEn hok)
  have hdl := (length_data_le (show okV E.val = true by unfold okE at hok; rw [Bool.and_eq_true] at hok; exact hok.2)).1
  have hkl : 1 ≤ E.key.length ∧ E.key.length ≤ 8 := by simp only [okE, Bool.and_eq_true, decide_eq_true_eq] at hok; exact hok.1
  have HI := Kept.mk (show inCount E.val = true by unfold okE okV kindN at hok; rw [if_neg (by rw [hk]; decide), if_pos hk] at hok; rw [Bool.and_eq_true] at hok; have h2 := hok.2; split at h2; rename_i h3; rw [Bool.and_eq_true] at h3; exact h3.1; simp at h2)
  have HI2 := Kept.mk (show E.val.plus.length = 8 ∧ E.val.minus.length = 8 by have := HI.out; simp only [inCount, okRow, Bool.and_eq_true, decide_eq_true_eq] at this; exact ⟨this.1.1, this.2.1⟩)
  have hkz : 0 ≤ E.val.kind ∧ E.val.kind ≤ 3 := by omega
  clear hok hk
  obtain ⟨vp, vm, rfl, hp, hm⟩ := hv
  have HB := Kept.mk (lit_below w (.cells #[.string ⟨E.key.toArray⟩, .int .i64 E.val.kind, .int .i64 E.val.time, .int .i64 E.val.node, .bool E.val.dead, .string ⟨E.val.text.toArray⟩, vp, vm, .int .u64 (E.val.flags.toNat : Int)] 48))
  have HV := Kept.mk (Blk.new w 48 [.string ⟨E.key.toArray⟩, .int .i64 E.val.kind, .int .i64 E.val.time, .int .i64 E.val.node, .bool E.val.dead, .string ⟨E.val.text.toArray⟩, vp, vm, .int .u64 (E.val.flags.toNat : Int)] w.heap.size rfl)
  have HP := Kept.mk hp
  have HM := Kept.mk hm
  clear hp hm
  have kv0 := HV.out.cells.2 0 _ rfl
  have kv1 := HV.out.cells.2 1 _ rfl
  have kv2 := HV.out.cells.2 2 _ rfl
  have kv3 := HV.out.cells.2 3 _ rfl
  have kv4 := HV.out.cells.2 4 _ rfl
  have kv5 := HV.out.cells.2 5 _ rfl
  have kv6 := HV.out.cells.2 6 _ rfl
  have kv7 := HV.out.cells.2 7 _ rfl
  have kv8 := HV.out.cells.2 8 _ rfl
  go_enter Tryz.func31, Tryz.ntmps31
  go_wp2_with fail
  clear kv0 kv1 kv2 kv3 kv4 kv5 kv6 kv7 kv8
  generalize w.alloc (.cells #[.string ⟨E.key.toArray⟩, .int .i64 E.val.kind, .int .i64 E.val.time, .int .i64 E.val.node, .bool E.val.dead, .string ⟨E.val.text.toArray⟩, vp, vm, .int .u64 (E.val.flags.toNat : Int)] 48) = W0 at *
  have hs0 := HV.out.lt
  refine (echeck_any E _ W0 ⟨vp, vm, rfl, stable_cells _ _ _ _ HP.out HB.out, stable_cells _ _ _ _ HM.out HB.out⟩ hF).mono ?_
  rintro e W1 ⟨rfl, hb⟩
  replace HV := Kept.mk (HV.out.keep hb)
  replace HB := Kept.mk (HB.out.trans (hb.mono HB.out.size))
  have hs1 := hb.size
  clear hb
  have hC : chkE E = 0 := by unfold chkE; rw [HO.out]; rfl
  rw [hC]
  have HC := Kept.mk hC
  clear hC
  go_wp2_with fail
  have HW := Kept.mk (Wr.refl (show At (W1.alloc (.cells #[.string ⟨#[]⟩] 87)) W1.heap.size (txt []) from (fun b => ⟨b.cells.2 0 _ rfl, b.free 0, b.lt⟩) (Blk.new W1 87 [.string ⟨#[]⟩] W1.heap.size rfl)))
  replace HV := Kept.mk (HV.out.alloc (.cells #[.string ⟨#[]⟩] 87))
  replace HB := Kept.mk (HB.out.alloc HB.out.size (.cells #[.string ⟨#[]⟩] 87))
  generalize hW2 : W1.alloc (.cells #[.string ⟨#[]⟩] 87) = W2 at *
  clear hW2
  generalize hg : W1.heap.size = g at *
  clear hg
  refine pu1_region _ _ _ rfl E g w.heap.size vp vm rfl rfl HV.out.cells ?_
  intro y9 W9 hb9
  replace HW := Kept.mk (HW.out.then_ hb9)
  replace HV := Kept.mk (HV.out.keep hb9)
  replace HB := Kept.mk (HB.out.trans (hb9.mono HB.out.size))
  have hs9 := hb9.size
  clear hb9
  refine (number_z g [] E.val.kind 1 W9 HW.out.at_ (by simp) hkz.1 (by omega) (by omega) (by omega) (by show _ < 256; omega)).mono ?_
  rintro e W3 ⟨rfl, hw⟩
  replace HW := Kept.mk (HW.out.trans hw)
  replace HV := Kept.mk (HV.out.wr hw (by omega))
  replace HB := Kept.mk (HB.out.trans (hw.below (by omega) (by have := HB.out.size; omega)))
  clear hw hs9
  refine ⟨_, rfl, ?_⟩
  simp only [List.foldl_cons, List.foldl_nil]
  generalize y9 13 = z13
  generalize y9 14 = z14
  generalize y9 15 = z15
  generalize y9 16 = z16
  generalize y9 17 = z17
  generalize y9 18 = z18
  generalize y9 19 = z19
  simp only [List.setIfInBounds_toArray, List.set_cons_succ, List.set_cons_zero]
  clear y9
  go_wp2_with fail
  rw [List.nil_append] at HW
  refine pu2_region _ _ _ rfl E g w.heap.size vp vm rfl rfl HV.out.cells ?_
  intro y9 W9 hb9
  replace HW := Kept.mk (HW.out.then_ hb9)
  replace HV := Kept.mk (HV.out.keep hb9)
  replace HB := Kept.mk (HB.out.trans (hb9.mono HB.out.size))
  have hs9 := hb9.size
  clear hb9
  refine (number_z g (putL E.val.kind.toNat 1) (E.key.length : Int) 1 W9 HW.out.at_ (by rw [length_putL]; omega) (by omega) (by omega) (by omega) (by omega) (by show _ < 256; omega)).mono ?_
  rintro e W4 ⟨rfl, hw⟩
  replace HW := Kept.mk (HW.out.trans hw)
  replace HV := Kept.mk (HV.out.wr hw (by omega))
  replace HB := Kept.mk (HB.out.trans (hw.below (by omega) (by have := HB.out.size; omega)))
  clear hw hs9
  refine ⟨_, rfl, ?_⟩
  simp only [List.foldl_cons, List.foldl_nil]
  generalize y9 20 = z20
  generalize y9 21 = z21
  generalize y9 22 = z22
  generalize y9 23 = z23
  generalize y9 24 = z24
  generalize y9 25 = z25
  generalize y9 26 = z26
  simp only [List.setIfInBounds_toArray, List.set_cons_succ, List.set_cons_zero]
  clear y9
  go_wp2_with fail
  refine pu3_region _ _ _ rfl E g w.heap.size vp vm rfl rfl HV.out.cells ?_
  intro y9 W9 hb9
  replace HW := Kept.mk (HW.out.then_ hb9)
  replace HV := Kept.mk (HV.out.keep hb9)
  replace HB := Kept.mk (HB.out.trans (hb9.mono HB.out.size))
  have hs9 := hb9.size
  clear hb9
  refine (add_any g (putL E.val.kind.toNat 1 ++ putL (E.key.length : Int).toNat 1) E.key W9 HW.out.at_ (by simp only [List.length_append, length_putL]; omega) (by omega)).mono ?_
  rintro e W5 ⟨rfl, hw⟩
  replace HW := Kept.mk (HW.out.trans hw)
  replace HV := Kept.mk (HV.out.wr hw (by omega))
  replace HB := Kept.mk (HB.out.trans (hw.below (by omega) (by have := HB.out.size; omega)))
  clear hw hs9
  refine ⟨_, rfl, ?_⟩
  simp only [List.foldl_cons, List.foldl_nil]
  generalize y9 27 = z27
  generalize y9 28 = z28
  generalize y9 29 = z29
  generalize y9 30 = z30
  generalize y9 31 = z31
  generalize y9 32 = z32
  simp only [List.setIfInBounds_toArray, List.set_cons_succ, List.set_cons_zero]
  clear y9
  go_wp2_with fail
  refine (fill_any g ((putL E.val.kind.toNat 1 ++ putL (E.key.length : Int).toNat 1) ++ E.key) 10 W5 HW.out.at_ (by simp only [List.length_append, length_putL]; omega) (by omega)).mono ?_
  rintro e W6 ⟨rfl, hw⟩
  replace HW := Kept.mk (HW.out.trans hw)
  replace HV := Kept.mk (HV.out.wr hw (by omega))
  replace HB := Kept.mk (HB.out.trans (hw.below (by omega) (by have := HB.out.size; omega)))
  clear hw
  have eh : ((putL E.val.kind.toNat 1 ++ putL (E.key.length : Int).toNat 1) ++ E.key) ++ zerosL (10 - ((putL E.val.kind.toNat 1 ++ putL (E.key.length : Int).toNat 1) ++ E.key).length) = headL E := by
    have e1 : 10 - ((putL E.val.kind.toNat 1 ++ putL (E.key.length : Int).toNat 1) ++ E.key).length = 8 - E.key.length := by simp only [List.length_append, length_putL]; omega
    rw [e1]
    unfold headL
    simp only [List.append_assoc, Int.toNat_natCast]
  rw [eh] at HW
  clear eh
  go_wp2_with fail
  refine pk2_region _ _ _ rfl E g w.heap.size vp vm rfl rfl HV.out.cells HK.out ?_
  intro y9 W9 hb9
  replace HW := Kept.mk (HW.out.then_ hb9)
  replace HV := Kept.mk (HV.out.keep hb9)
  replace HB := Kept.mk (HB.out.trans (hb9.mono HB.out.size))
  have hs9 := hb9.size
  clear hb9
  refine (wcount_any E.val g (headL E) vp vm W9 (stable_cells _ _ _ _ HP.out HB.out) (stable_cells _ _ _ _ HM.out HB.out) (old_blk HP.out (by rw [List.length_map, HI2.out.1]; omega) (by omega)) (old_blk HM.out (by rw [List.length_map, HI2.out.2]; omega) (by omega)) HW.out.at_ (by omega) HK.out HI.out).mono ?_
  rintro e W7 ⟨rfl, hw⟩
  replace HW := Kept.mk (HW.out.trans hw)
  replace HV := Kept.mk (HV.out.wr hw (by omega))
  replace HB := Kept.mk (HB.out.trans (hw.below (by omega) (by have := HB.out.size; omega)))
  clear hw hs9
  refine ⟨_, rfl, ?_⟩
  simp only [List.foldl_cons, List.foldl_nil]
  generalize y9 37 = z37
  generalize y9 38 = z38
  generalize y9 39 = z39
  generalize y9 40 = z40
  generalize y9 41 = z41
  generalize y9 42 = z42
  generalize y9 43 = z43
  generalize y9 44 = z44
  generalize y9 45 = z45
  simp only [List.setIfInBounds_toArray, List.set_cons_succ, List.set_cons_zero]
  clear y9
  go_wp2_with fail
  refine (fill_any g (headL E ++ dataL E.val) 42 W7 HW.out.at_ (by rw [List.length_append]; omega) (by omega)).mono ?_
  rintro e W8 ⟨rfl, hw⟩
  replace HW := Kept.mk (HW.out.trans hw)
  replace HV := Kept.mk (HV.out.wr hw (by omega))
  replace HB := Kept.mk (HB.out.trans (hw.below (by omega) (by have := HB.out.size; omega)))
  clear hw
  have eh : (headL E ++ dataL E.val) ++ zerosL (42 - (headL E ++ dataL E.val).length) = putEn E := by
    have e1 : 42 - (headL E ++ dataL E.val).length = 32 - (dataL E.val).length := by rw [List.length_append]; omega
    rw [e1]
    unfold putEn
    rw [List.append_assoc]
  rw [eh] at HW
  clear eh
  have kc := HW.out.at_.cell
  go_wp2
  go_ret2
  refine ⟨?_, HB.out⟩
  have e1 : putF E = putEn E := by unfold putF; rw [HO.out]; rfl
  rw [e1, HC.out]
  rfl
set_option maxRecDepth 100000 in
set_option maxHeartbeats 4000000 in
theorem eput_3 (E : En) (v : Value) (w : World) (hv : isEn E v w) (hF : FitE E) (hok : okE E = true) (hk : E.val.kind = 3) : Calls Tryz.prog 31 #[v] w fun e w' => e = .returned (.tuple #[txt (putF E), .int .i64 (chkE E)]) ∧ Below w.heap.size w w' := by
  have HO := Kept.mk hok
  have HK := Kept.mk hk
  have hl := length_head hok
  have HL := Kept.mk (length_putEn hok)
  have hdl := (length_data_le (show okV E.val = true by unfold okE at hok; rw [Bool.and_eq_true] at hok; exact hok.2)).1
  have hkl : 1 ≤ E.key.length ∧ E.key.length ≤ 8 := by simp only [okE, Bool.and_eq_true, decide_eq_true_eq] at hok; exact hok.1
  have hkz : 0 ≤ E.val.kind ∧ E.val.kind ≤ 3 := by omega
  clear hok hk
  obtain ⟨vp, vm, rfl, hp, hm⟩ := hv
  have HB := Kept.mk (lit_below w (.cells #[.string ⟨E.key.toArray⟩, .int .i64 E.val.kind, .int .i64 E.val.time, .int .i64 E.val.node, .bool E.val.dead, .string ⟨E.val.text.toArray⟩, vp, vm, .int .u64 (E.val.flags.toNat : Int)] 48))
  have HV := Kept.mk (Blk.new w 48 [.string ⟨E.key.toArray⟩, .int .i64 E.val.kind, .int .i64 E.val.time, .int .i64 E.val.node, .bool E.val.dead, .string ⟨E.val.text.toArray⟩, vp, vm, .int .u64 (E.val.flags.toNat : Int)] w.heap.size rfl)
  have HP := Kept.mk hp
  have HM := Kept.mk hm
  clear hp hm
  have kv0 := HV.out.cells.2 0 _ rfl
  have kv1 := HV.out.cells.2 1 _ rfl
  have kv2 := HV.out.cells.2 2 _ rfl
  have kv3 := HV.out.cells.2 3 _ rfl
  have kv4 := HV.out.cells.2 4 _ rfl
  have kv5 := HV.out.cells.2 5 _ rfl
  have kv6 := HV.out.cells.2 6 _ rfl
  have kv7 := HV.out.cells.2 7 _ rfl
  have kv8 := HV.out.cells.2 8 _ rfl
  go_enter Tryz.func31, Tryz.ntmps31
  go_wp2_with fail
  clear kv0 kv1 kv2 kv3 kv4 kv5 kv6 kv7 kv8
  generalize w.alloc (.cells #[.string ⟨E.key.toArray⟩, .int .i64 E.val.kind, .int .i64 E.val.time, .int .i64 E.val.node, .bool E.val.dead, .string ⟨E.val.text.toArray⟩, vp, vm, .int .u64 (E.val.flags.toNat : Int)] 48) = W0 at *
  have hs0 := HV.out.lt
  refine (echeck_any E _ W0 ⟨vp, vm, rfl, stable_cells _ _ _ _ HP.out HB.out, stable_cells _ _ _ _ HM.out HB.out⟩ hF).mono ?_
  rintro e W1 ⟨rfl, hb⟩
  replace HV := Kept.mk (HV.out.keep hb)
  replace HB := Kept.mk (HB.out.trans (hb.mono HB.out.size))
  have hs1 := hb.size
  clear hb
  have hC : chkE E = 0 := by unfold chkE; rw [HO.out]; rfl
  rw [hC]
  have HC := Kept.mk hC
  clear hC
  go_wp2_with fail
  have HW := Kept.mk (Wr.refl (show At (W1.alloc (.cells #[.string ⟨#[]⟩] 87)) W1.heap.size (txt []) from (fun b => ⟨b.cells.2 0 _ rfl, b.free 0, b.lt⟩) (Blk.new W1 87 [.string ⟨#[]⟩] W1.heap.size rfl)))
  replace HV := Kept.mk (HV.out.alloc (.cells #[.string ⟨#[]⟩] 87))
  replace HB := Kept.mk (HB.out.alloc HB.out.size (.cells #[.string ⟨#[]⟩] 87))
  generalize hW2 : W1.alloc (.cells #[.string ⟨#[]⟩] 87) = W2 at *
  clear hW2
  generalize hg : W1.heap.size = g at *
  clear hg
  refine pu1_region _ _ _ rfl E g w.heap.size vp vm rfl rfl HV.out.cells ?_
  intro y9 W9 hb9
  replace HW := Kept.mk (HW.out.then_ hb9)
  replace HV := Kept.mk (HV.out.keep hb9)
  replace HB := Kept.mk (HB.out.trans (hb9.mono HB.out.size))
  have hs9 := hb9.size
  clear hb9
  refine (number_z g [] E.val.kind 1 W9 HW.out.at_ (by simp) hkz.1 (by omega) (by omega) (by omega) (by show _ < 256; omega)).mono ?_
  rintro e W3 ⟨rfl, hw⟩
  replace HW := Kept.mk (HW.out.trans hw)
  replace HV := Kept.mk (HV.out.wr hw (by omega))
  replace HB := Kept.mk (HB.out.trans (hw.below (by omega) (by have := HB.out.size; omega)))
  clear hw hs9
  refine ⟨_, rfl, ?_⟩
  simp only [List.foldl_cons, List.foldl_nil]
  generalize y9 13 = z13
  generalize y9 14 = z14
  generalize y9 15 = z15
  generalize y9 16 = z16
  generalize y9 17 = z17
  generalize y9 18 = z18
  generalize y9 19 = z19
  simp only [List.setIfInBounds_toArray, List.set_cons_succ, List.set_cons_zero]
  clear y9
  go_wp2_with fail
  rw [List.nil_append] at HW
  refine pu2_region _ _ _ rfl E g w.heap.size vp vm rfl rfl HV.out.cells ?_
  intro y9 W9 hb9
  replace HW := Kept.mk (HW.out.then_ hb9)
  replace HV := Kept.mk (HV.out.keep hb9)
  replace HB := Kept.mk (HB.out.trans (hb9.mono HB.out.size))
  have hs9 := hb9.size
  clear hb9
  refine (number_z g (putL E.val.kind.toNat 1) (E.key.length : Int) 1 W9 HW.out.at_ (by rw [length_putL]; omega) (by omega) (by omega) (by omega) (by omega) (by show _ < 256; omega)).mono ?_
  rintro e W4 ⟨rfl, hw⟩
  replace HW := Kept.mk (HW.out.trans hw)
  replace HV := Kept.mk (HV.out.wr hw (by omega))
  replace HB := Kept.mk (HB.out.trans (hw.below (by omega) (by have := HB.out.size; omega)))
  clear hw hs9
  refine ⟨_, rfl, ?_⟩
  simp only [List.foldl_cons, List.foldl_nil]
  generalize y9 20 = z20
  generalize y9 21 = z21
  generalize y9 22 = z22
  generalize y9 23 = z23
  generalize y9 24 = z24
  generalize y9 25 = z25
  generalize y9 26 = z26
  simp only [List.setIfInBounds_toArray, List.set_cons_succ, List.set_cons_zero]
  clear y9
  go_wp2_with fail
  refine pu3_region _ _ _ rfl E g w.heap.size vp vm rfl rfl HV.out.cells ?_
  intro y9 W9 hb9
  replace HW := Kept.mk (HW.out.then_ hb9)
  replace HV := Kept.mk (HV.out.keep hb9)
  replace HB := Kept.mk (HB.out.trans (hb9.mono HB.out.size))
  have hs9 := hb9.size
  clear hb9
  refine (add_any g (putL E.val.kind.toNat 1 ++ putL (E.key.length : Int).toNat 1) E.key W9 HW.out.at_ (by simp only [List.length_append, length_putL]; omega) (by omega)).mono ?_
  rintro e W5 ⟨rfl, hw⟩
  replace HW := Kept.mk (HW.out.trans hw)
  replace HV := Kept.mk (HV.out.wr hw (by omega))
  replace HB := Kept.mk (HB.out.trans (hw.below (by omega) (by have := HB.out.size; omega)))
  clear hw hs9
  refine ⟨_, rfl, ?_⟩
  simp only [List.foldl_cons, List.foldl_nil]
  generalize y9 27 = z27
  generalize y9 28 = z28
  generalize y9 29 = z29
  generalize y9 30 = z30
  generalize y9 31 = z31
  generalize y9 32 = z32
  simp only [List.setIfInBounds_toArray, List.set_cons_succ, List.set_cons_zero]
  clear y9
  go_wp2_with fail
  refine (fill_any g ((putL E.val.kind.toNat 1 ++ putL (E.key.length : Int).toNat 1) ++ E.key) 10 W5 HW.out.at_ (by simp only [List.length_append, length_putL]; omega) (by omega)).mono ?_
  rintro e W6 ⟨rfl, hw⟩
  replace HW := Kept.mk (HW.out.trans hw)
  replace HV := Kept.mk (HV.out.wr hw (by omega))
  replace HB := Kept.mk (HB.out.trans (hw.below (by omega) (by have := HB.out.size; omega)))
  clear hw
  have eh : ((putL E.val.kind.toNat 1 ++ putL (E.key.length : Int).toNat 1) ++ E.key) ++ zerosL (10 - ((putL E.val.kind.toNat 1 ++ putL (E.key.length : Int).toNat 1) ++ E.key).length) = headL E := by
    have e1 : 10 - ((putL E.val.kind.toNat 1 ++ putL (E.key.length : Int).toNat 1) ++ E.key).length = 8 - E.key.length := by simp only [List.length_append, length_putL]; omega
    rw [e1]
    unfold headL
    simp only [List.append_assoc, Int.toNat_natCast]
  rw [eh] at HW
  clear eh
  go_wp2_with fail
  refine pk3_region _ _ _ rfl E g w.heap.size vp vm rfl rfl HV.out.cells HK.out ?_
  intro y9 W9 hb9
  replace HW := Kept.mk (HW.out.then_ hb9)
  replace HV := Kept.mk (HV.out.keep hb9)
  replace HB := Kept.mk (HB.out.trans (hb9.mono HB.out.size))
  have hs9 := hb9.size
  clear hb9
  refine (wflags_any E.val g (headL E) _ W9 ⟨vp, vm, rfl, stable_cells _ _ _ _ HP.out HB.out, stable_cells _ _ _ _ HM.out HB.out⟩ HW.out.at_ (by omega) HK.out).mono ?_
  rintro e W7 ⟨rfl, hw⟩
  replace HW := Kept.mk (HW.out.trans hw)
  replace HV := Kept.mk (HV.out.wr hw (by omega))
  replace HB := Kept.mk (HB.out.trans (hw.below (by omega) (by have := HB.out.size; omega)))
  clear hw hs9
  refine ⟨_, rfl, ?_⟩
  simp only [List.foldl_cons, List.foldl_nil]
  generalize y9 37 = z37
  generalize y9 38 = z38
  generalize y9 39 = z39
  generalize y9 40 = z40
  generalize y9 41 = z41
  generalize y9 42 = z42
  generalize y9 43 = z43
  generalize y9 44 = z44
  generalize y9 45 = z45
  simp only [List.setIfInBounds_toArray, List.set_cons_succ, List.set_cons_zero]
  clear y9
  go_wp2_with fail
  refine (fill_any g (headL E ++ dataL E.val) 42 W7 HW.out.at_ (by rw [List.length_append]; omega) (by omega)).mono ?_
  rintro e W8 ⟨rfl, hw⟩
  replace HW := Kept.mk (HW.out.trans hw)
  replace HV := Kept.mk (HV.out.wr hw (by omega))
  replace HB := Kept.mk (HB.out.trans (hw.below (by omega) (by have := HB.out.size; omega)))
  clear hw
  have eh : (headL E ++ dataL E.val) ++ zerosL (42 - (headL E ++ dataL E.val).length) = putEn E := by
    have e1 : 42 - (headL E ++ dataL E.val).length = 32 - (dataL E.val).length := by rw [List.length_append]; omega
    rw [e1]
    unfold putEn
    rw [List.append_assoc]
  rw [eh] at HW
  clear eh
  have kc := HW.out.at_.cell
  go_wp2
  go_ret2
  refine ⟨?_, HB.out⟩
  have e1 : putF E = putEn E := by unfold putF; rw [HO.out]; rfl
  rw [e1, HC.out]
  rfl
theorem eput_any (E : En) (v : Value) (w : World) (hv : isEn E v w) (hF : FitE E) : Calls Tryz.prog 31 #[v] w fun e w' => e = .returned (.tuple #[txt (putF E), .int .i64 (chkE E)]) ∧ Below w.heap.size w w' := by
  cases hok : okE E with
  | false => exact eput_bad E v w hv hF hok
  | true =>
    have hk := kind_lt (show okV E.val = true by unfold okE at hok; rw [Bool.and_eq_true] at hok; exact hok.2)
    have h : E.val.kind = 1 ∨ E.val.kind = 2 ∨ E.val.kind = 3 := by omega
    rcases h with h | h | h
    · exact eput_1 E v w hv hF hok h
    · exact eput_2 E v w hv hF hok h
    · exact eput_3 E v w hv hF hok h
end Go.Proofs.YtkjghoomdefbbaaGreatDoor
end
section
namespace Go.Proofs.YtkjghoomdefbbaaGreatDoor
open Go Go.RowKit Go.Shelf
set_option linter.unusedVariables false
set_option linter.unusedSimpArgs false
attribute [local irreducible] setN
attribute [local go_sem] Oper.semAt_some

theorem xor_i64 (a b : Nat) (ha : a < 4294967296) (hb : b < 4294967296) : bits .xor .i64 (a : Int) (b : Int) = ((a ^^^ b : Nat) : Int) := by
  have hx : a ^^^ b < 4294967296 := x32 ha hb
  show IntKind.i64.wrap ((BitVec.ofInt 64 (a : Int) ^^^ BitVec.ofInt 64 (b : Int)).toNat : Int) = _
  rw [BitVec.toNat_xor, BitVec.toNat_ofInt, BitVec.toNat_ofInt]
  rw [show ((a : Int) % ((2 ^ 64 : Nat) : Int)).toNat = a by omega, show ((b : Int) % ((2 ^ 64 : Nat) : Int)).toNat = b by omega]
  generalize a ^^^ b = c at *
  rw [IntKind.wrap_i64]
  omega
theorem Blk.drew {W : World} {b : Nat} {cs : List Value} (h : Blk W b cs) : Blk W.drew b cs := ⟨⟨h.cells.1, h.cells.2⟩, h.free⟩
theorem cells_own {B : Nat} {cs : List Value} {v : Value} {W W' : World} {row : Option Nat} (h : isCells cs v W) (hg : W.grownBy W' row) (hr : ∀ r, row = some r → B ≤ r ∧ ∃ o : Obj, W.heap[r]? = some o ∧ o.isCells = false) : isCells cs v W' := by
  rcases h with h1 | h1 | ⟨b, off, cap, e, hlt, hcc⟩
  · exact .inl h1
  · exact .inr (.inl h1)
  · refine .inr (.inr ⟨b, off, cap, e, Nat.lt_of_lt_of_le hlt hg.size, fun j y hy => ?_⟩)
    have hx := hcc j y hy
    rw [World.cell?_of_block (a := ⟨b, off + j, none⟩) (hg.block b hlt (fun er => ?_))]
    · exact hx
    · obtain ⟨_, o, ho, hc⟩ := hr b er.symm
      rw [cell_cells hx ho] at hc
      cases hc
/-- What stands in the variable behind some slots. -/
def stS (l : List En) : List Value := [.int .i64 (sumK 0 l : Int), .int .i64 (sumK 1 l : Int), .int .i64 (sumK 2 l : Int), .int .i64 (sumK 3 l : Int)]
def sumsV (A : Ar) : Value := .agg #[.int .i64 (sumA A 0 : Int), .int .i64 (sumA A 1 : Int), .int .i64 (sumA A 2 : Int), .int .i64 (sumA A 3 : Int)]
theorem sum_chunk (A : Ar) (k : Nat) : sumK k (chunkA A 0 8) = sumA A k := by
  unfold chunkA sumA
  rw [if_neg (by decide)]
  cases hok : okA A with
  | false => rfl
  | true =>
    have h := okA_iff.1 hok
    have h1 := h.fits
    have h2 := h.room
    rw [if_pos rfl, if_pos rfl, show (0 : Int).toNat = 0 from rfl, List.drop_zero, List.take_of_length_le (by show A.slots.length ≤ 8; omega)]
def ISm (w : World) (pre : List Elb) (W : World) : Prop := Blk W (w.heap.size + 1) [.int .i64 0, .int .i64 0, .int .i64 0, .int .i64 0] ∧ Blk W (w.heap.size + 1 + 1) (stS (pre.map (·.1))) ∧ Below w.heap.size w W ∧ w.heap.size + 4 ≤ W.heap.size
theorem ism_own (w : World) (B : Nat) (hB : w.heap.size + 4 ≤ B) : OwnFrom B (ISm w) := by
  intro s W W' row ⟨h1, h2, h3, h4⟩ hg hr
  exact ⟨blk_own (by simp) h1 hg hr, blk_own (by simp [stS]) h2 hg hr, h3.grown hg (by omega) (fun k e => by have := (hr k e).1; omega), Nat.le_trans h4 hg.size⟩
theorem ism_keep {w : World} {pre : List Elb} {W W' : World} (h : ISm w pre W) (hb : Below W.heap.size W W') : ISm w pre W' :=
  ⟨h.1.keep hb, h.2.1.keep hb, h.2.2.1.trans (hb.mono (by have := h.2.2.2; omega)), Nat.le_trans h.2.2.2 hb.size⟩
def AxSm (A : Ar) (vs vi : Value) (w : World) (x : Elb) (a' : Act) (W : World) : Prop := ∃ h, a' = { tmps := #[.agg #[.int .i64 A.cap, vs, vi], .pointer (some ⟨w.heap.size, 0, none⟩), .pointer (some ⟨w.heap.size + 1, 0, none⟩), .pointer (some ⟨w.heap.size + 1 + 1, 0, none⟩), .int .i64 (bkE x.1 : Int), .pointer (some ⟨h, 0, none⟩), undef, undef, .agg #[.int .i64 A.cap, vs, vi], .func (.func 70) #[] #[.pointer (some ⟨w.heap.size + 1 + 1 + 1, 0, none⟩)], .int .i64 (bkE x.1 : Int), .agg #[.string ⟨x.1.key.toArray⟩, .int .i64 x.1.val.kind, .int .i64 x.1.val.time, .int .i64 x.1.val.node, .bool x.1.val.dead, .string ⟨x.1.val.text.toArray⟩, x.2.1, x.2.2.1, .int .u64 (x.1.val.flags.toNat : Int)], undef, undef, undef, undef, undef, undef, undef, undef, undef, undef, undef, undef, undef], defers := [] } ∧ Blk W h [.string ⟨x.1.key.toArray⟩, .int .i64 x.1.val.kind, .int .i64 x.1.val.time, .int .i64 x.1.val.node, .bool x.1.val.dead, .string ⟨x.1.val.text.toArray⟩, x.2.1, x.2.2.1, .int .u64 (x.1.val.flags.toNat : Int)] ∧ isCells (x.1.val.plus.map intC) x.2.1 W ∧ isCells (x.1.val.minus.map intC) x.2.2.1 W ∧ okE x.1 = true ∧ w.heap.size + 4 ≤ x.2.2.2.1
theorem axsm_own (A : Ar) (vs vi : Value) (w : World) (x : Elb) (a' : Act) (B : Nat) : OwnFrom B (fun (_ : Unit) W => AxSm A vs vi w x a' W) := by
  rintro _ W W' row ⟨h, e, hb, hp, hm, h1, h2⟩ hg hr
  exact ⟨h, e, blk_own (by simp) hb hg hr, cells_own hp hg hr, cells_own hm hg hr, h1, h2⟩
set_option maxRecDepth 100000 in
set_option maxHeartbeats 4000000 in
theorem sums_any (A : Ar) (v : Value) (w : World) (hv : isAr A v w) (hF : FitA A) : Calls Tryz.prog 18 #[v] w fun e W' => e = .returned (sumsV A) ∧ Below w.heap.size w W' := by
  obtain ⟨vs, vi, rfl, hs, hi⟩ := hv
  refine (callsIn_wide (n := 5)).1 ?_
  refine callsIn_of_wp_marks Tryz.func18 rfl trivial ?_ rfl
  simp only [Tryz.ntmps18, List.size_toArray, List.length_cons, List.length_nil, Nat.reduceAdd, Nat.reduceSub, Array.replicate_succ, Array.replicate_zero, List.push_toArray, List.append_toArray, List.nil_append, List.cons_append]
  gi_wp2_with (refine ⟨trivial, (callsIn_wide.2 (by_any A _ _ vs vi rfl)).mono ?_⟩; rintro e w' ⟨rfl, rfl⟩)
  have hB0 : Below w.heap.size w ((((w.alloc (.cells #[.int .i64 A.cap, vs, vi] 25)).alloc (.cells #[.int .i64 0, .int .i64 0, .int .i64 0, .int .i64 0] 26)).alloc (.cells #[.int .i64 0, .int .i64 0, .int .i64 0, .int .i64 0] 26)).alloc (.cells #[.int .i64 A.cap, vs, vi] 25)) := ((((Below.refl _ w).alloc (Nat.le_refl _) _).alloc (by simp) _).alloc (by simp; omega) _).alloc (by simp; omega) _
  have hBx : Blk ((((w.alloc (.cells #[.int .i64 A.cap, vs, vi] 25)).alloc (.cells #[.int .i64 0, .int .i64 0, .int .i64 0, .int .i64 0] 26)).alloc (.cells #[.int .i64 0, .int .i64 0, .int .i64 0, .int .i64 0] 26)).alloc (.cells #[.int .i64 A.cap, vs, vi] 25)) (w.heap.size + 1 + 1 + 1) [.int .i64 A.cap, vs, vi] := Blk.new (((w.alloc (.cells #[.int .i64 A.cap, vs, vi] 25)).alloc (.cells #[.int .i64 0, .int .i64 0, .int .i64 0, .int .i64 0] 26)).alloc (.cells #[.int .i64 0, .int .i64 0, .int .i64 0, .int .i64 0] 26)) 25 [.int .i64 A.cap, vs, vi] (w.heap.size + 1 + 1 + 1) (by simp)
  have hst : Blk ((((w.alloc (.cells #[.int .i64 A.cap, vs, vi] 25)).alloc (.cells #[.int .i64 0, .int .i64 0, .int .i64 0, .int .i64 0] 26)).alloc (.cells #[.int .i64 0, .int .i64 0, .int .i64 0, .int .i64 0] 26)).alloc (.cells #[.int .i64 A.cap, vs, vi] 25)) (w.heap.size + 1) [.int .i64 0, .int .i64 0, .int .i64 0, .int .i64 0] := ((Blk.new (w.alloc (.cells #[.int .i64 A.cap, vs, vi] 25)) 26 [.int .i64 0, .int .i64 0, .int .i64 0, .int .i64 0] (w.heap.size + 1) (by simp)).alloc _).alloc _
  have hso : Blk ((((w.alloc (.cells #[.int .i64 A.cap, vs, vi] 25)).alloc (.cells #[.int .i64 0, .int .i64 0, .int .i64 0, .int .i64 0] 26)).alloc (.cells #[.int .i64 0, .int .i64 0, .int .i64 0, .int .i64 0] 26)).alloc (.cells #[.int .i64 A.cap, vs, vi] 25)) (w.heap.size + 1 + 1) [.int .i64 0, .int .i64 0, .int .i64 0, .int .i64 0] := (Blk.new ((w.alloc (.cells #[.int .i64 A.cap, vs, vi] 25)).alloc (.cells #[.int .i64 0, .int .i64 0, .int .i64 0, .int .i64 0] 26)) 26 [.int .i64 0, .int .i64 0, .int .i64 0, .int .i64 0] (w.heap.size + 1 + 1) (by simp)).alloc _
  have hI0 : ISm w [] ((((w.alloc (.cells #[.int .i64 A.cap, vs, vi] 25)).alloc (.cells #[.int .i64 0, .int .i64 0, .int .i64 0, .int .i64 0] 26)).alloc (.cells #[.int .i64 0, .int .i64 0, .int .i64 0, .int .i64 0] 26)).alloc (.cells #[.int .i64 A.cap, vs, vi] 25)) := ⟨hst, hso, hB0, by simp⟩
  have hsz : ((((w.alloc (.cells #[.int .i64 A.cap, vs, vi] 25)).alloc (.cells #[.int .i64 0, .int .i64 0, .int .i64 0, .int .i64 0] 26)).alloc (.cells #[.int .i64 0, .int .i64 0, .int .i64 0, .int .i64 0] 26)).alloc (.cells #[.int .i64 A.cap, vs, vi] 25)).heap.size = w.heap.size + 4 := by simp
  have hs0 := stable_ens _ _ _ _ hs hB0
  have hi0 := stable_cells _ _ _ _ hi hB0
  have hseq := by1_in 4 (by omega) (w.heap.size + 1 + 1 + 1) A vs vi ((((w.alloc (.cells #[.int .i64 A.cap, vs, vi] 25)).alloc (.cells #[.int .i64 0, .int .i64 0, .int .i64 0, .int .i64 0] 26)).alloc (.cells #[.int .i64 0, .int .i64 0, .int .i64 0, .int .i64 0] 26)).alloc (.cells #[.int .i64 A.cap, vs, vi] 25)) hBx hs0 hi0 hF
  have HLO := Kept.mk (show ∀ e ∈ chunkA A 0 8, okE e = true from fun e he => chunk_ok he)
  try simp only [World.size_alloc] at hseq
  try simp only [World.size_alloc]
  generalize ((((w.alloc (.cells #[.int .i64 A.cap, vs, vi] 25)).alloc (.cells #[.int .i64 0, .int .i64 0, .int .i64 0, .int .i64 0] 26)).alloc (.cells #[.int .i64 0, .int .i64 0, .int .i64 0, .int .i64 0] 26)).alloc (.cells #[.int .i64 A.cap, vs, vi] 25)) = W0 at *
  refine range_made rfl (by decide) (gf := 70) (lb := #[.pointer (some ⟨w.heap.size + 1 + 1 + 1, 0, none⟩)]) rfl trivial (enters_of Tryz.func70 (by kernel_rfl) rfl)
    hseq kpB_t (fun x W l o o' h1 h2 h3 h4 => kpB_put x W l o o' h1 h2 h3 h4) (Below.refl _ _) (fun _ => rfl)
    (ISm w) (fun _ _ _ => False) (ism_own w _ (by omega)) (fun _ _ _ _ _ hs _ _ => hs) hI0 (AxSm A vs vi w) (fun x a' => axsm_own A vs vi w x a' _) ?assign ?body ?done ?stop
  case assign =>
    intro l pre x W K hIp hpx hK
    obtain ⟨K1, K2, K3, K4, K5⟩ := enew W x.1 x.2.1 x.2.2.1 hpx.rp hpx.rm W.heap.size rfl
    have HH := Kept.mk ((Blk.new W 48 [.string ⟨#[]⟩, .int .i64 0, .int .i64 0, .int .i64 0, .bool false, .string ⟨#[]⟩, .slice none 0 0, .slice none 0 0, .int .u64 0] W.heap.size rfl).all_ (l := [.string ⟨x.1.key.toArray⟩, .int .i64 x.1.val.kind, .int .i64 x.1.val.time, .int .i64 x.1.val.node, .bool x.1.val.dead, .string ⟨x.1.val.text.toArray⟩, x.2.1, x.2.2.1, .int .u64 (x.1.val.flags.toNat : Int)]) rfl)
    have hK2 := hK _ _ (keeps_below K3.out) (kpB_below K3.out) (ism_keep hIp K3.out) ⟨W.heap.size, rfl, HH.out, stable_cells _ _ _ _ hpx.rp K3.out, stable_cells _ _ _ _ hpx.rm K3.out, HLO.out _ (List.mem_of_getElem? hpx.at_), by have := hpx.lo; omega⟩
    have HK := Kept.mk hK2
    clear hK2 hK hpx
    simp only [encBk]
    gi_wp2_with (have hz0 := K1; refine wpListIn_storeN (fun _ => trivial) 48 rfl (.tmp 5) (.tmp 11) rfl W.heap.size [.string ⟨x.1.key.toArray⟩, .int .i64 x.1.val.kind, .int .i64 x.1.val.time, .int .i64 x.1.val.node, .bool x.1.val.dead, .string ⟨x.1.val.text.toArray⟩, x.2.1, x.2.2.1, .int .u64 (x.1.val.flags.toNat : Int)] size_en rfl rfl K1.out rfl K2.out K5.out ?_; clear hz0 K1 K2 K5)
    exact HK.out
  case body =>
    rintro l pre x a' W hl hIp ⟨h, rfl, hbl, hp, hm, hok, hlo⟩ hlt
    obtain ⟨h1, h2, h3, hsz4⟩ := hIp
    have HO := Kept.mk h2
    have HR := Kept.mk h1
    have HB := Kept.mk h3
    have FE := ok_fit' hok
    have HPF := Kept.mk (show putF x.1 = putEn x.1 by unfold putF; rw [if_pos hok])
    have HLN := Kept.mk (show (putEn x.1).length ≤ 1024 by rw [length_putEn hok]; decide)
    have hmx : Tryz.prog.follows .mixedOrders = true := mixed
    have XE := Kept.mk (show isEn x.1 (.agg #[.string ⟨x.1.key.toArray⟩, .int .i64 x.1.val.kind, .int .i64 x.1.val.time, .int .i64 x.1.val.node, .bool x.1.val.dead, .string ⟨x.1.val.text.toArray⟩, x.2.1, x.2.2.1, .int .u64 (x.1.val.flags.toNat : Int)]) W from ⟨_, _, rfl, hp, hm⟩)
    have ke0 := hbl.cells.2 0 _ rfl
    have ke1 := hbl.cells.2 1 _ rfl
    have ke2 := hbl.cells.2 2 _ rfl
    have ke3 := hbl.cells.2 3 _ rfl
    have ke4 := hbl.cells.2 4 _ rfl
    have ke5 := hbl.cells.2 5 _ rfl
    have ke6 := hbl.cells.2 6 _ rfl
    have ke7 := hbl.cells.2 7 _ rfl
    have ke8 := hbl.cells.2 8 _ rfl
    have HFIN : ∀ k, (hk : bkE x.1 = k) → ∀ W1, Below W.heap.size W W1 → KeepsFrom W0.heap.size W (W1.setCell ⟨w.heap.size + 1 + 1, k, none⟩ (.int .i64 ((sumK k (pre.map (·.1)) ^^^ sumE x.1 : Nat) : Int))).drew ∧ KpB x W (W1.setCell ⟨w.heap.size + 1 + 1, k, none⟩ (.int .i64 ((sumK k (pre.map (·.1)) ^^^ sumE x.1 : Nat) : Int))).drew ∧ ISm w (pre ++ [x]) (W1.setCell ⟨w.heap.size + 1 + 1, k, none⟩ (.int .i64 ((sumK k (pre.map (·.1)) ^^^ sumE x.1 : Nat) : Int))).drew := by
      intro k hk W1 hb
      have hk4 : k < 4 := by rw [← hk]; exact bucketN_lt _ _
      have hst1 : stS ((pre ++ [x]).map (·.1)) = (stS (pre.map (·.1))).set k (.int .i64 ((sumK k (pre.map (·.1)) ^^^ sumE x.1 : Nat) : Int)) := by
        rw [List.map_append]
        show stS (pre.map (·.1) ++ [x.1]) = _
        unfold stS
        simp only [sumK_snoc, hk]
        have h4 : k = 0 ∨ k = 1 ∨ k = 2 ∨ k = 3 := by omega
        rcases h4 with rfl | rfl | rfl | rfl <;> simp
      have hother : ∀ b, b < W.heap.size → b ≠ w.heap.size + 1 + 1 → (W1.setCell ⟨w.heap.size + 1 + 1, k, none⟩ (.int .i64 ((sumK k (pre.map (·.1)) ^^^ sumE x.1 : Nat) : Int))).drew.heap[b]? = W.heap[b]? := fun b h1 h2 => (Below.heap_setCell W1 _ _ b h2).trans (hb.block b h1)
      have hle : W.heap.size ≤ (W1.setCell ⟨w.heap.size + 1 + 1, k, none⟩ (.int .i64 ((sumK k (pre.map (·.1)) ^^^ sumE x.1 : Nat) : Int))).drew.heap.size := by
        have := hb.size
        show W.heap.size ≤ (W1.setCell _ _).heap.size
        simpa using this
      refine ⟨⟨hle, fun b o hB hkb _ => (hother b (Array.getElem?_eq_some_iff.1 hkb).1 (by omega)).trans hkb⟩, kpB_blk hle (fun b h1 _ h3 => hother b h3 (by omega)), ?_, ?_, ?_, ?_⟩
      · exact ((HR.out.keep hb).apart (show w.heap.size + 1 ≠ w.heap.size + 1 + 1 by omega) _ _).drew
      · rw [hst1]; exact ((HO.out.keep hb).set k _ (by unfold stS; exact hk4)).drew
      · exact ((HB.out.trans (hb.mono HB.out.size)).setCell (p := ⟨w.heap.size + 1 + 1, k, none⟩) (by show w.heap.size ≤ w.heap.size + 1 + 1; omega) _).drew
      · omega
    have hb4 := bucketN_lt x.1.val.kind x.1.key
    have h4 : bkE x.1 = 0 ∨ bkE x.1 = 1 ∨ bkE x.1 = 2 ∨ bkE x.1 = 3 := by unfold bkE; omega
    clear hp hm hbl h1 h2 h3
    rcases h4 with hk | hk | hk | hk
    · have HFK := HFIN 0 hk
      rw [hk]
      have kc := HO.out.cells.2 0 (.int .i64 (sumK 0 (pre.map (·.1)) : Int)) rfl
      have kf := HO.out.free 0
      have hxo := xor_i64 (sumK 0 (pre.map (·.1))) (sumE x.1) (sumK_lt 0 _) (sumE_lt _)
      clear HFIN hk
      gi_wp2_with fail
      refine ⟨trivial, (CallsIn.inRound l (callsIn_wide.2 (eput_any x.1 _ _ XE.out FE))).mono ?_⟩
      rintro e W1 ⟨rfl, hb⟩
      rw [HPF.out]
      have kc1 := (hb.cell (p := ⟨w.heap.size + 1 + 1, 0, none⟩) HO.out.lt).trans kc
      have kf1 := (hb.frozen (p := ⟨w.heap.size + 1 + 1, 0, none⟩) HO.out.lt).trans kf
      have HW := Kept.mk (HFK W1 hb)
      clear kc kf XE ke0 ke1 ke2 ke3 ke4 ke5 ke6 ke7 ke8 HFK hb
      have hln : (putEn x.1).length ≤ 1024 := HLN.out
      have hsm : sumE x.1 = crcN (putEn x.1) := rfl
      rw [hsm] at hxo HW
      clear hsm
      generalize putEn x.1 = q at *
      generalize sumK 0 (pre.map (·.1)) = sk at *
      gi_wp2_with fail
      gi_region_with_o (refine ⟨trivial, (CallsIn.inRound l (callsIn_wide.2 (sum_any q _ hln))).mono ?_⟩; rintro e w' ⟨rfl, rfl⟩)
      all_goals exact HW.out
    · have HFK := HFIN 1 hk
      rw [hk]
      have kc := HO.out.cells.2 1 (.int .i64 (sumK 1 (pre.map (·.1)) : Int)) rfl
      have kf := HO.out.free 1
      have hxo := xor_i64 (sumK 1 (pre.map (·.1))) (sumE x.1) (sumK_lt 1 _) (sumE_lt _)
      clear HFIN hk
      gi_wp2_with fail
      refine ⟨trivial, (CallsIn.inRound l (callsIn_wide.2 (eput_any x.1 _ _ XE.out FE))).mono ?_⟩
      rintro e W1 ⟨rfl, hb⟩
      rw [HPF.out]
      have kc1 := (hb.cell (p := ⟨w.heap.size + 1 + 1, 1, none⟩) HO.out.lt).trans kc
      have kf1 := (hb.frozen (p := ⟨w.heap.size + 1 + 1, 1, none⟩) HO.out.lt).trans kf
      have HW := Kept.mk (HFK W1 hb)
      clear kc kf XE ke0 ke1 ke2 ke3 ke4 ke5 ke6 ke7 ke8 HFK hb
      have hln : (putEn x.1).length ≤ 1024 := HLN.out
      have hsm : sumE x.1 = crcN (putEn x.1) := rfl
      rw [hsm] at hxo HW
      clear hsm
      generalize putEn x.1 = q at *
      generalize sumK 1 (pre.map (·.1)) = sk at *
      gi_wp2_with fail
      gi_region_with_o (refine ⟨trivial, (CallsIn.inRound l (callsIn_wide.2 (sum_any q _ hln))).mono ?_⟩; rintro e w' ⟨rfl, rfl⟩)
      all_goals exact HW.out
    · have HFK := HFIN 2 hk
      rw [hk]
      have kc := HO.out.cells.2 2 (.int .i64 (sumK 2 (pre.map (·.1)) : Int)) rfl
      have kf := HO.out.free 2
      have hxo := xor_i64 (sumK 2 (pre.map (·.1))) (sumE x.1) (sumK_lt 2 _) (sumE_lt _)
      clear HFIN hk
      gi_wp2_with fail
      refine ⟨trivial, (CallsIn.inRound l (callsIn_wide.2 (eput_any x.1 _ _ XE.out FE))).mono ?_⟩
      rintro e W1 ⟨rfl, hb⟩
      rw [HPF.out]
      have kc1 := (hb.cell (p := ⟨w.heap.size + 1 + 1, 2, none⟩) HO.out.lt).trans kc
      have kf1 := (hb.frozen (p := ⟨w.heap.size + 1 + 1, 2, none⟩) HO.out.lt).trans kf
      have HW := Kept.mk (HFK W1 hb)
      clear kc kf XE ke0 ke1 ke2 ke3 ke4 ke5 ke6 ke7 ke8 HFK hb
      have hln : (putEn x.1).length ≤ 1024 := HLN.out
      have hsm : sumE x.1 = crcN (putEn x.1) := rfl
      rw [hsm] at hxo HW
      clear hsm
      generalize putEn x.1 = q at *
      generalize sumK 2 (pre.map (·.1)) = sk at *
      gi_wp2_with fail
      gi_region_with_o (refine ⟨trivial, (CallsIn.inRound l (callsIn_wide.2 (sum_any q _ hln))).mono ?_⟩; rintro e w' ⟨rfl, rfl⟩)
      all_goals exact HW.out
    · have HFK := HFIN 3 hk
      rw [hk]
      have kc := HO.out.cells.2 3 (.int .i64 (sumK 3 (pre.map (·.1)) : Int)) rfl
      have kf := HO.out.free 3
      have hxo := xor_i64 (sumK 3 (pre.map (·.1))) (sumE x.1) (sumK_lt 3 _) (sumE_lt _)
      clear HFIN hk
      gi_wp2_with fail
      refine ⟨trivial, (CallsIn.inRound l (callsIn_wide.2 (eput_any x.1 _ _ XE.out FE))).mono ?_⟩
      rintro e W1 ⟨rfl, hb⟩
      rw [HPF.out]
      have kc1 := (hb.cell (p := ⟨w.heap.size + 1 + 1, 3, none⟩) HO.out.lt).trans kc
      have kf1 := (hb.frozen (p := ⟨w.heap.size + 1 + 1, 3, none⟩) HO.out.lt).trans kf
      have HW := Kept.mk (HFK W1 hb)
      clear kc kf XE ke0 ke1 ke2 ke3 ke4 ke5 ke6 ke7 ke8 HFK hb
      have hln : (putEn x.1).length ≤ 1024 := HLN.out
      have hsm : sumE x.1 = crcN (putEn x.1) := rfl
      rw [hsm] at hxo HW
      clear hsm
      generalize putEn x.1 = q at *
      generalize sumK 3 (pre.map (·.1)) = sk at *
      gi_wp2_with fail
      gi_region_with_o (refine ⟨trivial, (CallsIn.inRound l (callsIn_wide.2 (sum_any q _ hln))).mono ?_⟩; rintro e w' ⟨rfl, rfl⟩)
      all_goals exact HW.out
  case done =>
    rintro D ys W hD hys ⟨h1, h2, h3, h4⟩ hK
    have hys2 : ys.map (·.1) = chunkA A 0 8 := hys
    rw [hys2] at h2
    have hss : stS (chunkA A 0 8) = [.int .i64 (sumA A 0 : Int), .int .i64 (sumA A 1 : Int), .int .i64 (sumA A 2 : Int), .int .i64 (sumA A 3 : Int)] := by
      unfold stS
      rw [sum_chunk, sum_chunk, sum_chunk, sum_chunk]
    rw [hss] at h2
    have HO := Kept.mk h2
    have HR := Kept.mk h1
    have HB := Kept.mk h3
    have k0 := h2.cells.2 0 _ rfl
    have k1 := h2.cells.2 1 _ rfl
    have k2 := h2.cells.2 2 _ rfl
    have k3 := h2.cells.2 3 _ rfl
    have KO := Kept.mk (show Ones [.int .i64 (sumA A 0 : Int), .int .i64 (sumA A 1 : Int), .int .i64 (sumA A 2 : Int), .int .i64 (sumA A 3 : Int)] from ⟨rfl, rfl, rfl, rfl, trivial⟩)
    have hK3 : (setN W (w.heap.size + 1) 0 [.int .i64 (sumA A 0 : Int), .int .i64 (sumA A 1 : Int), .int .i64 (sumA A 2 : Int), .int .i64 (sumA A 3 : Int)]).heap[D]? = some (.deferred (some [])) := ((bt_setN (S := fun b => b = w.heap.size + 1) rfl _ 0 W).block D (Array.getElem?_eq_some_iff.1 hK).1 (by show ¬ D = w.heap.size + 1; omega)).trans hK
    have HK3 := Kept.mk hK3
    have HCR := Kept.mk (blk_own (B := W0.heap.size) (by simp) (HR.out.all_ (l := [.int .i64 (sumA A 0 : Int), .int .i64 (sumA A 1 : Int), .int .i64 (sumA A 2 : Int), .int .i64 (sumA A 3 : Int)]) rfl) (grownBy_putObj' _ D (.deferred none)) (fun r e => by cases e; exact ⟨hD, _, hK3, rfl⟩))
    have HBB := Kept.mk ((below_setN (B := w.heap.size) (g := w.heap.size + 1) (by omega) [.int .i64 (sumA A 0 : Int), .int .i64 (sumA A 1 : Int), .int .i64 (sumA A 2 : Int), .int .i64 (sumA A 3 : Int)] 0 _ h3).trans (belowK_b (w := w) (Nat.le_refl _) _ D _ (.deferred none) (by omega) hK3 rfl rfl))
    clear h1 h2 h3 hK3 hss hys hys2
    gi_wp2_with (have hz0 := KO; refine wpListIn_storeN (fun _ => trivial) 26 rfl (.tmp 2) (.tmp 24) rfl (w.heap.size + 1) [.int .i64 (sumA A 0 : Int), .int .i64 (sumA A 1 : Int), .int .i64 (sumA A 2 : Int), .int .i64 (sumA A 3 : Int)] size_a4 rfl rfl HR.out.cells rfl HR.out.free KO.out ?_; clear hz0 KO k0 k1 k2 k3)
    refine ⟨by simp, .inl ⟨_, _, rfl, run_takeDeferred HK3.out, ?_⟩⟩
    exact ⟨_, resultsN1 rfl _ _ (w.heap.size + 1) _ size_a4 agg_a4 rfl HCR.out.cells, rfl, HBB.out⟩
  case stop =>
    rintro D c pre W _ _ h _
    exact h.elim
end Go.Proofs.YtkjghoomdefbbaaGreatDoor
end
section
namespace Go.Proofs.YtkjghoomdefbbaaGreatDoor
open Go.RowKit
set_option linter.unusedVariables false
set_option linter.unusedSimpArgs false

theorem and_i64 (a b : Nat) (ha : a < 4294967296) (hb : b < 4294967296) : bits .and .i64 (a : Int) (b : Int) = ((a &&& b : Nat) : Int) := by
  have hx : a &&& b < 4294967296 := Nat.lt_of_le_of_lt Nat.and_le_left ha
  show IntKind.i64.wrap ((BitVec.ofInt 64 (a : Int) &&& BitVec.ofInt 64 (b : Int)).toNat : Int) = _
  rw [BitVec.toNat_and, BitVec.toNat_ofInt, BitVec.toNat_ofInt]
  rw [show ((a : Int) % ((2 ^ 64 : Nat) : Int)).toNat = a by omega, show ((b : Int) % ((2 ^ 64 : Nat) : Int)).toNat = b by omega]
  generalize a &&& b = c at *
  rw [IntKind.wrap_i64]
  omega
def askK (m : Int) (k : Nat) : Bool := maskB m && decide (m.toNat &&& 2 ^ k ≠ 0)
theorem askB_eq (m : Int) (E : En) : askB m E = askK m (bkE E) := rfl
theorem and_v {P : Program} {t : TypeId} (x y z : Int) (h : bits .and .i64 x y = z) (w : World) : (binOp .and t (.int .i64 x) (.int .i64 y)).run P w = .ok (.int .i64 z) w := by subst h; simp [go_sem]
theorem neq_v0 {P : Program} {t : TypeId} (z : Nat) (b : Bool) (h : decide (z ≠ 0) = b) (w : World) : (binOp .neq t (.int .i64 (z : Int)) (.int .i64 0)).run P w = .ok (.bool b) w := by
  subst h
  by_cases hz : z = 0
  · subst hz; simp [go_sem]
  · have : ¬ (z : Int) = 0 := by omega
    simp [go_sem, hz, this]
noncomputable def ask2Ops : Array Oper := regionOf Tryz.f39 1
set_option maxRecDepth 100000 in
set_option maxHeartbeats 2000000 in
theorem ask2_region (Q : Exit → Act → World → Prop) (a0 : Act) (w0 : World) (hsz : a0.tmps.size = 13) (k g z : Nat) (b : Bool) (m : Int) (e0 : a0.tmps.getD 0 undef = .int .i64 (k : Int)) (e1 : a0.tmps.getD 1 undef = .pointer (some ⟨g, 0, none⟩)) (hc : w0.cell? ⟨g, 0, none⟩ = some (.int .i64 m)) (hg : g < w0.heap.size) (hm : maskB m = true) (hk : k < 4) (hand : bits .and .i64 m ((2 ^ k : Nat) : Int) = (z : Int)) (hne : decide (z ≠ 0) = b)
    (hQ : ∀ (g : Nat → Value) (w : World), g 3 = .bool b → Below w0.heap.size w0 w → Q .normal { tmps := [4, 5, 6, 7, 8, 9, 10, 11, 12, 3].foldl (fun t s => t.setIfInBounds s (g s)) a0.tmps, defers := a0.defers } w) :
    (Code.region 1 ask2Ops true).wp Tryz.prog Q a0 w0 := by
  refine wp_region_flow mixed (by rw [hsz]; kernel_rfl) ?_
  rw [show ask2Ops.size = 10 by kernel_rfl]
  refine ⟨isVal (.int .i64 m), step_read 3 (.tmp 1) ⟨g, 0, none⟩ (.int .i64 m) (by kernel_rfl) (wanted_none (by kernel_rfl)) (knows_old 1 (.pointer (some ⟨g, 0, none⟩)) (by kernel_rfl) e1) (hc) (hg) (agg_noZ), ?_⟩
  refine ⟨isVal (.bool true), step_call 40 #[.tmp 4] #[3] #[.int .i64 m] (by kernel_rfl) (wanted_none (by kernel_rfl)) (stable_val _) (args1 (.tmp 4) (.int .i64 m) (knows_new (V := isVal (.int .i64 m)) 4 0 (by kernel_rfl) (by kernel_rfl) (by kernel_rfl))) (enters_of Tryz.func40 (by kernel_rfl) rfl) (by intro w' hb; exact (isMask_any m w').mono (by rintro e w2 ⟨rfl, hb2⟩; exact ⟨_, by rw [hm], rfl, hb2⟩)), ?_⟩
  refine ⟨isVal (.bool true), step_move (.tmp 5) (by kernel_rfl) (wanted_none (by kernel_rfl)) (stable_val _) (knows_new (V := isVal (.bool true)) 5 1 (by kernel_rfl) (by kernel_rfl) (by kernel_rfl)), ?_⟩
  refine ⟨isVal (.int .i64 m), step_read 3 (.tmp 1) ⟨g, 0, none⟩ (.int .i64 m) (by kernel_rfl) (wanted_some 2 6 true (by kernel_rfl) (by kernel_rfl) (by kernel_rfl) (by kernel_rfl)) (knows_old 1 (.pointer (some ⟨g, 0, none⟩)) (by kernel_rfl) e1) (hc) (hg) (agg_noZ), ?_⟩
  refine ⟨isVal (.int .i64 (k : Int)), step_move (.tmp 0) (by kernel_rfl) (wanted_some 2 6 true (by kernel_rfl) (by kernel_rfl) (by kernel_rfl) (by kernel_rfl)) (stable_val _) (knows_old 0 (.int .i64 (k : Int)) (by kernel_rfl) e0), ?_⟩
  refine ⟨isVal (.int .i64 ((2 ^ k : Nat) : Int)), step_call 41 #[.tmp 8] #[3] #[.int .i64 (k : Int)] (by kernel_rfl) (wanted_some 2 6 true (by kernel_rfl) (by kernel_rfl) (by kernel_rfl) (by kernel_rfl)) (stable_val _) (args1 (.tmp 8) (.int .i64 (k : Int)) (knows_new (V := isVal (.int .i64 (k : Int))) 8 4 (by kernel_rfl) (by kernel_rfl) (by kernel_rfl))) (enters_of Tryz.func41 (by kernel_rfl) rfl) (by intro w' hb; exact (bit_any k w' hk).mono (by rintro e w2 ⟨rfl, hb2⟩; exact ⟨_, rfl, rfl, hb2⟩)), ?_⟩
  refine ⟨isVal (.int .i64 (z : Int)), step_bin .and 3 3 (.tmp 7) (.tmp 9) (.int .i64 m) (.int .i64 ((2 ^ k : Nat) : Int)) (.int .i64 (z : Int)) (by kernel_rfl) (wanted_some 2 6 true (by kernel_rfl) (by kernel_rfl) (by kernel_rfl) (by kernel_rfl)) (knows_new (V := isVal (.int .i64 m)) 7 3 (by kernel_rfl) (by kernel_rfl) (by kernel_rfl)) (knows_new (V := isVal (.int .i64 ((2 ^ k : Nat) : Int))) 9 5 (by kernel_rfl) (by kernel_rfl) (by kernel_rfl)) (fun _ => rfl) (and_v _ _ _ hand), ?_⟩
  refine ⟨isVal (.bool b), step_bin .neq 3 3 (.tmp 10) (.const (.int .i64 0)) (.int .i64 (z : Int)) (.int .i64 0) (.bool b) (by kernel_rfl) (wanted_some 2 6 true (by kernel_rfl) (by kernel_rfl) (by kernel_rfl) (by kernel_rfl)) (knows_new (V := isVal (.int .i64 (z : Int))) 10 6 (by kernel_rfl) (by kernel_rfl) (by kernel_rfl)) (knows_const _) (fun _ => rfl) (neq_v0 _ _ hne), ?_⟩
  refine ⟨isVal (.bool b), step_pick (.tmp 6) (.tmp 11) (.const (.bool false)) true (by kernel_rfl) (wanted_none (by kernel_rfl)) (stable_val _) (knows_new (V := isVal (.bool true)) 6 2 (by kernel_rfl) (by kernel_rfl) (by kernel_rfl)) (knows_new (V := isVal (.bool b)) 11 7 (by kernel_rfl) (by kernel_rfl) (by kernel_rfl)), ?_⟩
  refine ⟨isVal (.bool b), step_assign (.tmp 12) (by kernel_rfl) (wanted_none (by kernel_rfl)) (stable_val _) (knows_new (V := isVal (.bool b)) 12 8 (by kernel_rfl) (by kernel_rfl) (by kernel_rfl)), ?_⟩
  intro a w hkp hb hd
  rw [kept_of hkp [some 4, some 5, some 6, some 7, some 8, some 9, some 10, some 11, some 12, some 3] [4, 5, 6, 7, 8, 9, 10, 11, 12, 3] (by kernel_rfl) (by decide)]
  have d3 := fdone_of (hd 9 (by rw [show ask2Ops.size = 10 by kernel_rfl]; decide)) (t := 3) (V := isVal (.bool b)) (by kernel_rfl) (by kernel_rfl)
  exact hQ (fun s => a.tmps.getD s undef) w d3 hb
noncomputable def askOps : Array Oper := regionOf Tryz.f39 1
set_option maxRecDepth 100000 in
set_option maxHeartbeats 2000000 in
theorem ask_region (Q : Exit → Act → World → Prop) (a0 : Act) (w0 : World) (hsz : a0.tmps.size = 13) (k g : Nat) (m : Int) (e0 : a0.tmps.getD 0 undef = .int .i64 (k : Int)) (e1 : a0.tmps.getD 1 undef = .pointer (some ⟨g, 0, none⟩)) (hc : w0.cell? ⟨g, 0, none⟩ = some (.int .i64 m)) (hg : g < w0.heap.size) (hm : maskB m = false)
    (hQ : ∀ (g : Nat → Value) (w : World), g 3 = .bool false → Below w0.heap.size w0 w → Q .normal { tmps := [4, 5, 6, 7, 8, 9, 10, 11, 12, 3].foldl (fun t s => t.setIfInBounds s (g s)) a0.tmps, defers := a0.defers } w) :
    (Code.region 1 askOps true).wp Tryz.prog Q a0 w0 := by
  refine wp_region_flow mixed (by rw [hsz]; kernel_rfl) ?_
  rw [show askOps.size = 10 by kernel_rfl]
  refine ⟨isVal (.int .i64 m), step_read 3 (.tmp 1) ⟨g, 0, none⟩ (.int .i64 m) (by kernel_rfl) (wanted_none (by kernel_rfl)) (knows_old 1 (.pointer (some ⟨g, 0, none⟩)) (by kernel_rfl) e1) (hc) (hg) (agg_noZ), ?_⟩
  refine ⟨isVal (.bool false), step_call 40 #[.tmp 4] #[3] #[.int .i64 m] (by kernel_rfl) (wanted_none (by kernel_rfl)) (stable_val _) (args1 (.tmp 4) (.int .i64 m) (knows_new (V := isVal (.int .i64 m)) 4 0 (by kernel_rfl) (by kernel_rfl) (by kernel_rfl))) (enters_of Tryz.func40 (by kernel_rfl) rfl) (by intro w' hb; exact (isMask_any m w').mono (by rintro e w2 ⟨rfl, hb2⟩; exact ⟨_, rfl, by rw [hm]; rfl, hb2⟩)), ?_⟩
  refine ⟨isVal (.bool false), step_move (.tmp 5) (by kernel_rfl) (wanted_none (by kernel_rfl)) (stable_val _) (knows_new (V := isVal (.bool false)) 5 1 (by kernel_rfl) (by kernel_rfl) (by kernel_rfl)), ?_⟩
  refine ⟨_, step_skip 2 6 true false (by kernel_rfl) (by kernel_rfl) (by kernel_rfl) (by kernel_rfl) rfl, ?_⟩
  refine ⟨_, step_skip 2 6 true false (by kernel_rfl) (by kernel_rfl) (by kernel_rfl) (by kernel_rfl) rfl, ?_⟩
  refine ⟨_, step_skip 2 6 true false (by kernel_rfl) (by kernel_rfl) (by kernel_rfl) (by kernel_rfl) rfl, ?_⟩
  refine ⟨_, step_skip 2 6 true false (by kernel_rfl) (by kernel_rfl) (by kernel_rfl) (by kernel_rfl) rfl, ?_⟩
  refine ⟨_, step_skip 2 6 true false (by kernel_rfl) (by kernel_rfl) (by kernel_rfl) (by kernel_rfl) rfl, ?_⟩
  refine ⟨isVal (.bool false), step_pick (.tmp 6) (.tmp 11) (.const (.bool false)) false (by kernel_rfl) (wanted_none (by kernel_rfl)) (stable_val _) (knows_new (V := isVal (.bool false)) 6 2 (by kernel_rfl) (by kernel_rfl) (by kernel_rfl)) (knows_const _), ?_⟩
  refine ⟨isVal (.bool false), step_assign (.tmp 12) (by kernel_rfl) (wanted_none (by kernel_rfl)) (stable_val _) (knows_new (V := isVal (.bool false)) 12 8 (by kernel_rfl) (by kernel_rfl) (by kernel_rfl)), ?_⟩
  intro a w hkp hb hd
  rw [kept_of hkp [some 4, some 5, some 6, some 7, some 8, some 9, some 10, some 11, some 12, some 3] [4, 5, 6, 7, 8, 9, 10, 11, 12, 3] (by kernel_rfl) (by decide)]
  have d3 := fdone_of (hd 9 (by rw [show askOps.size = 10 by kernel_rfl]; decide)) (t := 3) (V := isVal (.bool false)) (by kernel_rfl) (by kernel_rfl)
  exact hQ (fun s => a.tmps.getD s undef) w d3 hb
set_option maxRecDepth 100000 in
set_option maxHeartbeats 1000000 in
theorem asked_any (m : Int) (k g : Nat) (w : World) (hk : k < 4) (HB : Blk w g [.int .i64 m]) : Calls Tryz.prog 39 #[.int .i64 (k : Int), .pointer (some ⟨g, 0, none⟩)] w fun e w' => e = .returned (.bool (askK m k)) ∧ Below w.heap.size w w' := by
  have kc := HB.cells.2 0 _ rfl
  have hz := HB.lt
  clear HB
  have hmx : Tryz.prog.follows .mixedOrders = true := mixed
  cases hm : maskB m with
  | false =>
    have HA := Kept.mk (show askK m k = false by unfold askK; rw [hm]; rfl)
    have HM := Kept.mk hm
    clear hm
    go_enter Tryz.func39, Tryz.ntmps39
    go_wp2_with fail
    refine ask_region _ _ w rfl k g m rfl rfl kc hz HM.out ?_
    intro f9 W9 d3 hb9
    simp only [List.foldl_cons, List.foldl_nil, d3]
    generalize f9 4 = y4
    generalize f9 5 = y5
    generalize f9 6 = y6
    generalize f9 7 = y7
    generalize f9 8 = y8
    generalize f9 9 = y9
    generalize f9 10 = y10
    generalize f9 11 = y11
    generalize f9 12 = y12
    clear d3
    simp only [List.setIfInBounds_toArray, List.set_cons_succ, List.set_cons_zero]
    go_wp2
    go_ret
    exact ⟨by rw [HA.out]; rfl, hb9⟩
  | true =>
    have HM := Kept.mk hm
    have h15 : 0 ≤ m ∧ m ≤ 15 := by unfold maskB at hm; simpa using hm
    obtain ⟨M, rfl⟩ : ∃ M : Nat, m = (M : Int) := ⟨m.toNat, by omega⟩
    have hp : 2 ^ k < 4294967296 := Nat.lt_of_lt_of_le (Nat.pow_lt_pow_right (by decide) hk) (by decide)
    have hand := and_i64 M (2 ^ k) (by omega) hp
    have HA := Kept.mk (show askK (M : Int) k = decide (M &&& 2 ^ k ≠ 0) by unfold askK; rw [hm]; rfl)
    clear hm h15 hp
    obtain ⟨z, hz0⟩ : ∃ z, M &&& 2 ^ k = z := ⟨_, rfl⟩
    rw [hz0] at hand HA
    obtain ⟨b, hb⟩ : ∃ b, decide (z ≠ 0) = b := ⟨_, rfl⟩
    have HBB := Kept.mk hb
    have HAND := Kept.mk hand
    clear hz0 hb hand
    go_enter Tryz.func39, Tryz.ntmps39
    go_wp2_with fail
    refine ask2_region _ _ w rfl k g z b M rfl rfl kc hz HM.out hk HAND.out HBB.out ?_
    intro f9 W9 d3 hb9
    simp only [List.foldl_cons, List.foldl_nil, d3]
    generalize f9 4 = y4
    generalize f9 5 = y5
    generalize f9 6 = y6
    generalize f9 7 = y7
    generalize f9 8 = y8
    generalize f9 9 = y9
    generalize f9 10 = y10
    generalize f9 11 = y11
    generalize f9 12 = y12
    clear d3
    simp only [List.setIfInBounds_toArray, List.set_cons_succ, List.set_cons_zero]
    go_wp2
    go_ret
    exact ⟨by rw [HA.out, HBB.out]; rfl, hb9⟩
end Go.Proofs.YtkjghoomdefbbaaGreatDoor
end
section
namespace Go.Proofs.YtkjghoomdefbbaaGreatDoor
open Go Go.RowKit Go.Shelf
set_option linter.unusedVariables false
set_option linter.unusedSimpArgs false
attribute [local irreducible] setN
attribute [local go_sem] Oper.semAt_some

theorem run_append_ens2 {N : Nat} {v : Value} {ps : RowE} {w : World} (h : OutV N v ps w) {u : Value} {ps2 : RowE} (hu : SrcE u ps2 w) (hr2 : RowsOk ps2 w) (hoff : ∀ q ∈ ps2, ∀ b, v.ownBlock = some b → OffQ b q) (hn : ps.length + ps2.length ≤ 1000) (hN : N ≤ w.heap.size) (ty : TypeId) :
    ∃ v' w', (Builtin.append_ #[22, 22] ty #[v, u]).run Tryz.prog w = .ok v' w' ∧ OutV N v' (ps ++ ps2) w' ∧ w.grownBy w' v.ownBlock ∧ (v'.ownBlock = v.ownBlock ∨ v'.ownBlock = some w.heap.size) := by
  obtain ⟨ie, hie, hz, hsz⟩ : ∃ ie, Tryz.prog.info? 48 = some ie ∧ ie.zero = some (.agg #[.string ⟨#[]⟩, .int .i64 0, .int .i64 0, .int .i64 0, .bool false, .string ⟨#[]⟩, .slice none 0 0, .slice none 0 0, .int .u64 0]) ∧ ie.size = 9 := by
    have := Tryz.infoEn
    obtain ⟨ie, h1, h2⟩ := Option.map_eq_some_iff.1 this
    simp only [Prod.mk.injEq] at h2
    exact ⟨ie, h1, h2.1, h2.2⟩
  have hbytes : ie.bytes ≤ 100000 := by
    have : (Tryz.prog.info? 48).all (fun i => decide (i.bytes ≤ 100000)) = true := by kernel_rfl
    rw [hie] at this
    simpa using this
  rcases hu with ⟨rfl, rfl⟩ | ⟨a, c, rfl, hcell⟩
  · refine ⟨v, w, run_append_owned_none (P := Tryz.prog) (w := w) N _ ty 48 ie 9 Tryz.underlying22 hie v _ _ h.own, ?_, ⟨rfl, rfl, rfl, Nat.le_refl _, fun _ _ _ => rfl⟩, .inl rfl⟩
    rw [List.append_nil]; exact h
  · obtain ⟨v', w', hrun, how, hgr, _, hob⟩ := run_append_own_at (P := Tryz.prog) (w := w) N 22 ty 48 ie (.agg #[.string ⟨#[]⟩, .int .i64 0, .int .i64 0, .int .i64 0, .bool false, .string ⟨#[]⟩, .slice none 0 0, .slice none 0 0, .int .u64 0]) 9 ie.bytes Tryz.underlying22 hie hz hsz rfl rfl (by decide) v ps.length (flatE ps) h.own a ps2.length c (flatE ps2) (flatE_length _) hcell (ones_flat hr2) (by unfold maxLen; omega) (by have : (ps.length + ps2.length) * ie.bytes ≤ 1000 * 100000 := Nat.mul_le_mul hn hbytes; omega) hN
    refine ⟨v', w', hrun, ⟨?_, fun q hq => ?_, fun q hq b hb => ?_⟩, hgr, hob⟩
    · rw [List.length_append]
      have e : flatE (ps ++ ps2) = flatE ps ++ flatE ps2 := by unfold flatE; simp
      rw [e]; exact how
    · have key : ∀ q, isCells (q.1.val.plus.map intC) q.2.1 w ∧ isCells (q.1.val.minus.map intC) q.2.2 w → (∀ b, v.ownBlock = some b → OffQ b q) → isCells (q.1.val.plus.map intC) q.2.1 w' ∧ isCells (q.1.val.minus.map intC) q.2.2 w' := by
        intro q hc ho
        refine ⟨hgr.cells hc.1 ?_, hgr.cells hc.2 ?_⟩
        · by_cases e : q.1.val.plus.map intC = []
          · exact .inl e
          · exact .inr (fun s hs => ((ho s hs).1.resolve_left e))
        · by_cases e : q.1.val.minus.map intC = []
          · exact .inl e
          · exact .inr (fun s hs => ((ho s hs).2.resolve_left e))
      rcases List.mem_append.1 hq with hq | hq
      · exact key q (h.rows q hq) (h.off q hq)
      · exact key q (hr2 q hq) (hoff q hq)
    · rcases hob with e | e
      · rw [e] at hb
        exact (List.mem_append.1 hq).elim (fun hq => h.off q hq b hb) (fun hq => hoff q hq b hb)
      · rw [e] at hb
        injection hb with hb
        subst hb
        exact (List.mem_append.1 hq).elim (fun hq => off_old h.rows (Nat.le_refl _) q hq) (fun hq => off_old hr2 (Nat.le_refl _) q hq)
theorem wpListIn_append_ens {F : Fence} {n : Nat} (hFn : ∀ f, F.fn f) {ops : Array Oper} {rest : List Oper} {o : Oper} {a : Act} {w : World} {Q : Exit → Act → World → Prop} (hgd : o.guard = none) (s x : Operand) (ho : o.op = .call { callee := .builtin .append, args := #[s, x], argTypes := #[22, 22] })
    (N : Nat) (v : Value) (ps : RowE) (hs : a.eval s = v) (h : OutV N v ps w) (u : Value) (ps2 : RowE) (hx : a.eval x = u) (hu : SrcE u ps2 w) (hr2 : RowsOk ps2 w) (hoff : ∀ q ∈ ps2, ∀ b, v.ownBlock = some b → OffQ b q) (hn : ps.length + ps2.length ≤ 1000) (hN : N ≤ w.heap.size)
    (hr : ∀ v' w', OutV N v' (ps ++ ps2) w' → w.grownBy w' v.ownBlock → (v'.ownBlock = v.ownBlock ∨ v'.ownBlock = some w.heap.size) → wpListIn F n Tryz.prog ops Q rest (a.put o.dst v') w') : wpListIn F n Tryz.prog ops Q (o :: rest) a w := by
  refine wpListIn_plain hgd fun K hK => ?_
  obtain ⟨v', w', hrun, h1, h2, h3⟩ := run_append_ens2 h hu hr2 hoff hn hN o.type
  unfold Oper.wpIn
  refine ⟨fun f _ => hFn f, ?_⟩
  rw [Oper.semAt_eq _ _ _ (by intro c e; rw [ho] at e; cases e)]
  unfold execOp
  rw [ho]
  simp only [resolve, Sem.run_bind, Sem.run_pure, Result.andThen_ok, invoke, builtin, List.map_toArray, List.map_cons, List.map_nil, hs, hx, hrun, Oper.uponIn]
  exact hK _ _ (hr v' w' h1 h2 h3)
theorem src_oneB (X : En) (xp xm : Value) (w : World) : SrcE (.slice (some ⟨w.heap.size, 0, none⟩) 1 1) [(X, xp, xm)] (w.alloc (.cells #[.string ⟨X.key.toArray⟩, .int .i64 X.val.kind, .int .i64 X.val.time, .int .i64 X.val.node, .bool X.val.dead, .string ⟨X.val.text.toArray⟩, xp, xm, .int .u64 (X.val.flags.toNat : Int)] 48)) := by
  refine .inr ⟨⟨w.heap.size, 0, none⟩, 1, rfl, fun j x hx => ?_⟩
  rw [add_at, Nat.zero_add, World.cell?_alloc_new]
  simpa [flatE, enL] using hx
theorem in_chunk (A : Ar) (mask most : Int) : inL mask most (chunkA A 0 8) = inA A mask most := by
  unfold chunkA inA
  rw [if_neg (by decide)]
  cases hok : okA A with
  | false => simp [inL]
  | true =>
    have h := okA_iff.1 hok
    have h1 := h.fits
    have h2 := h.room
    rw [if_pos rfl, if_pos rfl, show (0 : Int).toNat = 0 from rfl, List.drop_zero, List.take_of_length_le (by show A.slots.length ≤ 8; omega)]
structure IIn (mask most : Int) (w : World) (pre : List Elb) (W : World) : Prop where
  ex : ∃ v ps, OutS (w.heap.size + 6) (w.heap.size + 1 + 1 + 1 + 1) v ps W ∧ ps.map (·.1) = inL mask most (pre.map (·.1)) ∧ ∀ b, v.ownBlock = some b → ∃ y ∈ pre, y.2.2.2.2 ≤ b
  below : Below w.heap.size w W
  size : w.heap.size + 6 ≤ W.heap.size
  bm : Blk W (w.heap.size + 1) [.int .i64 mask]
  bp : Blk W (w.heap.size + 1 + 1) [.int .i64 most]
  bf : Blk W (w.heap.size + 1 + 1 + 1) [.func (.func 39) #[] #[.pointer (some ⟨w.heap.size + 1, 0, none⟩)]]
theorem iin_own (mask most : Int) (w : World) (B : Nat) (hB : w.heap.size + 6 ≤ B) : OwnFrom B (IIn mask most w) := by
  intro s W W' row ⟨⟨v, ps, h1, h3, h4⟩, h5, h6, h7, h8, h9⟩ hg hr
  exact ⟨⟨v, ps, out_own (B := B) (by omega) h1 hg hr, h3, h4⟩, h5.grown hg (by omega) (fun k e => by have := (hr k e).1; omega), Nat.le_trans h6 hg.size, blk_own (by simp) h7 hg hr, blk_own (by simp) h8 hg hr, blk_own (by simp) h9 hg hr⟩
theorem iin_keep {mask most : Int} {w : World} {pre : List Elb} {W W' : World} (h : IIn mask most w pre W) (hb : Below W.heap.size W W') : IIn mask most w pre W' := by
  obtain ⟨⟨v, ps, h1, h3, h4⟩, h5, h6, h7, h8, h9⟩ := h
  exact ⟨⟨v, ps, h1.keep hb, h3, h4⟩, h5.trans (hb.mono (by omega)), Nat.le_trans h6 hb.size, h7.keep hb, h8.keep hb, h9.keep hb⟩
/-- Where no more is told: the list stays. -/
theorem IIn.skip {mask most : Int} {w : World} {pre : List Elb} {x : Elb} {W : World} (h : IIn mask most w pre W) (hx : inL mask most (pre.map (·.1) ++ [x.1]) = inL mask most (pre.map (·.1))) : IIn mask most w (pre ++ [x]) W := by
  obtain ⟨⟨v, ps, h1, h3, h4⟩, h5, h6, h7, h8, h9⟩ := h
  exact ⟨⟨v, ps, h1, by rw [List.map_append]; exact h3.trans hx.symm, fun b hb => by obtain ⟨y, hy, hl⟩ := h4 b hb; exact ⟨y, List.mem_append_left _ hy, hl⟩⟩, h5, h6, h7, h8, h9⟩
def IxIn (mask most : Int) (w : World) (c : Code) (pre : List Elb) (W : World) : Prop := c = .exit 0 ∧ IIn mask most w pre W ∧ most ≤ ((inL mask most (pre.map (·.1))).length : Int)
structure AxIn (A : Ar) (mask most : Int) (vs vi : Value) (w : World) (x : Elb) (a' : Act) (W : World) (h : Nat) : Prop where
  act : a' = { tmps := #[.agg #[.int .i64 A.cap, vs, vi], .int .i64 mask, .int .i64 most, .pointer (some ⟨w.heap.size, 0, none⟩), .pointer (some ⟨w.heap.size + 1, 0, none⟩), .pointer (some ⟨w.heap.size + 1 + 1, 0, none⟩), .slice none 0 0, .pointer (some ⟨w.heap.size + 1 + 1 + 1, 0, none⟩), .pointer (some ⟨w.heap.size + 1 + 1 + 1 + 1, 0, none⟩), .int .i64 (bkE x.1 : Int), .pointer (some ⟨h, 0, none⟩), .func (.func 39) #[] #[.pointer (some ⟨w.heap.size + 1, 0, none⟩)], .agg #[.int .i64 A.cap, vs, vi], .func (.func 70) #[] #[.pointer (some ⟨w.heap.size + 1 + 1 + 1 + 1 + 1, 0, none⟩)], .int .i64 (bkE x.1 : Int), .agg #[.string ⟨x.1.key.toArray⟩, .int .i64 x.1.val.kind, .int .i64 x.1.val.time, .int .i64 x.1.val.node, .bool x.1.val.dead, .string ⟨x.1.val.text.toArray⟩, x.2.1, x.2.2.1, .int .u64 (x.1.val.flags.toNat : Int)], undef, undef, undef, undef, undef, undef, undef, undef, undef, undef, undef, undef], defers := [] }
  box : Blk W h [.string ⟨x.1.key.toArray⟩, .int .i64 x.1.val.kind, .int .i64 x.1.val.time, .int .i64 x.1.val.node, .bool x.1.val.dead, .string ⟨x.1.val.text.toArray⟩, x.2.1, x.2.2.1, .int .u64 (x.1.val.flags.toNat : Int)]
  rp : isCells (x.1.val.plus.map intC) x.2.1 W
  rm : isCells (x.1.val.minus.map intC) x.2.2.1 W
  up : x.1.val.plus.map intC = [] ∨ ∀ b, blk x.2.1 = some b → b < x.2.2.2.2
  um : x.1.val.minus.map intC = [] ∨ ∀ b, blk x.2.2.1 = some b → b < x.2.2.2.2
  np : NewB x.2.2.2.1 x.2.1
  nm : NewB x.2.2.2.1 x.2.2.1
  lo : w.heap.size + 6 ≤ x.2.2.2.1
  hi : x.2.2.2.2 ≤ W.heap.size
  row : ∀ u, W.cell? ⟨(w.heap.size + 1 + 1 + 1 + 1), 0, none⟩ = some u → ∀ b, u.ownBlock = some b → x.2.2.2.2 ≤ b
theorem axin_own (A : Ar) (mask most : Int) (vs vi : Value) (w : World) (x : Elb) (a' : Act) (B : Nat) (hB : w.heap.size + 6 ≤ B) : OwnFrom B (fun (_ : Unit) W => ∃ h, AxIn A mask most vs vi w x a' W h ∧ (w.heap.size + 1 + 1 + 1 + 1) < W.heap.size) := by
  rintro _ W W' row ⟨h, ⟨e, hb, hp, hm, h1, h2, n1, n2, h3, h4, h5⟩, h6⟩ hg hr
  exact ⟨h, ⟨e, blk_own (by simp) hb hg hr, cells_own hp hg hr, cells_own hm hg hr, h1, h2, n1, n2, h3, Nat.le_trans h4 hg.size, fun u hc => h5 u (by rw [← hc]; exact (World.cell?_of_block (a := ⟨(w.heap.size + 1 + 1 + 1 + 1), 0, none⟩) (iall_b1 (b := (w.heap.size + 1 + 1 + 1 + 1)) hg hr hb ⟨by omega, h6⟩)).symm)⟩, Nat.lt_of_lt_of_le h6 hg.size⟩
set_option maxRecDepth 100000 in
set_option maxHeartbeats 4000000 in
theorem in_any (A : Ar) (mask most : Int) (v : Value) (w : World) (hv : isAr A v w) (hF : FitA A) : Calls Tryz.prog 15 #[v, .int .i64 mask, .int .i64 most] w fun e W' => ∃ v', e = .returned v' ∧ isEns (inA A mask most) v' W' ∧ Below w.heap.size w W' := by
  obtain ⟨vs, vi, rfl, hs, hi⟩ := hv
  refine (callsIn_wide (n := 5)).1 ?_
  refine callsIn_of_wp_marks Tryz.func15 rfl trivial ?_ rfl
  simp only [Tryz.ntmps15, List.size_toArray, List.length_cons, List.length_nil, Nat.reduceAdd, Nat.reduceSub, Array.replicate_succ, Array.replicate_zero, List.push_toArray, List.append_toArray, List.nil_append, List.cons_append]
  gi_wp2_with (refine ⟨trivial, (callsIn_wide.2 (by_any A _ _ vs vi rfl)).mono ?_⟩; rintro e w' ⟨rfl, rfl⟩)
  have hB0 : Below w.heap.size w ((((((w.alloc (.cells #[.int .i64 A.cap, vs, vi] 25)).alloc (.cells #[.int .i64 mask] 3)).alloc (.cells #[.int .i64 most] 3)).alloc (.cells #[.func (.func 39) #[] #[.pointer (some ⟨w.heap.size + 1, 0, none⟩)]] 66)).alloc (.cells #[.slice none 0 0] 22)).alloc (.cells #[.int .i64 A.cap, vs, vi] 25)) := ((((((Below.refl _ w).alloc (Nat.le_refl _) _).alloc (by simp) _).alloc (by simp; omega) _).alloc (by simp; omega) _).alloc (by simp; omega) _).alloc (by simp; omega) _
  have hBx : Blk ((((((w.alloc (.cells #[.int .i64 A.cap, vs, vi] 25)).alloc (.cells #[.int .i64 mask] 3)).alloc (.cells #[.int .i64 most] 3)).alloc (.cells #[.func (.func 39) #[] #[.pointer (some ⟨w.heap.size + 1, 0, none⟩)]] 66)).alloc (.cells #[.slice none 0 0] 22)).alloc (.cells #[.int .i64 A.cap, vs, vi] 25)) (w.heap.size + 1 + 1 + 1 + 1 + 1) [.int .i64 A.cap, vs, vi] := (Blk.new (((((w.alloc (.cells #[.int .i64 A.cap, vs, vi] 25)).alloc (.cells #[.int .i64 mask] 3)).alloc (.cells #[.int .i64 most] 3)).alloc (.cells #[.func (.func 39) #[] #[.pointer (some ⟨w.heap.size + 1, 0, none⟩)]] 66)).alloc (.cells #[.slice none 0 0] 22)) 25 [.int .i64 A.cap, vs, vi] (w.heap.size + 1 + 1 + 1 + 1 + 1) (by simp))
  have hI0 : IIn mask most w [] ((((((w.alloc (.cells #[.int .i64 A.cap, vs, vi] 25)).alloc (.cells #[.int .i64 mask] 3)).alloc (.cells #[.int .i64 most] 3)).alloc (.cells #[.func (.func 39) #[] #[.pointer (some ⟨w.heap.size + 1, 0, none⟩)]] 66)).alloc (.cells #[.slice none 0 0] 22)).alloc (.cells #[.int .i64 A.cap, vs, vi] 25)) := ⟨⟨.slice none 0 0, [], ⟨((Blk.new ((((w.alloc (.cells #[.int .i64 A.cap, vs, vi] 25)).alloc (.cells #[.int .i64 mask] 3)).alloc (.cells #[.int .i64 most] 3)).alloc (.cells #[.func (.func 39) #[] #[.pointer (some ⟨w.heap.size + 1, 0, none⟩)]] 66)) 22 [.slice none 0 0] (w.heap.size + 1 + 1 + 1 + 1) (by simp)).alloc _), World.ownsRow_nil _ _ _ _, (fun q hq => by cases hq), (fun q hq => by cases hq), (fun q hq => by cases hq)⟩, by rw [List.map_nil, List.map_nil, inL_nil], fun b hb => by cases hb⟩, hB0, by simp, (((((Blk.new (w.alloc (.cells #[.int .i64 A.cap, vs, vi] 25)) 3 [.int .i64 mask] (w.heap.size + 1) (by simp)).alloc _).alloc _).alloc _).alloc _), ((((Blk.new ((w.alloc (.cells #[.int .i64 A.cap, vs, vi] 25)).alloc (.cells #[.int .i64 mask] 3)) 3 [.int .i64 most] (w.heap.size + 1 + 1) (by simp)).alloc _).alloc _).alloc _), (((Blk.new (((w.alloc (.cells #[.int .i64 A.cap, vs, vi] 25)).alloc (.cells #[.int .i64 mask] 3)).alloc (.cells #[.int .i64 most] 3)) 66 [.func (.func 39) #[] #[.pointer (some ⟨w.heap.size + 1, 0, none⟩)]] (w.heap.size + 1 + 1 + 1) (by simp)).alloc _).alloc _)⟩
  have hsz : ((((((w.alloc (.cells #[.int .i64 A.cap, vs, vi] 25)).alloc (.cells #[.int .i64 mask] 3)).alloc (.cells #[.int .i64 most] 3)).alloc (.cells #[.func (.func 39) #[] #[.pointer (some ⟨w.heap.size + 1, 0, none⟩)]] 66)).alloc (.cells #[.slice none 0 0] 22)).alloc (.cells #[.int .i64 A.cap, vs, vi] 25)).heap.size = w.heap.size + 6 := by simp
  have hs0 := stable_ens _ _ _ _ hs hB0
  have hi0 := stable_cells _ _ _ _ hi hB0
  have hseq := by1_in 4 (by omega) (w.heap.size + 1 + 1 + 1 + 1 + 1) A vs vi ((((((w.alloc (.cells #[.int .i64 A.cap, vs, vi] 25)).alloc (.cells #[.int .i64 mask] 3)).alloc (.cells #[.int .i64 most] 3)).alloc (.cells #[.func (.func 39) #[] #[.pointer (some ⟨w.heap.size + 1, 0, none⟩)]] 66)).alloc (.cells #[.slice none 0 0] 22)).alloc (.cells #[.int .i64 A.cap, vs, vi] 25)) hBx hs0 hi0 hF
  have HLO := Kept.mk (show ∀ e ∈ chunkA A 0 8, okE e = true from fun e he => chunk_ok he)
  try simp only [World.size_alloc] at hseq
  try simp only [World.size_alloc]
  generalize ((((((w.alloc (.cells #[.int .i64 A.cap, vs, vi] 25)).alloc (.cells #[.int .i64 mask] 3)).alloc (.cells #[.int .i64 most] 3)).alloc (.cells #[.func (.func 39) #[] #[.pointer (some ⟨w.heap.size + 1, 0, none⟩)]] 66)).alloc (.cells #[.slice none 0 0] 22)).alloc (.cells #[.int .i64 A.cap, vs, vi] 25)) = W0 at *
  refine range_made rfl (by decide) (gf := 70) (lb := #[.pointer (some ⟨w.heap.size + 1 + 1 + 1 + 1 + 1, 0, none⟩)]) rfl trivial (enters_of Tryz.func70 (by kernel_rfl) rfl)
    hseq kpB_t (fun x W l o o' h1 h2 h3 h4 => kpB_put x W l o o' h1 h2 h3 h4) (Below.refl _ _) (fun _ => rfl)
    (IIn mask most w) (IxIn mask most w) (iin_own mask most w _ (by omega)) (fun c s W W' row hs hg hr => ⟨hs.1, iin_own mask most w _ (by omega) s W W' row hs.2.1 hg hr, hs.2.2⟩) hI0 (fun x a' W => ∃ h, AxIn A mask most vs vi w x a' W h ∧ (w.heap.size + 1 + 1 + 1 + 1) < W.heap.size) (fun x a' => axin_own A mask most vs vi w x a' _ (by omega)) ?assign ?body ?done ?stop
  case assign =>
    intro l pre x W K hIp hpx hK
    obtain ⟨K1, K2, K3, K4, K5⟩ := enew W x.1 x.2.1 x.2.2.1 hpx.rp hpx.rm W.heap.size rfl
    have HH := Kept.mk ((Blk.new W 48 [.string ⟨#[]⟩, .int .i64 0, .int .i64 0, .int .i64 0, .bool false, .string ⟨#[]⟩, .slice none 0 0, .slice none 0 0, .int .u64 0] W.heap.size rfl).all_ (l := [.string ⟨x.1.key.toArray⟩, .int .i64 x.1.val.kind, .int .i64 x.1.val.time, .int .i64 x.1.val.node, .bool x.1.val.dead, .string ⟨x.1.val.text.toArray⟩, x.2.1, x.2.2.1, .int .u64 (x.1.val.flags.toNat : Int)]) rfl)
    obtain ⟨⟨v0, ps0, hOS0, hpm0, hvo0⟩, hb0, hN0, _, _, _⟩ := id hIp
    have hO0 := hOS0.st
    have hun : ∀ u, (setN (W.alloc (.cells #[.string ⟨#[]⟩, .int .i64 0, .int .i64 0, .int .i64 0, .bool false, .string ⟨#[]⟩, .slice none 0 0, .slice none 0 0, .int .u64 0] 48)) W.heap.size 0 [.string ⟨x.1.key.toArray⟩, .int .i64 x.1.val.kind, .int .i64 x.1.val.time, .int .i64 x.1.val.node, .bool x.1.val.dead, .string ⟨x.1.val.text.toArray⟩, x.2.1, x.2.2.1, .int .u64 (x.1.val.flags.toNat : Int)]).cell? ⟨(w.heap.size + 1 + 1 + 1 + 1), 0, none⟩ = some u → ∀ b, u.ownBlock = some b → x.2.2.2.2 ≤ b := fun u hc b hb => by
      have h1 := (K3.out.cell (p := ⟨(w.heap.size + 1 + 1 + 1 + 1), 0, none⟩) hO0.lt).symm.trans hc
      rw [hO0.cells.2 0 _ rfl] at h1
      injection h1 with h1
      subst h1
      obtain ⟨y, hy, hle⟩ := hvo0 b hb
      have := hpx.one y hy
      rw [this] at hle
      exact hle
    have hK2 := hK _ _ (keeps_below K3.out) (kpB_below K3.out) (iin_keep hIp K3.out) ⟨W.heap.size, ⟨rfl, HH.out, stable_cells _ _ _ _ hpx.rp K3.out, stable_cells _ _ _ _ hpx.rm K3.out, hpx.up, hpx.um, hpx.np, hpx.nm, by have := hpx.lo; omega, Nat.le_trans hpx.hi K3.out.size, hun⟩, Nat.lt_of_lt_of_le hO0.lt K3.out.size⟩
    have HK := Kept.mk hK2
    clear hK2 hK hpx hun hO0 hOS0 hpm0 hvo0
    simp only [encBk]
    gi_wp2_with (have hz0 := K1; refine wpListIn_storeN (fun _ => trivial) 48 rfl (.tmp 10) (.tmp 15) rfl W.heap.size [.string ⟨x.1.key.toArray⟩, .int .i64 x.1.val.kind, .int .i64 x.1.val.time, .int .i64 x.1.val.node, .bool x.1.val.dead, .string ⟨x.1.val.text.toArray⟩, x.2.1, x.2.2.1, .int .u64 (x.1.val.flags.toNat : Int)] size_en rfl rfl K1.out rfl K2.out K5.out ?_; clear hz0 K1 K2 K5)
    exact HK.out
  case body =>
    rintro l pre x a' W hl hIp ⟨h, ⟨rfl, hbl, hp, hm, hup, hum, hnp, hnm, hlo, hhi, hrow⟩, h4lt⟩ hlt
    have HI := Kept.mk hIp
    obtain ⟨⟨v, ps, hOS, hpm, hvo⟩, hb0, hN0, hbm, hbp, hbf⟩ := hIp
    have hO := hOS.st
    have hOV : OutV (w.heap.size + 6) v ps W := ⟨hOS.own, hOS.rows, hOS.off⟩
    have HNW := Kept.mk hOS.nw
    have HVO := Kept.mk hvo
    clear hOS hvo
    have kv := hO.cells.2 0 _ rfl
    have kp := hbp.cells.2 0 _ rfl
    have kf := hbf.cells.2 0 _ rfl
    have HOW := Kept.mk (hrow v kv)
    obtain ⟨va, vc, rfl⟩ := hOV.len
    have hpl : ps.length ≤ 999 := by
      have h1 := congrArg List.length hpm
      rw [List.length_map] at h1
      rw [h1]
      unfold inL
      rw [List.length_take]
      have h2 := List.length_filter_le (askB mask) (pre.map (·.1))
      rw [List.length_map] at h2
      omega
    have HPM := Kept.mk hpm
    have HPL := Kept.mk (show (ps.length : Int) = ((inL mask most (pre.map (·.1))).length : Int) by rw [← hpm, List.length_map])
    have HO := Kept.mk hO
    have HOV := Kept.mk hOV
    have HBM := Kept.mk hbm
    have hk4 : bkE x.1 < 4 := bucketN_lt _ _
    have ke0 := hbl.cells.2 0 _ rfl
    have ke1 := hbl.cells.2 1 _ rfl
    have ke2 := hbl.cells.2 2 _ rfl
    have ke3 := hbl.cells.2 3 _ rfl
    have ke4 := hbl.cells.2 4 _ rfl
    have ke5 := hbl.cells.2 5 _ rfl
    have ke6 := hbl.cells.2 6 _ rfl
    have ke7 := hbl.cells.2 7 _ rfl
    have ke8 := hbl.cells.2 8 _ rfl
    have HBL := Kept.mk hbl
    have HRR := Kept.mk (And.intro hp hm)
    have HUU := Kept.mk (And.intro hup hum)
    have HNN := Kept.mk (And.intro hnp hnm)
    clear hO hOV hpm hbm hbp hbf hrow hbl hp hm hup hum hnp hnm
    generalize hn : ps.length = n at *
    have HNL := Kept.mk hn
    clear hn
    by_cases hge : most ≤ (n : Int)
    · have hpost : KeepsFrom W0.heap.size W W ∧ IxIn mask most w (.exit 0) (pre ++ [x]) W := by
        have hx : inL mask most (pre.map (·.1) ++ [x.1]) = inL mask most (pre.map (·.1)) := inL_full _ _ _ _ (by rw [← HPL.out]; exact hge)
        refine ⟨⟨Nat.le_refl _, fun k o _ hk _ => hk⟩, rfl, HI.out.skip hx, ?_⟩
        rw [List.map_append]
        show most ≤ ((inL mask most (pre.map (·.1) ++ [x.1])).length : Int)
        rw [hx, ← HPL.out]; exact hge
      have HPO := Kept.mk hpost
      clear hpost
      gi_wp2
      exact HPO.out
    · have hge2 : ¬ most ≤ (n : Int) := hge
      gi_wp2_with fail
      refine ⟨trivial, (CallsIn.inRound l (callsIn_wide.2 (asked_any mask (bkE x.1) (w.heap.size + 1) W hk4 HBM.out))).mono ?_⟩
      rintro e W1 ⟨rfl, hb⟩
      cases hz : askK mask (bkE x.1) with
      | false =>
        have hx : inL mask most (pre.map (·.1) ++ [x.1]) = inL mask most (pre.map (·.1)) := by
          rw [inL_snoc]
          unfold inStep
          rw [if_neg (by rintro ⟨_, h⟩; rw [askB_eq, hz] at h; cases h)]
        have hpost : KeepsFrom W0.heap.size W W1 ∧ KpB x W W1 ∧ IIn mask most w (pre ++ [x]) W1 := ⟨keeps_below hb, kpB_below hb, iin_keep (HI.out.skip hx) hb⟩
        have HPO := Kept.mk hpost
        clear hpost
        gi_wp2
        exact HPO.out
      | true =>
        have hx : inL mask most (pre.map (·.1) ++ [x.1]) = inL mask most (pre.map (·.1)) ++ [x.1] := by
          rw [inL_snoc]
          unfold inStep
          rw [if_pos ⟨by rw [← HPL.out]; omega, by rw [askB_eq, hz]⟩]
        have HX := Kept.mk hx
        have HB := Kept.mk hb
        have kv1 := (hb.cell (p := ⟨(w.heap.size + 1 + 1 + 1 + 1), 0, none⟩) HO.out.lt).trans kv
        have kq0 := (hb.cell (p := ⟨h, 0, none⟩) HBL.out.lt).trans ke0
        have kq1 := (hb.cell (p := ⟨h, 1, none⟩) HBL.out.lt).trans ke1
        have kq2 := (hb.cell (p := ⟨h, 2, none⟩) HBL.out.lt).trans ke2
        have kq3 := (hb.cell (p := ⟨h, 3, none⟩) HBL.out.lt).trans ke3
        have kq4 := (hb.cell (p := ⟨h, 4, none⟩) HBL.out.lt).trans ke4
        have kq5 := (hb.cell (p := ⟨h, 5, none⟩) HBL.out.lt).trans ke5
        have kq6 := (hb.cell (p := ⟨h, 6, none⟩) HBL.out.lt).trans ke6
        have kq7 := (hb.cell (p := ⟨h, 7, none⟩) HBL.out.lt).trans ke7
        have kq8 := (hb.cell (p := ⟨h, 8, none⟩) HBL.out.lt).trans ke8
        have hlit := lit_below W1 (.cells #[.string ⟨x.1.key.toArray⟩, .int .i64 x.1.val.kind, .int .i64 x.1.val.time, .int .i64 x.1.val.node, .bool x.1.val.dead, .string ⟨x.1.val.text.toArray⟩, x.2.1, x.2.2.1, .int .u64 (x.1.val.flags.toNat : Int)] 48)
        have SRC := Kept.mk (src_oneB x.1 x.2.1 x.2.2.1 W1)
        have OV1 := Kept.mk ((HOV.out.keep hb).keep hlit)
        have ROW := Kept.mk (show RowsOk [(x.1, x.2.1, x.2.2.1)] (W1.alloc (.cells #[.string ⟨x.1.key.toArray⟩, .int .i64 x.1.val.kind, .int .i64 x.1.val.time, .int .i64 x.1.val.node, .bool x.1.val.dead, .string ⟨x.1.val.text.toArray⟩, x.2.1, x.2.2.1, .int .u64 (x.1.val.flags.toNat : Int)] 48)) from fun q hq => by rw [List.mem_singleton] at hq; subst hq; exact ⟨stable_cells _ _ _ _ (stable_cells _ _ _ _ HRR.out.1 hb) hlit, stable_cells _ _ _ _ (stable_cells _ _ _ _ HRR.out.2 hb) hlit⟩)
        have HOF := Kept.mk (show ∀ q ∈ [(x.1, x.2.1, x.2.2.1)], ∀ b, (Value.slice va n vc).ownBlock = some b → OffQ b q from fun q hq b hbo => by
          rw [List.mem_singleton] at hq
          subst hq
          have h1 := HOW.out b hbo
          exact ⟨HUU.out.1.imp id (fun h2 e => by have := h2 b e; omega), HUU.out.2.imp id (fun h2 e => by have := h2 b e; omega)⟩)
        have HPK := Kept.mk (show ps.length + [(x.1, x.2.1, x.2.2.1)].length ≤ 1000 by rw [HNL.out]; show n + 1 ≤ 1000; omega)
        have BZ := Kept.mk (show w.heap.size + 6 ≤ (W1.alloc (.cells #[.string ⟨x.1.key.toArray⟩, .int .i64 x.1.val.kind, .int .i64 x.1.val.time, .int .i64 x.1.val.node, .bool x.1.val.dead, .string ⟨x.1.val.text.toArray⟩, x.2.1, x.2.2.1, .int .u64 (x.1.val.flags.toNat : Int)] 48)).heap.size by have h1 := hb.size; have h2 := hlit.size; omega)
        have HFIN := Kept.mk (show ∀ v2 W2, OutV (w.heap.size + 6) v2 (ps ++ [(x.1, x.2.1, x.2.2.1)]) W2 → (W1.alloc (.cells #[.string ⟨x.1.key.toArray⟩, .int .i64 x.1.val.kind, .int .i64 x.1.val.time, .int .i64 x.1.val.node, .bool x.1.val.dead, .string ⟨x.1.val.text.toArray⟩, x.2.1, x.2.2.1, .int .u64 (x.1.val.flags.toNat : Int)] 48)).grownBy W2 (Value.slice va n vc).ownBlock → (v2.ownBlock = (Value.slice va n vc).ownBlock ∨ v2.ownBlock = some (W1.alloc (.cells #[.string ⟨x.1.key.toArray⟩, .int .i64 x.1.val.kind, .int .i64 x.1.val.time, .int .i64 x.1.val.node, .bool x.1.val.dead, .string ⟨x.1.val.text.toArray⟩, x.2.1, x.2.2.1, .int .u64 (x.1.val.flags.toNat : Int)] 48)).heap.size) →
            Blk W2 (w.heap.size + 1 + 1 + 1 + 1) [.slice va n vc] ∧ KeepsFrom W0.heap.size W (W2.setCell ⟨(w.heap.size + 1 + 1 + 1 + 1), 0, none⟩ v2) ∧ KpB x W (W2.setCell ⟨(w.heap.size + 1 + 1 + 1 + 1), 0, none⟩ v2) ∧ IIn mask most w (pre ++ [x]) (W2.setCell ⟨(w.heap.size + 1 + 1 + 1 + 1), 0, none⟩ v2) by
          intro v2 W2 ho2 hg2 hob2
          have bt2 : Bt (fun b => (Value.slice va n vc).ownBlock = some b) W W2 := ((Bt.grow hb).trans (Bt.grow hlit)).trans (gb_bt hg2 (fun b e => e))
          have hown6 : ∀ b, (Value.slice va n vc).ownBlock = some b → w.heap.size + 6 ≤ b := fun b e => (HOV.out.own.lt b e).1
          have hB2 : Blk W2 (w.heap.size + 1 + 1 + 1 + 1) [.slice va n vc] := bt2.blk HO.out (fun e => by have := hown6 _ e; omega)
          have bt3 := bt_set (S := fun b => b = (w.heap.size + 1 + 1 + 1 + 1)) (w.heap.size + 1 + 1 + 1 + 1) 0 v2 W2 rfl
          have bt4 : Bt (fun b => b = (w.heap.size + 1 + 1 + 1 + 1) ∨ (Value.slice va n vc).ownBlock = some b) W (W2.setCell ⟨(w.heap.size + 1 + 1 + 1 + 1), 0, none⟩ v2) := (bt2.weak (fun b e => .inr e)).trans (bt3.weak (fun b e => .inl e))
          have hlt6 : W0.heap.size = w.heap.size + 6 := hsz
          refine ⟨hB2, ⟨bt4.size, fun k o hBk hk ho => (bt4.block k (Array.getElem?_eq_some_iff.1 hk).1 ?_).trans hk⟩, kpB_blk bt4.size (fun b g1 g2 g3 => bt4.block b g3 ?_), ⟨⟨v2, _, ⟨?_, ?_, ?_, ho2.off, ?_⟩, ?_, ?_⟩, ?_, ?_, ?_, ?_, ?_⟩⟩
          · rintro (e | e)
            · omega
            · obtain ⟨_, ⟨e2, _⟩ | ⟨g, cap, cur, e2, _, hg', _⟩⟩ := HOV.out.own
              · rw [e2] at e; cases e
              · rw [e2] at e
                injection e with e
                have : g = k := e
                subst this
                rw [hg'] at hk
                injection hk with hk
                subst hk
                cases ho
          · rintro (e | e)
            · omega
            · have := HOW.out b e; omega
          · exact hB2.set 0 v2 (Nat.zero_lt_one)
          · exact bt3.own ho2.own (fun b hb2 e => by have := (ho2.own.lt b hb2).1; omega)
          · intro q hq
            have nn : NewB (w.heap.size + 6) q.2.1 ∧ NewB (w.heap.size + 6) q.2.2 := by
              rcases List.mem_append.1 hq with hq | hq
              · exact HNW.out q hq
              · rw [List.mem_singleton] at hq; subst hq
                exact ⟨HNN.out.1.low hlo, HNN.out.2.low hlo⟩
            exact ⟨bt3.cells (ho2.rows q hq).1 (.inr (fun b e1 e2 => by have := nn.1 b e1; omega)), bt3.cells (ho2.rows q hq).2 (.inr (fun b e1 e2 => by have := nn.2 b e1; omega))⟩
          · intro q hq
            rcases List.mem_append.1 hq with hq | hq
            · exact HNW.out q hq
            · rw [List.mem_singleton] at hq; subst hq
              exact ⟨HNN.out.1.low hlo, HNN.out.2.low hlo⟩
          · rw [List.map_append, List.map_append, HPM.out]
            exact HX.out.symm
          · intro b hb2
            rcases hob2 with e | e
            · rw [e] at hb2
              obtain ⟨y, hy, hl2⟩ := HVO.out b hb2
              exact ⟨y, List.mem_append_left _ hy, hl2⟩
            · rw [e] at hb2
              injection hb2 with hb2
              exact ⟨x, List.mem_append_right _ (List.mem_singleton.2 rfl), by have h1 := hb.size; have h2 := hlit.size; omega⟩
          · exact hb0.trans (bt4.below (fun b e => by rcases e with e | e; (· omega); (· have := hown6 b e; omega)) (by omega))
          · exact Nat.le_trans hN0 bt4.size
          · exact bt4.blk HI.out.bm (fun e => by rcases e with e | e; (· omega); (· have := hown6 _ e; omega))
          · exact bt4.blk HI.out.bp (fun e => by rcases e with e | e; (· omega); (· have := hown6 _ e; omega))
          · exact bt4.blk HI.out.bf (fun e => by rcases e with e | e; (· omega); (· have := hown6 _ e; omega)))
        clear hb hlit
        gi_wp2_with (have hz0 := SRC; refine wpListIn_append_ens (fun _ => trivial) rfl (.tmp 23) (.tmp 25) rfl (w.heap.size + 6) (.slice va n vc) ps rfl OV1.out _ [(x.1, x.2.1, x.2.2.1)] rfl SRC.out ROW.out HOF.out HPK.out BZ.out ?_; clear hz0 SRC; intro v2 W2 ho2 hg2 hob2; have HF := Kept.mk (HFIN.out v2 W2 ho2 hg2 hob2); obtain ⟨va2, vc2, e2⟩ := ho2.len; rw [List.length_append, HNL.out] at e2; subst e2; have kz := HF.out.1.cells.2 0 _ rfl; have kzf := HF.out.1.free 0; clear ho2 hg2 hob2 kv1 kv)
        exact HF.out.2
  case done =>
    rintro D ys W hD hys hIp hK
    have hl : inL mask most (ys.map (·.1)) = inA A mask most := by
      have hys2 : ys.map (·.1) = chunkA A 0 8 := hys
      rw [hys2]; exact in_chunk A mask most
    obtain ⟨⟨v, ps, hOS, hpm, hvo⟩, hb0, hN0, hbm, hbp, hbf⟩ := hIp
    have kv := hOS.st.cells.2 0 _ rfl
    have hen := Kept.mk (show isEns (inA A mask most) v (W.putObj D (.deferred none)) by
      have h2 := (out_own (B := W0.heap.size) (by omega) hOS (grownBy_putObj' W D (.deferred none)) (fun r e => by cases e; exact ⟨hD, _, hK, rfl⟩)).ens
      rw [hpm, hl] at h2
      exact h2)
    have hbl := Kept.mk (hb0.trans (belowK_b (w := w) (Nat.le_refl _) W D _ (.deferred none) (by omega) hK rfl rfl))
    clear hl hpm hvo hbm hbp hbf
    gi_wp2
    refine ⟨by simp, .inl ⟨_, _, rfl, run_takeDeferred hK, ?_⟩⟩
    exact ⟨_, results_tmp rfl _ _ _, v, rfl, hen.out, hbl.out⟩
  case stop =>
    rintro D c pre W hD hsp ⟨rfl, hIp, hle⟩ hK
    have hl : inL mask most (pre.map (·.1)) = inA A mask most := by
      obtain ⟨k, hk⟩ := hsp
      rw [← in_chunk A mask most, ← List.take_append_drop k (chunkA A 0 8), ← hk]
      exact (inL_full _ _ _ _ hle).symm
    obtain ⟨⟨v, ps, hOS, hpm, hvo⟩, hb0, hN0, hbm, hbp, hbf⟩ := hIp
    have kv := hOS.st.cells.2 0 _ rfl
    have hen := Kept.mk (show isEns (inA A mask most) v (W.putObj D (.deferred none)) by
      have h2 := (out_own (B := W0.heap.size) (by omega) hOS (grownBy_putObj' W D (.deferred none)) (fun r e => by cases e; exact ⟨hD, _, hK, rfl⟩)).ens
      rw [hpm, hl] at h2
      exact h2)
    have hbl := Kept.mk (hb0.trans (belowK_b (w := w) (Nat.le_refl _) W D _ (.deferred none) (by omega) hK rfl rfl))
    clear hl hpm hvo hbm hbp hbf
    gi_wp2
    refine ⟨by simp, .inl ⟨_, _, rfl, run_takeDeferred hK, ?_⟩⟩
    exact ⟨_, results_tmp rfl _ _ _, v, rfl, hen.out, hbl.out⟩
end Go.Proofs.YtkjghoomdefbbaaGreatDoor
end
section
namespace Go.Proofs.YtkjghoomdefbbaaGreatDoor
open Go.RowKit
set_option linter.unusedVariables false
set_option linter.unusedSimpArgs false

theorem eql_i4 {P : Program} (t e : TypeId) (x0 x1 x2 x3 y0 y1 y2 y3 : Int) (b : Bool) (hu : P.underlying t = some (.array 4 e)) (he : P.underlying e = some (.int .i64)) (hi : (P.info? e).map (·.size) = some 1)
    (hb : (x0 == y0 && x1 == y1 && x2 == y2 && x3 == y3) = b) (w : World) :
    (binOp .eql t (.agg #[.int .i64 x0, .int .i64 x1, .int .i64 x2, .int .i64 x3]) (.agg #[.int .i64 y0, .int .i64 y1, .int .i64 y2, .int .i64 y3])).run P w = .ok (.bool b) w := by
  obtain ⟨ie, hie, hz⟩ := Option.map_eq_some_iff.1 hi
  have hc : P.cellsOf e = 1 := by simp [Program.cellsOf, hie, hz]
  rw [run_eql_struct, show (10000 : Nat) = 9999 + 1 from rfl, run_equalIn_array w 9999 _ _ hu hie, hc]
  have hsz : ∀ w, (sizeOf e).run P w = .ok 1 w := fun w => by simp [sizeOf, typeInfo, hie, hz]
  rw [show List.range 4 = [0, 1, 2, 3] from rfl, ← hb]
  have hp : ∀ (xs : Array Value) (off : Nat) (v : Value) (w : World), xs[off]? = some v → (part e xs off).run P w = .ok v w := fun xs off v w hx => by simp [part, isAgg, run_underlying he, hx]
  have heq : ∀ (x y : Int) (w : World), (Op.equalIn 9999 e (.int .i64 x) (.int .i64 y)).run P w = .ok (x == y) w := fun x y w => run_equalIn_int w 9998 e .i64 .i64 x y he
  simp only [Op.eqItems, Sem.run_bind, Nat.zero_mul, Nat.mul_one]
  rw [hp _ 0 (.int .i64 x0) w rfl]
  simp only [Result.andThen_ok]
  rw [hp _ 0 (.int .i64 y0) w rfl]
  simp only [Result.andThen_ok]
  rw [heq x0 y0]
  cases h0 : x0 == y0 with
  | false => simp
  | true =>
    simp only [Result.andThen_ok, Bool.not_true, Bool.false_eq_true, if_false, Sem.run_pure, Sem.run_bind]
    rw [hp _ 1 (.int .i64 x1) w rfl]
    simp only [Result.andThen_ok]
    rw [hp _ 1 (.int .i64 y1) w rfl]
    simp only [Result.andThen_ok]
    rw [heq x1 y1]
    cases h1 : x1 == y1 with
    | false => simp
    | true =>
      simp only [Result.andThen_ok, Bool.not_true, Bool.false_eq_true, if_false, Sem.run_pure, Sem.run_bind]
      rw [hp _ 2 (.int .i64 x2) w rfl]
      simp only [Result.andThen_ok]
      rw [hp _ 2 (.int .i64 y2) w rfl]
      simp only [Result.andThen_ok]
      rw [heq x2 y2]
      cases h2 : x2 == y2 with
      | false => simp
      | true =>
        simp only [Result.andThen_ok, Bool.not_true, Bool.false_eq_true, if_false, Sem.run_pure, Sem.run_bind]
        rw [hp _ 3 (.int .i64 x3) w rfl]
        simp only [Result.andThen_ok]
        rw [hp _ 3 (.int .i64 y3) w rfl]
        simp only [Result.andThen_ok]
        rw [heq x3 y3]
        cases h3 : x3 == y3 with
        | false => simp
        | true => simp
theorem neq_i4 {P : Program} (t e : TypeId) (x0 x1 x2 x3 y0 y1 y2 y3 : Int) (b : Bool) (hu : P.underlying t = some (.array 4 e)) (he : P.underlying e = some (.int .i64)) (hi : (P.info? e).map (·.size) = some 1)
    (hb : (x0 == y0 && x1 == y1 && x2 == y2 && x3 == y3) = b) (w : World) :
    (binOp .neq t (.agg #[.int .i64 x0, .int .i64 x1, .int .i64 x2, .int .i64 x3]) (.agg #[.int .i64 y0, .int .i64 y1, .int .i64 y2, .int .i64 y3])).run P w = .ok (.bool (!b)) w := by
  obtain ⟨ie, hie, hz⟩ := Option.map_eq_some_iff.1 hi
  have hc : P.cellsOf e = 1 := by simp [Program.cellsOf, hie, hz]
  rw [run_neq_struct, show (10000 : Nat) = 9999 + 1 from rfl, run_equalIn_array w 9999 _ _ hu hie, hc]
  have hsz : ∀ w, (sizeOf e).run P w = .ok 1 w := fun w => by simp [sizeOf, typeInfo, hie, hz]
  rw [show List.range 4 = [0, 1, 2, 3] from rfl, ← hb]
  have hp : ∀ (xs : Array Value) (off : Nat) (v : Value) (w : World), xs[off]? = some v → (part e xs off).run P w = .ok v w := fun xs off v w hx => by simp [part, isAgg, run_underlying he, hx]
  have heq : ∀ (x y : Int) (w : World), (Op.equalIn 9999 e (.int .i64 x) (.int .i64 y)).run P w = .ok (x == y) w := fun x y w => run_equalIn_int w 9998 e .i64 .i64 x y he
  simp only [Op.eqItems, Sem.run_bind, Nat.zero_mul, Nat.mul_one]
  rw [hp _ 0 (.int .i64 x0) w rfl]
  simp only [Result.andThen_ok]
  rw [hp _ 0 (.int .i64 y0) w rfl]
  simp only [Result.andThen_ok]
  rw [heq x0 y0]
  cases h0 : x0 == y0 with
  | false => simp
  | true =>
    simp only [Result.andThen_ok, Bool.not_true, Bool.false_eq_true, if_false, Sem.run_pure, Sem.run_bind]
    rw [hp _ 1 (.int .i64 x1) w rfl]
    simp only [Result.andThen_ok]
    rw [hp _ 1 (.int .i64 y1) w rfl]
    simp only [Result.andThen_ok]
    rw [heq x1 y1]
    cases h1 : x1 == y1 with
    | false => simp
    | true =>
      simp only [Result.andThen_ok, Bool.not_true, Bool.false_eq_true, if_false, Sem.run_pure, Sem.run_bind]
      rw [hp _ 2 (.int .i64 x2) w rfl]
      simp only [Result.andThen_ok]
      rw [hp _ 2 (.int .i64 y2) w rfl]
      simp only [Result.andThen_ok]
      rw [heq x2 y2]
      cases h2 : x2 == y2 with
      | false => simp
      | true =>
        simp only [Result.andThen_ok, Bool.not_true, Bool.false_eq_true, if_false, Sem.run_pure, Sem.run_bind]
        rw [hp _ 3 (.int .i64 x3) w rfl]
        simp only [Result.andThen_ok]
        rw [hp _ 3 (.int .i64 y3) w rfl]
        simp only [Result.andThen_ok]
        rw [heq x3 y3]
        cases h3 : x3 == y3 with
        | false => simp
        | true => simp

attribute [local irreducible] setN
def d1 (x y : Int) (p : Nat) : Nat := if x = y then 0 else p
/-- The mask behind k rounds. -/
def dmk (a b c d e f g h : Int) : Nat → Nat
  | 0 => 0
  | 1 => d1 a e 1
  | 2 => d1 a e 1 + d1 b f 2
  | 3 => d1 a e 1 + d1 b f 2 + d1 c g 4
  | _ => d1 a e 1 + d1 b f 2 + d1 c g 4 + d1 d h 8
theorem d1_le (x y : Int) (p : Nat) : d1 x y p ≤ p := by unfold d1; split <;> omega
theorem dmk_lt (a b c d e f g h : Int) (k : Nat) (hk : k < 4) : dmk a b c d e f g h k < 2 ^ k := by
  have h0 := d1_le a e 1
  have h1 := d1_le b f 2
  have h2 := d1_le c g 4
  have h4 : k = 0 ∨ k = 1 ∨ k = 2 ∨ k = 3 := by omega
  rcases h4 with rfl | rfl | rfl | rfl <;> simp only [dmk] <;> omega
theorem or_bit (m k : Nat) (hk : k < 4) (hm : m < 2 ^ k) : bits .or .i64 (m : Int) ((2 ^ k : Nat) : Int) = ((m + 2 ^ k : Nat) : Int) := by
  have h4 : k = 0 ∨ k = 1 ∨ k = 2 ∨ k = 3 := by omega
  rcases h4 with rfl | rfl | rfl | rfl
  · obtain rfl : m = 0 := by omega
    rfl
  · have : m = 0 ∨ m = 1 := by omega
    rcases this with rfl | rfl <;> rfl
  · have : m = 0 ∨ m = 1 ∨ m = 2 ∨ m = 3 := by omega
    rcases this with rfl | rfl | rfl | rfl <;> rfl
  · have : m = 0 ∨ m = 1 ∨ m = 2 ∨ m = 3 ∨ m = 4 ∨ m = 5 ∨ m = 6 ∨ m = 7 := by omega
    rcases this with rfl | rfl | rfl | rfl | rfl | rfl | rfl | rfl <;> rfl
set_option maxRecDepth 100000 in
set_option maxHeartbeats 4000000 in
theorem differ_any (a b c d e f g h : Int) (w : World) : Calls Tryz.prog 19 #[.agg #[.int .i64 a, .int .i64 b, .int .i64 c, .int .i64 d], .agg #[.int .i64 e, .int .i64 f, .int .i64 g, .int .i64 h]] w fun E w' => E = .returned (.int .i64 (dmk a b c d e f g h 4 : Int)) ∧ Below w.heap.size w w' := by
  have C := Lib.hid (show Below w.heap.size w ((w.alloc (.cells #[.int .i64 a, .int .i64 b, .int .i64 c, .int .i64 d] 26)).alloc (.cells #[.int .i64 e, .int .i64 f, .int .i64 g, .int .i64 h] 26)) from ((Below.refl _ w).alloc (Nat.le_refl _) _).alloc (by simp) _)
  have BA := Lib.hid ((Blk.new w 26 [.int .i64 a, .int .i64 b, .int .i64 c, .int .i64 d] w.heap.size rfl).alloc (.cells #[.int .i64 e, .int .i64 f, .int .i64 g, .int .i64 h] 26))
  have BB := Lib.hid (Blk.new (w.alloc (.cells #[.int .i64 a, .int .i64 b, .int .i64 c, .int .i64 d] 26)) 26 [.int .i64 e, .int .i64 f, .int .i64 g, .int .i64 h] (w.heap.size + 1) (by simp))
  go_enter Tryz.func19, Tryz.ntmps19
  go_wp2
  generalize ((w.alloc (.cells #[.int .i64 a, .int .i64 b, .int .i64 c, .int .i64 d] 26)).alloc (.cells #[.int .i64 e, .int .i64 f, .int .i64 g, .int .i64 h] 26)) = W0 at *
  go_loopw [5, 8] (fun s i wr => ∃ k : Nat, k ≤ 4 ∧ i = .int .i64 (k : Int) ∧ s = .int .i64 (dmk a b c d e f g h k : Int) ∧ Hid (Blk wr w.heap.size [.int .i64 a, .int .i64 b, .int .i64 c, .int .i64 d]) ∧ Hid (Blk wr (w.heap.size + 1) [.int .i64 e, .int .i64 f, .int .i64 g, .int .i64 h]) ∧ Hid (Below w.heap.size w wr)) (fun _ i _ => 4 - (intOf i).toNat)
  case atStart => exact ⟨0, by omega, rfl, rfl, BA, BB, C⟩
  case round =>
    clear C BA BB
    obtain ⟨k, hk, rfl, rfl, BA, BB, C⟩ := hrel
    by_cases hlt : k < 4
    · have h4 : k = 0 ∨ k = 1 ∨ k = 2 ∨ k = 3 := by omega
      rcases h4 with rfl | rfl | rfl | rfl
      · skip
        have hm : dmk a b c d e f g h 0 < 2 ^ 0 := dmk_lt a b c d e f g h 0 (by decide)
        have HM := Lib.hid (show dmk a b c d e f g h 1 = dmk a b c d e f g h 0 + d1 a e 1 from (Nat.zero_add _).symm)
        generalize dmk a b c d e f g h 0 = m at *
        have K2 := Lib.hid (Blk.new wr 26 [.int .i64 a, .int .i64 b, .int .i64 c, .int .i64 d] wr.heap.size rfl)
        have hsz := C.out.size
        have hbw : Below wr.heap.size wr (wr.alloc (.cells #[.int .i64 a, .int .i64 b, .int .i64 c, .int .i64 d] 26)) := (Below.refl _ _).alloc (Nat.le_refl _) _
        have BA1 := Lib.hid (BA.out.keep hbw)
        have BB1 := Lib.hid (BB.out.keep hbw)
        have la := BA.out.lt
        have lb := BB.out.lt
        have hb3 : Below wr.heap.size wr (wr.alloc (.cells #[.int .i64 e, .int .i64 b, .int .i64 c, .int .i64 d] 26)) := (Below.refl _ _).alloc (Nat.le_refl _) _
        have K3 := Lib.hid (Blk.new wr 26 [.int .i64 e, .int .i64 b, .int .i64 c, .int .i64 d] wr.heap.size rfl)
        have A3 := Lib.hid (BA.out.keep hb3)
        have B3 := Lib.hid (BB.out.keep hb3)
        have C3 := Lib.hid (C.out.trans (hb3.mono hsz))
        have ka0 := BA.out.cells.2 0 _ rfl
        have ka1 := BA.out.cells.2 1 _ rfl
        have ka2 := BA.out.cells.2 2 _ rfl
        have ka3 := BA.out.cells.2 3 _ rfl
        have kb := BB1.out.cells.2 0 _ rfl
        have kf := K2.out.free 0
        have kx := K2.out.cells.2 0 _ rfl
        have r0 := K3.out.cells.2 0 _ rfl
        have r1 := K3.out.cells.2 1 _ rfl
        have r2 := K3.out.cells.2 2 _ rfl
        have r3 := K3.out.cells.2 3 _ rfl
        have s0 := A3.out.cells.2 0 _ rfl
        have s1 := A3.out.cells.2 1 _ rfl
        have s2 := A3.out.cells.2 2 _ rfl
        have s3 := A3.out.cells.2 3 _ rfl
        clear hbw hb3 la lb hsz
        by_cases hk : a = e
        · have HK := Lib.hid hk
          clear hk
          have hne : ∀ W, (binOp .neq 26 (.agg #[.int .i64 e, .int .i64 b, .int .i64 c, .int .i64 d]) (.agg #[.int .i64 a, .int .i64 b, .int .i64 c, .int .i64 d])).run Tryz.prog W = .ok (.bool false) W := fun W => neq_i4 26 3 e b c d a b c d true Tryz.underlying26 Tryz.underlying3 (by kernel_rfl) (by have h2 := HK.out; simp [h2]) W
          go_wp2
          go_roundw
          case rel => exact ⟨1, by omega, rfl, by rw [HM.out]; unfold d1; rw [if_pos HK.out] <;> rfl, A3, B3, C3⟩
          case measure => simp [intOf]
        · have HK := Lib.hid hk
          clear hk
          have hne : ∀ W, (binOp .neq 26 (.agg #[.int .i64 e, .int .i64 b, .int .i64 c, .int .i64 d]) (.agg #[.int .i64 a, .int .i64 b, .int .i64 c, .int .i64 d])).run Tryz.prog W = .ok (.bool true) W := fun W => neq_i4 26 3 e b c d a b c d false Tryz.underlying26 Tryz.underlying3 (by kernel_rfl) (by have h2 : ¬ e = a := fun h => HK.out h.symm; simp [h2]) W
          have hor : bits .or .i64 (m : Int) 1 = ((m + 1 : Nat) : Int) := or_bit m 0 (by decide) hm
          go_wp2_with fail
          generalize (wr.alloc (.cells #[.int .i64 e, .int .i64 b, .int .i64 c, .int .i64 d] 26)) = W3 at *
          refine (show Calls Tryz.prog 41 #[.int .i64 0] _ (fun e w' => e = .returned (.int .i64 1) ∧ Below _ _ w') from bit_any 0 W3 (by decide)).mono ?_
          rintro e' w' ⟨rfl, hb⟩
          have A4 := Lib.hid (A3.out.keep hb)
          have B4 := Lib.hid (B3.out.keep hb)
          have C4 := Lib.hid (C3.out.trans (hb.mono C3.out.size))
          clear hb
          go_wp2
          go_roundw
          case rel => exact ⟨1, by omega, rfl, by rw [HM.out]; unfold d1; rw [if_neg HK.out] <;> rfl, A4, B4, C4⟩
          case measure => simp [intOf]
      · skip
        have hm : dmk a b c d e f g h 1 < 2 ^ 1 := dmk_lt a b c d e f g h 1 (by decide)
        have HM := Lib.hid (show dmk a b c d e f g h 2 = dmk a b c d e f g h 1 + d1 b f 2 from rfl)
        generalize dmk a b c d e f g h 1 = m at *
        have K2 := Lib.hid (Blk.new wr 26 [.int .i64 a, .int .i64 b, .int .i64 c, .int .i64 d] wr.heap.size rfl)
        have hsz := C.out.size
        have hbw : Below wr.heap.size wr (wr.alloc (.cells #[.int .i64 a, .int .i64 b, .int .i64 c, .int .i64 d] 26)) := (Below.refl _ _).alloc (Nat.le_refl _) _
        have BA1 := Lib.hid (BA.out.keep hbw)
        have BB1 := Lib.hid (BB.out.keep hbw)
        have la := BA.out.lt
        have lb := BB.out.lt
        have hb3 : Below wr.heap.size wr (wr.alloc (.cells #[.int .i64 a, .int .i64 f, .int .i64 c, .int .i64 d] 26)) := (Below.refl _ _).alloc (Nat.le_refl _) _
        have K3 := Lib.hid (Blk.new wr 26 [.int .i64 a, .int .i64 f, .int .i64 c, .int .i64 d] wr.heap.size rfl)
        have A3 := Lib.hid (BA.out.keep hb3)
        have B3 := Lib.hid (BB.out.keep hb3)
        have C3 := Lib.hid (C.out.trans (hb3.mono hsz))
        have ka0 := BA.out.cells.2 0 _ rfl
        have ka1 := BA.out.cells.2 1 _ rfl
        have ka2 := BA.out.cells.2 2 _ rfl
        have ka3 := BA.out.cells.2 3 _ rfl
        have kb := BB1.out.cells.2 1 _ rfl
        have kf := K2.out.free 1
        have kx := K2.out.cells.2 1 _ rfl
        have r0 := K3.out.cells.2 0 _ rfl
        have r1 := K3.out.cells.2 1 _ rfl
        have r2 := K3.out.cells.2 2 _ rfl
        have r3 := K3.out.cells.2 3 _ rfl
        have s0 := A3.out.cells.2 0 _ rfl
        have s1 := A3.out.cells.2 1 _ rfl
        have s2 := A3.out.cells.2 2 _ rfl
        have s3 := A3.out.cells.2 3 _ rfl
        clear hbw hb3 la lb hsz
        by_cases hk : b = f
        · have HK := Lib.hid hk
          clear hk
          have hne : ∀ W, (binOp .neq 26 (.agg #[.int .i64 a, .int .i64 f, .int .i64 c, .int .i64 d]) (.agg #[.int .i64 a, .int .i64 b, .int .i64 c, .int .i64 d])).run Tryz.prog W = .ok (.bool false) W := fun W => neq_i4 26 3 a f c d a b c d true Tryz.underlying26 Tryz.underlying3 (by kernel_rfl) (by have h2 := HK.out; simp [h2]) W
          go_wp2
          go_roundw
          case rel => exact ⟨2, by omega, rfl, by rw [HM.out]; unfold d1; rw [if_pos HK.out] <;> rfl, A3, B3, C3⟩
          case measure => simp [intOf]
        · have HK := Lib.hid hk
          clear hk
          have hne : ∀ W, (binOp .neq 26 (.agg #[.int .i64 a, .int .i64 f, .int .i64 c, .int .i64 d]) (.agg #[.int .i64 a, .int .i64 b, .int .i64 c, .int .i64 d])).run Tryz.prog W = .ok (.bool true) W := fun W => neq_i4 26 3 a f c d a b c d false Tryz.underlying26 Tryz.underlying3 (by kernel_rfl) (by have h2 : ¬ f = b := fun h => HK.out h.symm; simp [h2]) W
          have hor : bits .or .i64 (m : Int) 2 = ((m + 2 : Nat) : Int) := or_bit m 1 (by decide) hm
          go_wp2_with fail
          generalize (wr.alloc (.cells #[.int .i64 a, .int .i64 f, .int .i64 c, .int .i64 d] 26)) = W3 at *
          refine (show Calls Tryz.prog 41 #[.int .i64 1] _ (fun e w' => e = .returned (.int .i64 2) ∧ Below _ _ w') from bit_any 1 W3 (by decide)).mono ?_
          rintro e' w' ⟨rfl, hb⟩
          have A4 := Lib.hid (A3.out.keep hb)
          have B4 := Lib.hid (B3.out.keep hb)
          have C4 := Lib.hid (C3.out.trans (hb.mono C3.out.size))
          clear hb
          go_wp2
          go_roundw
          case rel => exact ⟨2, by omega, rfl, by rw [HM.out]; unfold d1; rw [if_neg HK.out] <;> rfl, A4, B4, C4⟩
          case measure => simp [intOf]
      · skip
        have hm : dmk a b c d e f g h 2 < 2 ^ 2 := dmk_lt a b c d e f g h 2 (by decide)
        have HM := Lib.hid (show dmk a b c d e f g h 3 = dmk a b c d e f g h 2 + d1 c g 4 from rfl)
        generalize dmk a b c d e f g h 2 = m at *
        have K2 := Lib.hid (Blk.new wr 26 [.int .i64 a, .int .i64 b, .int .i64 c, .int .i64 d] wr.heap.size rfl)
        have hsz := C.out.size
        have hbw : Below wr.heap.size wr (wr.alloc (.cells #[.int .i64 a, .int .i64 b, .int .i64 c, .int .i64 d] 26)) := (Below.refl _ _).alloc (Nat.le_refl _) _
        have BA1 := Lib.hid (BA.out.keep hbw)
        have BB1 := Lib.hid (BB.out.keep hbw)
        have la := BA.out.lt
        have lb := BB.out.lt
        have hb3 : Below wr.heap.size wr (wr.alloc (.cells #[.int .i64 a, .int .i64 b, .int .i64 g, .int .i64 d] 26)) := (Below.refl _ _).alloc (Nat.le_refl _) _
        have K3 := Lib.hid (Blk.new wr 26 [.int .i64 a, .int .i64 b, .int .i64 g, .int .i64 d] wr.heap.size rfl)
        have A3 := Lib.hid (BA.out.keep hb3)
        have B3 := Lib.hid (BB.out.keep hb3)
        have C3 := Lib.hid (C.out.trans (hb3.mono hsz))
        have ka0 := BA.out.cells.2 0 _ rfl
        have ka1 := BA.out.cells.2 1 _ rfl
        have ka2 := BA.out.cells.2 2 _ rfl
        have ka3 := BA.out.cells.2 3 _ rfl
        have kb := BB1.out.cells.2 2 _ rfl
        have kf := K2.out.free 2
        have kx := K2.out.cells.2 2 _ rfl
        have r0 := K3.out.cells.2 0 _ rfl
        have r1 := K3.out.cells.2 1 _ rfl
        have r2 := K3.out.cells.2 2 _ rfl
        have r3 := K3.out.cells.2 3 _ rfl
        have s0 := A3.out.cells.2 0 _ rfl
        have s1 := A3.out.cells.2 1 _ rfl
        have s2 := A3.out.cells.2 2 _ rfl
        have s3 := A3.out.cells.2 3 _ rfl
        clear hbw hb3 la lb hsz
        by_cases hk : c = g
        · have HK := Lib.hid hk
          clear hk
          have hne : ∀ W, (binOp .neq 26 (.agg #[.int .i64 a, .int .i64 b, .int .i64 g, .int .i64 d]) (.agg #[.int .i64 a, .int .i64 b, .int .i64 c, .int .i64 d])).run Tryz.prog W = .ok (.bool false) W := fun W => neq_i4 26 3 a b g d a b c d true Tryz.underlying26 Tryz.underlying3 (by kernel_rfl) (by have h2 := HK.out; simp [h2]) W
          go_wp2
          go_roundw
          case rel => exact ⟨3, by omega, rfl, by rw [HM.out]; unfold d1; rw [if_pos HK.out] <;> rfl, A3, B3, C3⟩
          case measure => simp [intOf]
        · have HK := Lib.hid hk
          clear hk
          have hne : ∀ W, (binOp .neq 26 (.agg #[.int .i64 a, .int .i64 b, .int .i64 g, .int .i64 d]) (.agg #[.int .i64 a, .int .i64 b, .int .i64 c, .int .i64 d])).run Tryz.prog W = .ok (.bool true) W := fun W => neq_i4 26 3 a b g d a b c d false Tryz.underlying26 Tryz.underlying3 (by kernel_rfl) (by have h2 : ¬ g = c := fun h => HK.out h.symm; simp [h2]) W
          have hor : bits .or .i64 (m : Int) 4 = ((m + 4 : Nat) : Int) := or_bit m 2 (by decide) hm
          go_wp2_with fail
          generalize (wr.alloc (.cells #[.int .i64 a, .int .i64 b, .int .i64 g, .int .i64 d] 26)) = W3 at *
          refine (show Calls Tryz.prog 41 #[.int .i64 2] _ (fun e w' => e = .returned (.int .i64 4) ∧ Below _ _ w') from bit_any 2 W3 (by decide)).mono ?_
          rintro e' w' ⟨rfl, hb⟩
          have A4 := Lib.hid (A3.out.keep hb)
          have B4 := Lib.hid (B3.out.keep hb)
          have C4 := Lib.hid (C3.out.trans (hb.mono C3.out.size))
          clear hb
          go_wp2
          go_roundw
          case rel => exact ⟨3, by omega, rfl, by rw [HM.out]; unfold d1; rw [if_neg HK.out] <;> rfl, A4, B4, C4⟩
          case measure => simp [intOf]
      · skip
        have hm : dmk a b c d e f g h 3 < 2 ^ 3 := dmk_lt a b c d e f g h 3 (by decide)
        have HM := Lib.hid (show dmk a b c d e f g h 4 = dmk a b c d e f g h 3 + d1 d h 8 from rfl)
        generalize dmk a b c d e f g h 3 = m at *
        have K2 := Lib.hid (Blk.new wr 26 [.int .i64 a, .int .i64 b, .int .i64 c, .int .i64 d] wr.heap.size rfl)
        have hsz := C.out.size
        have hbw : Below wr.heap.size wr (wr.alloc (.cells #[.int .i64 a, .int .i64 b, .int .i64 c, .int .i64 d] 26)) := (Below.refl _ _).alloc (Nat.le_refl _) _
        have BA1 := Lib.hid (BA.out.keep hbw)
        have BB1 := Lib.hid (BB.out.keep hbw)
        have la := BA.out.lt
        have lb := BB.out.lt
        have hb3 : Below wr.heap.size wr (wr.alloc (.cells #[.int .i64 a, .int .i64 b, .int .i64 c, .int .i64 h] 26)) := (Below.refl _ _).alloc (Nat.le_refl _) _
        have K3 := Lib.hid (Blk.new wr 26 [.int .i64 a, .int .i64 b, .int .i64 c, .int .i64 h] wr.heap.size rfl)
        have A3 := Lib.hid (BA.out.keep hb3)
        have B3 := Lib.hid (BB.out.keep hb3)
        have C3 := Lib.hid (C.out.trans (hb3.mono hsz))
        have ka0 := BA.out.cells.2 0 _ rfl
        have ka1 := BA.out.cells.2 1 _ rfl
        have ka2 := BA.out.cells.2 2 _ rfl
        have ka3 := BA.out.cells.2 3 _ rfl
        have kb := BB1.out.cells.2 3 _ rfl
        have kf := K2.out.free 3
        have kx := K2.out.cells.2 3 _ rfl
        have r0 := K3.out.cells.2 0 _ rfl
        have r1 := K3.out.cells.2 1 _ rfl
        have r2 := K3.out.cells.2 2 _ rfl
        have r3 := K3.out.cells.2 3 _ rfl
        have s0 := A3.out.cells.2 0 _ rfl
        have s1 := A3.out.cells.2 1 _ rfl
        have s2 := A3.out.cells.2 2 _ rfl
        have s3 := A3.out.cells.2 3 _ rfl
        clear hbw hb3 la lb hsz
        by_cases hk : d = h
        · have HK := Lib.hid hk
          clear hk
          have hne : ∀ W, (binOp .neq 26 (.agg #[.int .i64 a, .int .i64 b, .int .i64 c, .int .i64 h]) (.agg #[.int .i64 a, .int .i64 b, .int .i64 c, .int .i64 d])).run Tryz.prog W = .ok (.bool false) W := fun W => neq_i4 26 3 a b c h a b c d true Tryz.underlying26 Tryz.underlying3 (by kernel_rfl) (by have h2 := HK.out; simp [h2]) W
          go_wp2
          go_roundw
          case rel => exact ⟨4, by omega, rfl, by rw [HM.out]; unfold d1; rw [if_pos HK.out] <;> rfl, A3, B3, C3⟩
          case measure => simp [intOf]
        · have HK := Lib.hid hk
          clear hk
          have hne : ∀ W, (binOp .neq 26 (.agg #[.int .i64 a, .int .i64 b, .int .i64 c, .int .i64 h]) (.agg #[.int .i64 a, .int .i64 b, .int .i64 c, .int .i64 d])).run Tryz.prog W = .ok (.bool true) W := fun W => neq_i4 26 3 a b c h a b c d false Tryz.underlying26 Tryz.underlying3 (by kernel_rfl) (by have h2 : ¬ h = d := fun h => HK.out h.symm; simp [h2]) W
          have hor : bits .or .i64 (m : Int) 8 = ((m + 8 : Nat) : Int) := or_bit m 3 (by decide) hm
          go_wp2_with fail
          generalize (wr.alloc (.cells #[.int .i64 a, .int .i64 b, .int .i64 c, .int .i64 h] 26)) = W3 at *
          refine (show Calls Tryz.prog 41 #[.int .i64 3] _ (fun e w' => e = .returned (.int .i64 8) ∧ Below _ _ w') from bit_any 3 W3 (by decide)).mono ?_
          rintro e' w' ⟨rfl, hb⟩
          have A4 := Lib.hid (A3.out.keep hb)
          have B4 := Lib.hid (B3.out.keep hb)
          have C4 := Lib.hid (C3.out.trans (hb.mono C3.out.size))
          clear hb
          go_wp2
          go_roundw
          case rel => exact ⟨4, by omega, rfl, by rw [HM.out]; unfold d1; rw [if_neg HK.out] <;> rfl, A4, B4, C4⟩
          case measure => simp [intOf]
    · have hk4 : k = 4 := by omega
      subst hk4
      go_wp2
      go_ret
      exact ⟨rfl, C.out⟩
end Go.Proofs.YtkjghoomdefbbaaGreatDoor
end
section
namespace Go.Proofs.YtkjghoomdefbbaaGreatDoor
open Go.RowKit
set_option linter.unusedVariables false
set_option linter.unusedSimpArgs false
attribute [local irreducible] setN

def eK : En := ⟨[107], ⟨3, 0, 0, false, [], [], [], 1⟩⟩
theorem fit_eK : FitE eK := ⟨by decide, ⟨by decide, by decide, by decide⟩⟩
def aZ2 : Ar := ⟨2, [], []⟩
def aK1 : Ar := ⟨2, [eK], [0]⟩
theorem fit_aZ2 : FitA aZ2 := ⟨by decide, by decide, fun e he => by simp [aZ2] at he⟩
theorem fit_aK1 : FitA aK1 := ⟨by decide, by decide, fun e he => by
  simp only [aK1, List.mem_cons, List.not_mem_nil, or_false] at he
  subst he; exact fit_eK⟩
theorem w_dnew (w : World) : Calls Tryz.prog 33 #[.int .i64 2] w fun e w' => ∃ v', e = .returned (.tuple #[v', .int .i64 0]) ∧ isAr aZ2 v' w' ∧ Below w.heap.size w w' := anew_any 2 w
theorem w_djoin (v u : Value) (w : World) (hv : isAr aZ2 v w) (hu : isEn eK u w) : Calls Tryz.prog 29 #[v, u] w fun e w' => ∃ v', e = .returned (.tuple #[v', .bool true, .int .i64 0]) ∧ isAr aK1 v' w' ∧ Below w.heap.size w w' := by
  have h := ajoin_any aZ2 eK v u w hv hu fit_aZ2 fit_eK
  rwa [show joinAF aZ2 eK = aK1 by kernel_rfl, show joinAB aZ2 eK = true by kernel_rfl, show joinAE aZ2 eK = 0 by kernel_rfl] at h
theorem w_dput (u : Value) (w : World) (hu : isEn eK u w) : Calls Tryz.prog 31 #[u] w fun e w' => e = .returned (.tuple #[txt (putEn eK), .int .i64 0]) ∧ Below w.heap.size w w' := by
  have h := eput_any eK u w hu fit_eK
  rwa [show putF eK = putEn eK by kernel_rfl, show chkE eK = 0 by kernel_rfl] at h
theorem w_bucket (w : World) : Calls Tryz.prog 17 #[.int .i64 3, .string ⟨#[107]⟩] w fun e w' => e = .returned (.int .i64 0) ∧ Below w.heap.size w w' := by
  have h := bucket_any 3 [107] w (by decide)
  rwa [show bucketN 3 [107] = 0 by kernel_rfl] at h
theorem w_sumsA (v : Value) (w : World) (hv : isAr aZ2 v w) : Calls Tryz.prog 18 #[v] w fun e w' => e = .returned (.agg #[.int .i64 0, .int .i64 0, .int .i64 0, .int .i64 0]) ∧ Below w.heap.size w w' := by
  have h := sums_any aZ2 v w hv fit_aZ2
  rwa [show sumsV aZ2 = .agg #[.int .i64 0, .int .i64 0, .int .i64 0, .int .i64 0] by kernel_rfl] at h
theorem w_sumsK (v : Value) (w : World) (hv : isAr aK1 v w) : Calls Tryz.prog 18 #[v] w fun e w' => e = .returned (.agg #[.int .i64 3264677171, .int .i64 0, .int .i64 0, .int .i64 0]) ∧ Below w.heap.size w w' := by
  have h := sums_any aK1 v w hv fit_aK1
  rwa [show sumsV aK1 = .agg #[.int .i64 3264677171, .int .i64 0, .int .i64 0, .int .i64 0] by kernel_rfl] at h
theorem w_differ (w : World) : Calls Tryz.prog 19 #[.agg #[.int .i64 3264677171, .int .i64 0, .int .i64 0, .int .i64 0], .agg #[.int .i64 0, .int .i64 0, .int .i64 0, .int .i64 0]] w fun e w' => e = .returned (.int .i64 1) ∧ Below w.heap.size w w' := by
  have h := differ_any 3264677171 0 0 0 0 0 0 0 w
  rwa [show dmk 3264677171 0 0 0 0 0 0 0 4 = 1 by kernel_rfl] at h
theorem w_crc (w : World) : Calls Tryz.prog 32 #[txt (putEn eK)] w fun e w' => e = .returned (.int .i64 3264677171) ∧ Below w.heap.size w w' := by
  have h := sum_any (putEn eK) w (by rw [length_putEn (by decide)]; decide)
  refine h.mono ?_
  rintro e w' ⟨rfl, rfl⟩
  exact ⟨by rw [show crcN (putEn eK) = 3264677171 by kernel_rfl]; rfl, Below.refl _ _⟩
theorem w_in (mask most : Int) (n : Nat) (v : Value) (w : World) (hv : isAr aK1 v w) (hn : (inA aK1 mask most).length = n) : Calls Tryz.prog 15 #[v, .int .i64 mask, .int .i64 most] w fun e w' => ∃ a c, e = .returned (.slice a n c) ∧ Below w.heap.size w w' := by
  refine (in_any aK1 mask most v w hv fit_aK1).mono ?_
  rintro e w' ⟨v', rfl, hv', hb⟩
  obtain ⟨a, c, e⟩ := hv'.len
  exact ⟨a, c, by rw [e, hn], hb⟩
def t16 : List UInt8 := putQ [1, 2, 3, 4]
theorem t16_len : t16.length = 16 := by kernel_rfl
theorem w_put4 (w : World) : Calls Tryz.prog 20 #[.agg #[.int .i64 1, .int .i64 2, .int .i64 3, .int .i64 4]] w fun e w' => e = .returned (.tuple #[txt t16, .int .i64 0]) ∧ Below w.heap.size w w' := by
  have h := dgput_any 1 2 3 4 w (by decide)
  rwa [show putQE [1, 2, 3, 4] = 0 by kernel_rfl] at h
theorem w_put4n (w : World) : Calls Tryz.prog 20 #[.agg #[.int .i64 (-1), .int .i64 0, .int .i64 0, .int .i64 0]] w fun e w' => e = .returned (.tuple #[.string ⟨#[]⟩, .int .i64 1]) ∧ Below w.heap.size w w' := by
  have h := dgput_any (-1) 0 0 0 w (by decide)
  rwa [show putQE [-1, 0, 0, 0] = 1 by kernel_rfl, show putQ [-1, 0, 0, 0] = [] by kernel_rfl] at h
theorem w_get4 (w : World) : Calls Tryz.prog 22 #[txt t16] w fun e w' => e = .returned (.tuple #[.agg #[.int .i64 1, .int .i64 2, .int .i64 3, .int .i64 4], .int .i64 0]) ∧ Below w.heap.size w w' := by
  have h := dgget_yes t16 w t16_len
  rwa [show ((sums4 t16).map (fun x => Value.int .i64 x)).toArray = #[.int .i64 1, .int .i64 2, .int .i64 3, .int .i64 4] by kernel_rfl] at h
theorem w_get0 (w : World) : Calls Tryz.prog 22 #[.string ⟨#[]⟩] w fun e w' => e = .returned (.tuple #[.agg #[.int .i64 0, .int .i64 0, .int .i64 0, .int .i64 0], .int .i64 2]) ∧ Below w.heap.size w w' := dgget_no [] w (by decide) (by decide)
theorem w_litK (W : World) : Kept (Below W.heap.size W (W.alloc (.cells #[.string ⟨#[107]⟩, .int .i64 3, .int .i64 0, .int .i64 0, .bool false, .string ⟨#[]⟩, .slice none 0 0, .slice none 0 0, .int .u64 1] 48))) ∧ Kept (VarN (W.alloc (.cells #[.string ⟨#[107]⟩, .int .i64 3, .int .i64 0, .int .i64 0, .bool false, .string ⟨#[]⟩, .slice none 0 0, .slice none 0 0, .int .u64 1] 48)) W.heap.size eK) ∧ Kept (isEn eK (.agg #[.string ⟨#[107]⟩, .int .i64 3, .int .i64 0, .int .i64 0, .bool false, .string ⟨#[]⟩, .slice none 0 0, .slice none 0 0, .int .u64 1]) (W.alloc (.cells #[.string ⟨#[107]⟩, .int .i64 3, .int .i64 0, .int .i64 0, .bool false, .string ⟨#[]⟩, .slice none 0 0, .slice none 0 0, .int .u64 1] 48))) := by
  obtain ⟨h1, h2⟩ := ebox W eK (.slice none 0 0) (.slice none 0 0) (.inl ⟨rfl, rfl⟩) (.inl ⟨rfl, rfl⟩) W.heap.size rfl
  exact ⟨h1, h2, ⟨⟨_, _, rfl, .inl ⟨rfl, rfl⟩, .inl ⟨rfl, rfl⟩⟩⟩⟩
theorem snew (w : World) (a b c d : Int) (n : Nat) (hn : n = w.heap.size) : Kept (CellsN (w.alloc (.cells #[.int .i64 0, .int .i64 0, .int .i64 0, .int .i64 0] 26)) n [.int .i64 0, .int .i64 0, .int .i64 0, .int .i64 0]) ∧ Kept (Free5 (w.alloc (.cells #[.int .i64 0, .int .i64 0, .int .i64 0, .int .i64 0] 26)) n) ∧
    Kept (Below w.heap.size w (setN (w.alloc (.cells #[.int .i64 0, .int .i64 0, .int .i64 0, .int .i64 0] 26)) n 0 [.int .i64 a, .int .i64 b, .int .i64 c, .int .i64 d])) ∧ Kept (Blk (setN (w.alloc (.cells #[.int .i64 0, .int .i64 0, .int .i64 0, .int .i64 0] 26)) n 0 [.int .i64 a, .int .i64 b, .int .i64 c, .int .i64 d]) n [.int .i64 a, .int .i64 b, .int .i64 c, .int .i64 d]) ∧ Kept (Ones [.int .i64 a, .int .i64 b, .int .i64 c, .int .i64 d]) := by
  have hB := Blk.new w 26 [.int .i64 0, .int .i64 0, .int .i64 0, .int .i64 0] n hn
  exact ⟨⟨hB.cells⟩, ⟨hB.free⟩, ⟨below_setN (by omega) _ 0 _ (lit_below w _)⟩, ⟨hB.all_ rfl⟩, ⟨⟨rfl, rfl, rfl, rfl, trivial⟩⟩⟩
noncomputable def wk9Ops : Array Oper := regionOf Tryz.f9 9
set_option maxRecDepth 100000 in
set_option maxHeartbeats 2000000 in
theorem wk9_region (Q : Exit → Act → World → Prop) (a0 : Act) (w0 : World) (hsz : a0.tmps.size = 141) (g h : Nat) (vs vi : Value) (e10 : a0.tmps.getD 10 undef = .pointer (some ⟨g, 0, none⟩)) (e1 : a0.tmps.getD 1 undef = .pointer (some ⟨h, 0, none⟩)) (HG : CellsN w0 g [.int .i64 3264677171, .int .i64 0, .int .i64 0, .int .i64 0]) (HH : CellsN w0 h [.int .i64 aZ2.cap, vs, vi]) (hA : isAr aZ2 (.agg #[.int .i64 aZ2.cap, vs, vi]) w0)
    (hQ : ∀ (g : Nat → Value) (w : World), g 11 = .int .i64 1 → Below w0.heap.size w0 w → Q .normal { tmps := [47, 48, 49, 50, 11].foldl (fun t s => t.setIfInBounds s (g s)) a0.tmps, defers := a0.defers } w) :
    (Code.region 9 wk9Ops true).wp Tryz.prog Q a0 w0 := by
  refine wp_region_flow mixed (by rw [hsz]; kernel_rfl) ?_
  rw [show wk9Ops.size = 5 by kernel_rfl]
  refine ⟨isVal (.agg #[.int .i64 3264677171, .int .i64 0, .int .i64 0, .int .i64 0]), step_loadN 26 (.tmp 10) (g) [.int .i64 3264677171, .int .i64 0, .int .i64 0, .int .i64 0] (by kernel_rfl) (wanted_none (by kernel_rfl)) (knows_old 10 (.pointer (some ⟨g, 0, none⟩)) (by kernel_rfl) e10) size_a4 agg_a4 (HG), ?_⟩
  refine ⟨isVal (.agg #[.int .i64 aZ2.cap, vs, vi]), step_loadN 25 (.tmp 1) (h) [.int .i64 aZ2.cap, vs, vi] (by kernel_rfl) (wanted_none (by kernel_rfl)) (knows_old 1 (.pointer (some ⟨h, 0, none⟩)) (by kernel_rfl) e1) size_ar agg_ar (HH), ?_⟩
  refine ⟨isVal (.agg #[.int .i64 0, .int .i64 0, .int .i64 0, .int .i64 0]), step_call 18 #[.tmp 48] #[25] #[.agg #[.int .i64 aZ2.cap, vs, vi]] (by kernel_rfl) (wanted_none (by kernel_rfl)) (stable_val _) (args1 (.tmp 48) (.agg #[.int .i64 aZ2.cap, vs, vi]) (knows_new (V := isVal (.agg #[.int .i64 aZ2.cap, vs, vi])) 48 1 (by kernel_rfl) (by kernel_rfl) (by kernel_rfl))) (enters_of Tryz.func18 (by kernel_rfl) rfl) (by intro w' hb; exact (w_sumsA _ w' (stable_ar _ _ _ _ hA hb)).mono (by rintro e w2 ⟨rfl, hb2⟩; exact ⟨_, rfl, rfl, hb2⟩)), ?_⟩
  refine ⟨isVal (.int .i64 1), step_call 19 #[.tmp 47, .tmp 49] #[26, 26] #[.agg #[.int .i64 3264677171, .int .i64 0, .int .i64 0, .int .i64 0], .agg #[.int .i64 0, .int .i64 0, .int .i64 0, .int .i64 0]] (by kernel_rfl) (wanted_none (by kernel_rfl)) (stable_val _) (args2 (.tmp 47) (.tmp 49) (.agg #[.int .i64 3264677171, .int .i64 0, .int .i64 0, .int .i64 0]) (.agg #[.int .i64 0, .int .i64 0, .int .i64 0, .int .i64 0]) (knows_new (V := isVal (.agg #[.int .i64 3264677171, .int .i64 0, .int .i64 0, .int .i64 0])) 47 0 (by kernel_rfl) (by kernel_rfl) (by kernel_rfl)) (knows_new (V := isVal (.agg #[.int .i64 0, .int .i64 0, .int .i64 0, .int .i64 0])) 49 2 (by kernel_rfl) (by kernel_rfl) (by kernel_rfl))) (enters_of Tryz.func19 (by kernel_rfl) rfl) (by intro w' hb; exact (w_differ w').mono (by rintro e w2 ⟨rfl, hb2⟩; exact ⟨_, rfl, rfl, hb2⟩)), ?_⟩
  refine ⟨isVal (.int .i64 1), step_assign (.tmp 50) (by kernel_rfl) (wanted_none (by kernel_rfl)) (stable_val _) (knows_new (V := isVal (.int .i64 1)) 50 3 (by kernel_rfl) (by kernel_rfl) (by kernel_rfl)), ?_⟩
  intro a w hkp hb hd
  rw [kept_of hkp [some 47, some 48, some 49, some 50, some 11] [47, 48, 49, 50, 11] (by kernel_rfl) (by decide)]
  have d11 := fdone_of (hd 4 (by rw [show wk9Ops.size = 5 by kernel_rfl]; decide)) (t := 11) (V := isVal (.int .i64 1)) (by kernel_rfl) (by kernel_rfl)
  exact hQ (fun s => a.tmps.getD s undef) w d11 hb
end Go.Proofs.YtkjghoomdefbbaaGreatDoor
end
