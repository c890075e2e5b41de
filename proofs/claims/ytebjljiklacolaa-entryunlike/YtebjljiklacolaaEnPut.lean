/- Contract of entry.Put. -/
import Derived.Test.YtebjljiklacolaaEnWrite
import Derived.Test.YtebjljiklacolaaEnApi
namespace Go.Proofs.Ytebjljiklacolaa
open Go.RowKit
set_option linter.unusedVariables false
set_option linter.unusedSimpArgs false
attribute [local irreducible] setN

theorem old_blk {cs : List Value} {v : Value} {w : World} (h : isCells cs v w) (h0 : 0 < cs.length) {g : Nat} (hg : w.heap.size ≤ g) : blk v ≠ some g := by
  obtain ⟨b, off, cap, rfl, hb, -⟩ := h.some_ h0
  intro e
  injection e with e
  have : b = g := e
  omega
noncomputable def pu1Ops : Array Oper := regionOf Try.f9 5
set_option maxRecDepth 100000 in
set_option maxHeartbeats 2000000 in
theorem pu1_region (Q : Exit → Act → World → Prop) (a0 : Act) (w0 : World) (hsz : a0.tmps.size = 54) (E : En) (g b : Nat) (vp vm : Value) (e5 : a0.tmps.getD 5 undef = .pointer (some ⟨g, 0, none⟩)) (e1 : a0.tmps.getD 1 undef = .pointer (some ⟨b, 0, none⟩)) (hc : CellsN w0 b [.string ⟨E.key.toArray⟩, .int .i64 E.val.kind, .int .i64 E.val.time, .int .i64 E.val.node, .bool E.val.dead, .string ⟨E.val.text.toArray⟩, vp, vm, .int .u64 (E.val.flags.toNat : Int)])
    (hC : ∀ (y : Nat → Value) (w : World), Below w0.heap.size w0 w → Calls Try.prog 18 #[.pointer (some ⟨g, 0, none⟩), .int .i64 E.val.kind, .int .i64 1] w fun e w' => ∃ v, e = .returned v ∧ Q .normal { tmps := ([13, 14, 15, 16, 17, 18, 19].foldl (fun t s => t.setIfInBounds s (y s)) a0.tmps).setIfInBounds 19 v, defers := a0.defers } w') :
    (Code.region 5 pu1Ops true).wp Try.prog Q a0 w0 := by
  refine wp_region_cov 6 mixed (by rw [hsz]; kernel_rfl) (by kernel_rfl) ?_
  rw [show pu1Ops.size - 6 = 1 by kernel_rfl]
  refine ⟨isVal (.pointer (some ⟨g, 0, none⟩)), step_move (.tmp 5) (by kernel_rfl) (wanted_none (by kernel_rfl)) (stable_val _) (knows_old 5 (.pointer (some ⟨g, 0, none⟩)) (by kernel_rfl) e5), ?_⟩
  refine ⟨isVal (.pointer (some ⟨g, 0, none⟩)), step_nilP (.tmp 13) ⟨g, 0, none⟩ (by kernel_rfl) (wanted_none (by kernel_rfl)) (knows_new (V := isVal (.pointer (some ⟨g, 0, none⟩))) 13 0 (by kernel_rfl) (by kernel_rfl) (by kernel_rfl)), ?_⟩
  refine ⟨isVal (.pointer (some ⟨g, 0, none⟩)), step_field 48 (.tmp 14) 0 ⟨g, 0, none⟩ ⟨g, 0, none⟩ (by kernel_rfl) (wanted_none (by kernel_rfl)) (knows_new (V := isVal (.pointer (some ⟨g, 0, none⟩))) 14 1 (by kernel_rfl) (by kernel_rfl) (by kernel_rfl)) (field_wr g 0 (by omega)), ?_⟩
  refine ⟨isVal (.pointer (some ⟨b, 1, none⟩)), step_field 27 (.tmp 1) 1 ⟨b, 0, none⟩ ⟨b, 1, none⟩ (by kernel_rfl) (wanted_none (by kernel_rfl)) (knows_old 1 (.pointer (some ⟨b, 0, none⟩)) (by kernel_rfl) e1) (field_en b 1 (by omega)), ?_⟩
  refine ⟨isVal (.pointer (some ⟨b, 1, none⟩)), step_field 25 (.tmp 16) 0 ⟨b, 1, none⟩ ⟨b, 1, none⟩ (by kernel_rfl) (wanted_none (by kernel_rfl)) (knows_new (V := isVal (.pointer (some ⟨b, 1, none⟩))) 16 3 (by kernel_rfl) (by kernel_rfl) (by kernel_rfl)) (field_va1 b 0 (by omega)), ?_⟩
  refine ⟨isVal (.int .i64 E.val.kind), step_read 3 (.tmp 17) ⟨b, 1, none⟩ (.int .i64 E.val.kind) (by kernel_rfl) (wanted_none (by kernel_rfl)) (knows_new (V := isVal (.pointer (some ⟨b, 1, none⟩))) 17 4 (by kernel_rfl) (by kernel_rfl) (by kernel_rfl)) (hc.2 1 _ rfl) hc.1 agg_int, ?_⟩
  intro a w hkp hb hd
  have d15 : a.eval (.tmp 15) = _ := fdone_of (hd 2 (by decide)) (t := 15) (V := isVal (.pointer (some ⟨g, 0, none⟩))) (by kernel_rfl) (by kernel_rfl)
  have d18 : a.eval (.tmp 18) = _ := fdone_of (hd 5 (by decide)) (t := 18) (V := isVal (.int .i64 E.val.kind)) (by kernel_rfl) (by kernel_rfl)
  refine tail_call 18 #[.tmp 15, .tmp 18, .const (.int .i64 1)] #[46, 3, 3] #[.pointer (some ⟨g, 0, none⟩), .int .i64 E.val.kind, .int .i64 1] 19 (by kernel_rfl) (by kernel_rfl) (by simp only [List.map_toArray, List.map_cons, List.map_nil, d15, d18]; try rfl) (enters_of Try.func18 (by kernel_rfl) rfl) ?_
  obtain ⟨y, ey⟩ := kept_ex hkp [some 13, some 14, some 15, some 16, some 17, some 18, some 19] [13, 14, 15, 16, 17, 18, 19] (by kernel_rfl) (by decide)
  refine (hC y w hb).mono ?_
  rintro e w' ⟨v, rfl, hq⟩
  exact ⟨v, rfl, put_kept ey hq⟩
noncomputable def pu2Ops : Array Oper := regionOf Try.f9 6
set_option maxRecDepth 100000 in
set_option maxHeartbeats 2000000 in
theorem pu2_region (Q : Exit → Act → World → Prop) (a0 : Act) (w0 : World) (hsz : a0.tmps.size = 54) (E : En) (g b : Nat) (vp vm : Value) (e5 : a0.tmps.getD 5 undef = .pointer (some ⟨g, 0, none⟩)) (e1 : a0.tmps.getD 1 undef = .pointer (some ⟨b, 0, none⟩)) (hc : CellsN w0 b [.string ⟨E.key.toArray⟩, .int .i64 E.val.kind, .int .i64 E.val.time, .int .i64 E.val.node, .bool E.val.dead, .string ⟨E.val.text.toArray⟩, vp, vm, .int .u64 (E.val.flags.toNat : Int)])
    (hC : ∀ (y : Nat → Value) (w : World), Below w0.heap.size w0 w → Calls Try.prog 18 #[.pointer (some ⟨g, 0, none⟩), .int .i64 (E.key.length : Int), .int .i64 1] w fun e w' => ∃ v, e = .returned v ∧ Q .normal { tmps := ([20, 21, 22, 23, 24, 25, 26].foldl (fun t s => t.setIfInBounds s (y s)) a0.tmps).setIfInBounds 26 v, defers := a0.defers } w') :
    (Code.region 6 pu2Ops true).wp Try.prog Q a0 w0 := by
  refine wp_region_cov 6 mixed (by rw [hsz]; kernel_rfl) (by kernel_rfl) ?_
  rw [show pu2Ops.size - 6 = 1 by kernel_rfl]
  refine ⟨isVal (.pointer (some ⟨g, 0, none⟩)), step_move (.tmp 5) (by kernel_rfl) (wanted_none (by kernel_rfl)) (stable_val _) (knows_old 5 (.pointer (some ⟨g, 0, none⟩)) (by kernel_rfl) e5), ?_⟩
  refine ⟨isVal (.pointer (some ⟨g, 0, none⟩)), step_nilP (.tmp 20) ⟨g, 0, none⟩ (by kernel_rfl) (wanted_none (by kernel_rfl)) (knows_new (V := isVal (.pointer (some ⟨g, 0, none⟩))) 20 0 (by kernel_rfl) (by kernel_rfl) (by kernel_rfl)), ?_⟩
  refine ⟨isVal (.pointer (some ⟨g, 0, none⟩)), step_field 48 (.tmp 21) 0 ⟨g, 0, none⟩ ⟨g, 0, none⟩ (by kernel_rfl) (wanted_none (by kernel_rfl)) (knows_new (V := isVal (.pointer (some ⟨g, 0, none⟩))) 21 1 (by kernel_rfl) (by kernel_rfl) (by kernel_rfl)) (field_wr g 0 (by omega)), ?_⟩
  refine ⟨isVal (.pointer (some ⟨b, 0, none⟩)), step_field 27 (.tmp 1) 0 ⟨b, 0, none⟩ ⟨b, 0, none⟩ (by kernel_rfl) (wanted_none (by kernel_rfl)) (knows_old 1 (.pointer (some ⟨b, 0, none⟩)) (by kernel_rfl) e1) (field_en b 0 (by omega)), ?_⟩
  refine ⟨isVal (.string ⟨E.key.toArray⟩), step_read 9 (.tmp 23) ⟨b, 0, none⟩ (.string ⟨E.key.toArray⟩) (by kernel_rfl) (wanted_none (by kernel_rfl)) (knows_new (V := isVal (.pointer (some ⟨b, 0, none⟩))) 23 3 (by kernel_rfl) (by kernel_rfl) (by kernel_rfl)) (hc.2 0 _ rfl) hc.1 agg_str, ?_⟩
  refine ⟨isVal (.int .i64 (E.key.length : Int)), step_len 9 (.tmp 24) (.string ⟨E.key.toArray⟩) (.int .i64 (E.key.length : Int)) (by kernel_rfl) (wanted_none (by kernel_rfl)) (knows_new (V := isVal (.string ⟨E.key.toArray⟩)) 24 4 (by kernel_rfl) (by kernel_rfl) (by kernel_rfl)) (len_str E.key), ?_⟩
  intro a w hkp hb hd
  have d22 : a.eval (.tmp 22) = _ := fdone_of (hd 2 (by decide)) (t := 22) (V := isVal (.pointer (some ⟨g, 0, none⟩))) (by kernel_rfl) (by kernel_rfl)
  have d25 : a.eval (.tmp 25) = _ := fdone_of (hd 5 (by decide)) (t := 25) (V := isVal (.int .i64 (E.key.length : Int))) (by kernel_rfl) (by kernel_rfl)
  refine tail_call 18 #[.tmp 22, .tmp 25, .const (.int .i64 1)] #[46, 3, 3] #[.pointer (some ⟨g, 0, none⟩), .int .i64 (E.key.length : Int), .int .i64 1] 26 (by kernel_rfl) (by kernel_rfl) (by simp only [List.map_toArray, List.map_cons, List.map_nil, d22, d25]; try rfl) (enters_of Try.func18 (by kernel_rfl) rfl) ?_
  obtain ⟨y, ey⟩ := kept_ex hkp [some 20, some 21, some 22, some 23, some 24, some 25, some 26] [20, 21, 22, 23, 24, 25, 26] (by kernel_rfl) (by decide)
  refine (hC y w hb).mono ?_
  rintro e w' ⟨v, rfl, hq⟩
  exact ⟨v, rfl, put_kept ey hq⟩
noncomputable def pu3Ops : Array Oper := regionOf Try.f9 7
set_option maxRecDepth 100000 in
set_option maxHeartbeats 2000000 in
theorem pu3_region (Q : Exit → Act → World → Prop) (a0 : Act) (w0 : World) (hsz : a0.tmps.size = 54) (E : En) (g b : Nat) (vp vm : Value) (e5 : a0.tmps.getD 5 undef = .pointer (some ⟨g, 0, none⟩)) (e1 : a0.tmps.getD 1 undef = .pointer (some ⟨b, 0, none⟩)) (hc : CellsN w0 b [.string ⟨E.key.toArray⟩, .int .i64 E.val.kind, .int .i64 E.val.time, .int .i64 E.val.node, .bool E.val.dead, .string ⟨E.val.text.toArray⟩, vp, vm, .int .u64 (E.val.flags.toNat : Int)])
    (hC : ∀ (y : Nat → Value) (w : World), Below w0.heap.size w0 w → Calls Try.prog 19 #[.pointer (some ⟨g, 0, none⟩), .string ⟨E.key.toArray⟩] w fun e w' => ∃ v, e = .returned v ∧ Q .normal { tmps := ([27, 28, 29, 30, 31, 32].foldl (fun t s => t.setIfInBounds s (y s)) a0.tmps).setIfInBounds 32 v, defers := a0.defers } w') :
    (Code.region 7 pu3Ops true).wp Try.prog Q a0 w0 := by
  refine wp_region_cov 5 mixed (by rw [hsz]; kernel_rfl) (by kernel_rfl) ?_
  rw [show pu3Ops.size - 5 = 1 by kernel_rfl]
  refine ⟨isVal (.pointer (some ⟨g, 0, none⟩)), step_move (.tmp 5) (by kernel_rfl) (wanted_none (by kernel_rfl)) (stable_val _) (knows_old 5 (.pointer (some ⟨g, 0, none⟩)) (by kernel_rfl) e5), ?_⟩
  refine ⟨isVal (.pointer (some ⟨g, 0, none⟩)), step_nilP (.tmp 27) ⟨g, 0, none⟩ (by kernel_rfl) (wanted_none (by kernel_rfl)) (knows_new (V := isVal (.pointer (some ⟨g, 0, none⟩))) 27 0 (by kernel_rfl) (by kernel_rfl) (by kernel_rfl)), ?_⟩
  refine ⟨isVal (.pointer (some ⟨g, 0, none⟩)), step_field 48 (.tmp 28) 0 ⟨g, 0, none⟩ ⟨g, 0, none⟩ (by kernel_rfl) (wanted_none (by kernel_rfl)) (knows_new (V := isVal (.pointer (some ⟨g, 0, none⟩))) 28 1 (by kernel_rfl) (by kernel_rfl) (by kernel_rfl)) (field_wr g 0 (by omega)), ?_⟩
  refine ⟨isVal (.pointer (some ⟨b, 0, none⟩)), step_field 27 (.tmp 1) 0 ⟨b, 0, none⟩ ⟨b, 0, none⟩ (by kernel_rfl) (wanted_none (by kernel_rfl)) (knows_old 1 (.pointer (some ⟨b, 0, none⟩)) (by kernel_rfl) e1) (field_en b 0 (by omega)), ?_⟩
  refine ⟨isVal (.string ⟨E.key.toArray⟩), step_read 9 (.tmp 30) ⟨b, 0, none⟩ (.string ⟨E.key.toArray⟩) (by kernel_rfl) (wanted_none (by kernel_rfl)) (knows_new (V := isVal (.pointer (some ⟨b, 0, none⟩))) 30 3 (by kernel_rfl) (by kernel_rfl) (by kernel_rfl)) (hc.2 0 _ rfl) hc.1 agg_str, ?_⟩
  intro a w hkp hb hd
  have d29 : a.eval (.tmp 29) = _ := fdone_of (hd 2 (by decide)) (t := 29) (V := isVal (.pointer (some ⟨g, 0, none⟩))) (by kernel_rfl) (by kernel_rfl)
  have d31 : a.eval (.tmp 31) = _ := fdone_of (hd 4 (by decide)) (t := 31) (V := isVal (.string ⟨E.key.toArray⟩)) (by kernel_rfl) (by kernel_rfl)
  refine tail_call 19 #[.tmp 29, .tmp 31] #[46, 9] #[.pointer (some ⟨g, 0, none⟩), .string ⟨E.key.toArray⟩] 32 (by kernel_rfl) (by kernel_rfl) (by simp only [List.map_toArray, List.map_cons, List.map_nil, d29, d31]; try rfl) (enters_of Try.func19 (by kernel_rfl) rfl) ?_
  obtain ⟨y, ey⟩ := kept_ex hkp [some 27, some 28, some 29, some 30, some 31, some 32] [27, 28, 29, 30, 31, 32] (by kernel_rfl) (by decide)
  refine (hC y w hb).mono ?_
  rintro e w' ⟨v, rfl, hq⟩
  exact ⟨v, rfl, put_kept ey hq⟩
noncomputable def pk1Ops : Array Oper := regionOf Try.f9 9
set_option maxRecDepth 100000 in
set_option maxHeartbeats 2000000 in
theorem pk1_region (Q : Exit → Act → World → Prop) (a0 : Act) (w0 : World) (hsz : a0.tmps.size = 54) (E : En) (g b : Nat) (vp vm : Value) (e5 : a0.tmps.getD 5 undef = .pointer (some ⟨g, 0, none⟩)) (e1 : a0.tmps.getD 1 undef = .pointer (some ⟨b, 0, none⟩)) (hc : CellsN w0 b [.string ⟨E.key.toArray⟩, .int .i64 E.val.kind, .int .i64 E.val.time, .int .i64 E.val.node, .bool E.val.dead, .string ⟨E.val.text.toArray⟩, vp, vm, .int .u64 (E.val.flags.toNat : Int)]) (hk : E.val.kind = 1)
    (hC : ∀ (y : Nat → Value) (w : World), Below w0.heap.size w0 w → Calls Try.prog 29 #[.pointer (some ⟨g, 0, none⟩), .agg #[.int .i64 E.val.kind, .int .i64 E.val.time, .int .i64 E.val.node, .bool E.val.dead, .string ⟨E.val.text.toArray⟩, vp, vm, .int .u64 (E.val.flags.toNat : Int)]] w fun e w' => ∃ v, e = .returned v ∧ Q .normal { tmps := ([37, 38, 39, 40, 41, 42, 43, 44, 45].foldl (fun t s => t.setIfInBounds s (y s)) a0.tmps).setIfInBounds 45 v, defers := a0.defers } w') :
    (Code.region 9 pk1Ops true).wp Try.prog Q a0 w0 := by
  refine wp_region_cov 8 mixed (by rw [hsz]; kernel_rfl) (by kernel_rfl) ?_
  rw [show pk1Ops.size - 8 = 1 by kernel_rfl]
  refine ⟨isVal (.pointer (some ⟨g, 0, none⟩)), step_move (.tmp 5) (by kernel_rfl) (wanted_none (by kernel_rfl)) (stable_val _) (knows_old 5 (.pointer (some ⟨g, 0, none⟩)) (by kernel_rfl) e5), ?_⟩
  refine ⟨(isKinds g), step_call 21 #[.tmp 37] #[45] #[.pointer (some ⟨g, 0, none⟩)] (by kernel_rfl) (wanted_none (by kernel_rfl)) (stable_kinds g) (args1 (.tmp 37) (.pointer (some ⟨g, 0, none⟩)) (knows_new (V := isVal (.pointer (some ⟨g, 0, none⟩))) 37 0 (by kernel_rfl) (by kernel_rfl) (by kernel_rfl))) (enters_of Try.func21 (by kernel_rfl) rfl) (by intro w hb; exact kinds_any g w), ?_⟩
  refine ⟨isVal (.pointer (some ⟨b, 1, none⟩)), step_field 27 (.tmp 1) 1 ⟨b, 0, none⟩ ⟨b, 1, none⟩ (by kernel_rfl) (wanted_none (by kernel_rfl)) (knows_old 1 (.pointer (some ⟨b, 0, none⟩)) (by kernel_rfl) e1) (field_en b 1 (by omega)), ?_⟩
  refine ⟨isVal (.pointer (some ⟨b, 1, none⟩)), step_field 25 (.tmp 39) 0 ⟨b, 1, none⟩ ⟨b, 1, none⟩ (by kernel_rfl) (wanted_none (by kernel_rfl)) (knows_new (V := isVal (.pointer (some ⟨b, 1, none⟩))) 39 2 (by kernel_rfl) (by kernel_rfl) (by kernel_rfl)) (field_va1 b 0 (by omega)), ?_⟩
  refine ⟨isVal (.int .i64 E.val.kind), step_read 3 (.tmp 40) ⟨b, 1, none⟩ (.int .i64 E.val.kind) (by kernel_rfl) (wanted_none (by kernel_rfl)) (knows_new (V := isVal (.pointer (some ⟨b, 1, none⟩))) 40 3 (by kernel_rfl) (by kernel_rfl) (by kernel_rfl)) (hc.2 1 _ rfl) hc.1 agg_int, ?_⟩
  refine ⟨isVal (.func (.func 29) #[.pointer (some ⟨g, 0, none⟩)] #[]), step_find 53 (.tmp 38) (.tmp 41) g _ (.func (.func 29) #[.pointer (some ⟨g, 0, none⟩)] #[]) (by kernel_rfl) (wanted_none (by kernel_rfl)) (knows_new (V := (isKinds g)) 38 1 (by kernel_rfl) (by kernel_rfl) (by kernel_rfl)) (knows_new (V := isVal (.int .i64 E.val.kind)) 41 4 (by kernel_rfl) (by kernel_rfl) (by kernel_rfl)) (by rw [hk]; exact kind_at g 1 _ 0 (by kernel_rfl)), ?_⟩
  refine ⟨isVal (.pointer (some ⟨b, 1, none⟩)), step_field 27 (.tmp 1) 1 ⟨b, 0, none⟩ ⟨b, 1, none⟩ (by kernel_rfl) (wanted_none (by kernel_rfl)) (knows_old 1 (.pointer (some ⟨b, 0, none⟩)) (by kernel_rfl) e1) (field_en b 1 (by omega)), ?_⟩
  refine ⟨isVal (.agg #[.int .i64 E.val.kind, .int .i64 E.val.time, .int .i64 E.val.node, .bool E.val.dead, .string ⟨E.val.text.toArray⟩, vp, vm, .int .u64 (E.val.flags.toNat : Int)]), step_loadO 25 (.tmp 43) (b) _ [.int .i64 E.val.kind, .int .i64 E.val.time, .int .i64 E.val.node, .bool E.val.dead, .string ⟨E.val.text.toArray⟩, vp, vm, .int .u64 (E.val.flags.toNat : Int)] (by kernel_rfl) (wanted_none (by kernel_rfl)) (knows_new (V := isVal (.pointer (some ⟨b, 1, none⟩))) 43 6 (by kernel_rfl) (by kernel_rfl) (by kernel_rfl)) size_va agg_va hc, ?_⟩
  intro a w hkp hb hd
  have d44 : a.eval (.tmp 44) = _ := fdone_of (hd 7 (by decide)) (t := 44) (V := isVal (.agg #[.int .i64 E.val.kind, .int .i64 E.val.time, .int .i64 E.val.node, .bool E.val.dead, .string ⟨E.val.text.toArray⟩, vp, vm, .int .u64 (E.val.flags.toNat : Int)])) (by kernel_rfl) (by kernel_rfl)
  have d42 : a.eval (.tmp 42) = _ := fdone_of (hd 5 (by decide)) (t := 42) (V := isVal (.func (.func 29) #[.pointer (some ⟨g, 0, none⟩)] #[])) (by kernel_rfl) (by kernel_rfl)
  refine tail_callV (.tmp 42) 29 #[.pointer (some ⟨g, 0, none⟩)] #[.tmp 44] #[25] #[.agg #[.int .i64 E.val.kind, .int .i64 E.val.time, .int .i64 E.val.node, .bool E.val.dead, .string ⟨E.val.text.toArray⟩, vp, vm, .int .u64 (E.val.flags.toNat : Int)]] 45 (by kernel_rfl) (by kernel_rfl) d42 (by simp only [List.map_toArray, List.map_cons, List.map_nil, d44, d42]) (enters_of Try.func29 (by kernel_rfl) rfl) ?_
  obtain ⟨y, ey⟩ := kept_ex hkp [some 37, some 38, some 39, some 40, some 41, some 42, some 43, some 44, some 45] [37, 38, 39, 40, 41, 42, 43, 44, 45] (by kernel_rfl) (by decide)
  refine (hC y w hb).mono ?_
  rintro e w' ⟨v, rfl, hq⟩
  exact ⟨v, rfl, put_kept ey hq⟩
noncomputable def pk2Ops : Array Oper := regionOf Try.f9 9
set_option maxRecDepth 100000 in
set_option maxHeartbeats 2000000 in
theorem pk2_region (Q : Exit → Act → World → Prop) (a0 : Act) (w0 : World) (hsz : a0.tmps.size = 54) (E : En) (g b : Nat) (vp vm : Value) (e5 : a0.tmps.getD 5 undef = .pointer (some ⟨g, 0, none⟩)) (e1 : a0.tmps.getD 1 undef = .pointer (some ⟨b, 0, none⟩)) (hc : CellsN w0 b [.string ⟨E.key.toArray⟩, .int .i64 E.val.kind, .int .i64 E.val.time, .int .i64 E.val.node, .bool E.val.dead, .string ⟨E.val.text.toArray⟩, vp, vm, .int .u64 (E.val.flags.toNat : Int)]) (hk : E.val.kind = 2)
    (hC : ∀ (y : Nat → Value) (w : World), Below w0.heap.size w0 w → Calls Try.prog 30 #[.pointer (some ⟨g, 0, none⟩), .agg #[.int .i64 E.val.kind, .int .i64 E.val.time, .int .i64 E.val.node, .bool E.val.dead, .string ⟨E.val.text.toArray⟩, vp, vm, .int .u64 (E.val.flags.toNat : Int)]] w fun e w' => ∃ v, e = .returned v ∧ Q .normal { tmps := ([37, 38, 39, 40, 41, 42, 43, 44, 45].foldl (fun t s => t.setIfInBounds s (y s)) a0.tmps).setIfInBounds 45 v, defers := a0.defers } w') :
    (Code.region 9 pk2Ops true).wp Try.prog Q a0 w0 := by
  refine wp_region_cov 8 mixed (by rw [hsz]; kernel_rfl) (by kernel_rfl) ?_
  rw [show pk2Ops.size - 8 = 1 by kernel_rfl]
  refine ⟨isVal (.pointer (some ⟨g, 0, none⟩)), step_move (.tmp 5) (by kernel_rfl) (wanted_none (by kernel_rfl)) (stable_val _) (knows_old 5 (.pointer (some ⟨g, 0, none⟩)) (by kernel_rfl) e5), ?_⟩
  refine ⟨(isKinds g), step_call 21 #[.tmp 37] #[45] #[.pointer (some ⟨g, 0, none⟩)] (by kernel_rfl) (wanted_none (by kernel_rfl)) (stable_kinds g) (args1 (.tmp 37) (.pointer (some ⟨g, 0, none⟩)) (knows_new (V := isVal (.pointer (some ⟨g, 0, none⟩))) 37 0 (by kernel_rfl) (by kernel_rfl) (by kernel_rfl))) (enters_of Try.func21 (by kernel_rfl) rfl) (by intro w hb; exact kinds_any g w), ?_⟩
  refine ⟨isVal (.pointer (some ⟨b, 1, none⟩)), step_field 27 (.tmp 1) 1 ⟨b, 0, none⟩ ⟨b, 1, none⟩ (by kernel_rfl) (wanted_none (by kernel_rfl)) (knows_old 1 (.pointer (some ⟨b, 0, none⟩)) (by kernel_rfl) e1) (field_en b 1 (by omega)), ?_⟩
  refine ⟨isVal (.pointer (some ⟨b, 1, none⟩)), step_field 25 (.tmp 39) 0 ⟨b, 1, none⟩ ⟨b, 1, none⟩ (by kernel_rfl) (wanted_none (by kernel_rfl)) (knows_new (V := isVal (.pointer (some ⟨b, 1, none⟩))) 39 2 (by kernel_rfl) (by kernel_rfl) (by kernel_rfl)) (field_va1 b 0 (by omega)), ?_⟩
  refine ⟨isVal (.int .i64 E.val.kind), step_read 3 (.tmp 40) ⟨b, 1, none⟩ (.int .i64 E.val.kind) (by kernel_rfl) (wanted_none (by kernel_rfl)) (knows_new (V := isVal (.pointer (some ⟨b, 1, none⟩))) 40 3 (by kernel_rfl) (by kernel_rfl) (by kernel_rfl)) (hc.2 1 _ rfl) hc.1 agg_int, ?_⟩
  refine ⟨isVal (.func (.func 30) #[.pointer (some ⟨g, 0, none⟩)] #[]), step_find 53 (.tmp 38) (.tmp 41) g _ (.func (.func 30) #[.pointer (some ⟨g, 0, none⟩)] #[]) (by kernel_rfl) (wanted_none (by kernel_rfl)) (knows_new (V := (isKinds g)) 38 1 (by kernel_rfl) (by kernel_rfl) (by kernel_rfl)) (knows_new (V := isVal (.int .i64 E.val.kind)) 41 4 (by kernel_rfl) (by kernel_rfl) (by kernel_rfl)) (by rw [hk]; exact kind_at g 2 _ 1 (by kernel_rfl)), ?_⟩
  refine ⟨isVal (.pointer (some ⟨b, 1, none⟩)), step_field 27 (.tmp 1) 1 ⟨b, 0, none⟩ ⟨b, 1, none⟩ (by kernel_rfl) (wanted_none (by kernel_rfl)) (knows_old 1 (.pointer (some ⟨b, 0, none⟩)) (by kernel_rfl) e1) (field_en b 1 (by omega)), ?_⟩
  refine ⟨isVal (.agg #[.int .i64 E.val.kind, .int .i64 E.val.time, .int .i64 E.val.node, .bool E.val.dead, .string ⟨E.val.text.toArray⟩, vp, vm, .int .u64 (E.val.flags.toNat : Int)]), step_loadO 25 (.tmp 43) (b) _ [.int .i64 E.val.kind, .int .i64 E.val.time, .int .i64 E.val.node, .bool E.val.dead, .string ⟨E.val.text.toArray⟩, vp, vm, .int .u64 (E.val.flags.toNat : Int)] (by kernel_rfl) (wanted_none (by kernel_rfl)) (knows_new (V := isVal (.pointer (some ⟨b, 1, none⟩))) 43 6 (by kernel_rfl) (by kernel_rfl) (by kernel_rfl)) size_va agg_va hc, ?_⟩
  intro a w hkp hb hd
  have d44 : a.eval (.tmp 44) = _ := fdone_of (hd 7 (by decide)) (t := 44) (V := isVal (.agg #[.int .i64 E.val.kind, .int .i64 E.val.time, .int .i64 E.val.node, .bool E.val.dead, .string ⟨E.val.text.toArray⟩, vp, vm, .int .u64 (E.val.flags.toNat : Int)])) (by kernel_rfl) (by kernel_rfl)
  have d42 : a.eval (.tmp 42) = _ := fdone_of (hd 5 (by decide)) (t := 42) (V := isVal (.func (.func 30) #[.pointer (some ⟨g, 0, none⟩)] #[])) (by kernel_rfl) (by kernel_rfl)
  refine tail_callV (.tmp 42) 30 #[.pointer (some ⟨g, 0, none⟩)] #[.tmp 44] #[25] #[.agg #[.int .i64 E.val.kind, .int .i64 E.val.time, .int .i64 E.val.node, .bool E.val.dead, .string ⟨E.val.text.toArray⟩, vp, vm, .int .u64 (E.val.flags.toNat : Int)]] 45 (by kernel_rfl) (by kernel_rfl) d42 (by simp only [List.map_toArray, List.map_cons, List.map_nil, d44, d42]) (enters_of Try.func30 (by kernel_rfl) rfl) ?_
  obtain ⟨y, ey⟩ := kept_ex hkp [some 37, some 38, some 39, some 40, some 41, some 42, some 43, some 44, some 45] [37, 38, 39, 40, 41, 42, 43, 44, 45] (by kernel_rfl) (by decide)
  refine (hC y w hb).mono ?_
  rintro e w' ⟨v, rfl, hq⟩
  exact ⟨v, rfl, put_kept ey hq⟩
noncomputable def pk3Ops : Array Oper := regionOf Try.f9 9
set_option maxRecDepth 100000 in
set_option maxHeartbeats 2000000 in
theorem pk3_region (Q : Exit → Act → World → Prop) (a0 : Act) (w0 : World) (hsz : a0.tmps.size = 54) (E : En) (g b : Nat) (vp vm : Value) (e5 : a0.tmps.getD 5 undef = .pointer (some ⟨g, 0, none⟩)) (e1 : a0.tmps.getD 1 undef = .pointer (some ⟨b, 0, none⟩)) (hc : CellsN w0 b [.string ⟨E.key.toArray⟩, .int .i64 E.val.kind, .int .i64 E.val.time, .int .i64 E.val.node, .bool E.val.dead, .string ⟨E.val.text.toArray⟩, vp, vm, .int .u64 (E.val.flags.toNat : Int)]) (hk : E.val.kind = 3)
    (hC : ∀ (y : Nat → Value) (w : World), Below w0.heap.size w0 w → Calls Try.prog 31 #[.pointer (some ⟨g, 0, none⟩), .agg #[.int .i64 E.val.kind, .int .i64 E.val.time, .int .i64 E.val.node, .bool E.val.dead, .string ⟨E.val.text.toArray⟩, vp, vm, .int .u64 (E.val.flags.toNat : Int)]] w fun e w' => ∃ v, e = .returned v ∧ Q .normal { tmps := ([37, 38, 39, 40, 41, 42, 43, 44, 45].foldl (fun t s => t.setIfInBounds s (y s)) a0.tmps).setIfInBounds 45 v, defers := a0.defers } w') :
    (Code.region 9 pk3Ops true).wp Try.prog Q a0 w0 := by
  refine wp_region_cov 8 mixed (by rw [hsz]; kernel_rfl) (by kernel_rfl) ?_
  rw [show pk3Ops.size - 8 = 1 by kernel_rfl]
  refine ⟨isVal (.pointer (some ⟨g, 0, none⟩)), step_move (.tmp 5) (by kernel_rfl) (wanted_none (by kernel_rfl)) (stable_val _) (knows_old 5 (.pointer (some ⟨g, 0, none⟩)) (by kernel_rfl) e5), ?_⟩
  refine ⟨(isKinds g), step_call 21 #[.tmp 37] #[45] #[.pointer (some ⟨g, 0, none⟩)] (by kernel_rfl) (wanted_none (by kernel_rfl)) (stable_kinds g) (args1 (.tmp 37) (.pointer (some ⟨g, 0, none⟩)) (knows_new (V := isVal (.pointer (some ⟨g, 0, none⟩))) 37 0 (by kernel_rfl) (by kernel_rfl) (by kernel_rfl))) (enters_of Try.func21 (by kernel_rfl) rfl) (by intro w hb; exact kinds_any g w), ?_⟩
  refine ⟨isVal (.pointer (some ⟨b, 1, none⟩)), step_field 27 (.tmp 1) 1 ⟨b, 0, none⟩ ⟨b, 1, none⟩ (by kernel_rfl) (wanted_none (by kernel_rfl)) (knows_old 1 (.pointer (some ⟨b, 0, none⟩)) (by kernel_rfl) e1) (field_en b 1 (by omega)), ?_⟩
  refine ⟨isVal (.pointer (some ⟨b, 1, none⟩)), step_field 25 (.tmp 39) 0 ⟨b, 1, none⟩ ⟨b, 1, none⟩ (by kernel_rfl) (wanted_none (by kernel_rfl)) (knows_new (V := isVal (.pointer (some ⟨b, 1, none⟩))) 39 2 (by kernel_rfl) (by kernel_rfl) (by kernel_rfl)) (field_va1 b 0 (by omega)), ?_⟩
  refine ⟨isVal (.int .i64 E.val.kind), step_read 3 (.tmp 40) ⟨b, 1, none⟩ (.int .i64 E.val.kind) (by kernel_rfl) (wanted_none (by kernel_rfl)) (knows_new (V := isVal (.pointer (some ⟨b, 1, none⟩))) 40 3 (by kernel_rfl) (by kernel_rfl) (by kernel_rfl)) (hc.2 1 _ rfl) hc.1 agg_int, ?_⟩
  refine ⟨isVal (.func (.func 31) #[.pointer (some ⟨g, 0, none⟩)] #[]), step_find 53 (.tmp 38) (.tmp 41) g _ (.func (.func 31) #[.pointer (some ⟨g, 0, none⟩)] #[]) (by kernel_rfl) (wanted_none (by kernel_rfl)) (knows_new (V := (isKinds g)) 38 1 (by kernel_rfl) (by kernel_rfl) (by kernel_rfl)) (knows_new (V := isVal (.int .i64 E.val.kind)) 41 4 (by kernel_rfl) (by kernel_rfl) (by kernel_rfl)) (by rw [hk]; exact kind_at g 3 _ 2 (by kernel_rfl)), ?_⟩
  refine ⟨isVal (.pointer (some ⟨b, 1, none⟩)), step_field 27 (.tmp 1) 1 ⟨b, 0, none⟩ ⟨b, 1, none⟩ (by kernel_rfl) (wanted_none (by kernel_rfl)) (knows_old 1 (.pointer (some ⟨b, 0, none⟩)) (by kernel_rfl) e1) (field_en b 1 (by omega)), ?_⟩
  refine ⟨isVal (.agg #[.int .i64 E.val.kind, .int .i64 E.val.time, .int .i64 E.val.node, .bool E.val.dead, .string ⟨E.val.text.toArray⟩, vp, vm, .int .u64 (E.val.flags.toNat : Int)]), step_loadO 25 (.tmp 43) (b) _ [.int .i64 E.val.kind, .int .i64 E.val.time, .int .i64 E.val.node, .bool E.val.dead, .string ⟨E.val.text.toArray⟩, vp, vm, .int .u64 (E.val.flags.toNat : Int)] (by kernel_rfl) (wanted_none (by kernel_rfl)) (knows_new (V := isVal (.pointer (some ⟨b, 1, none⟩))) 43 6 (by kernel_rfl) (by kernel_rfl) (by kernel_rfl)) size_va agg_va hc, ?_⟩
  intro a w hkp hb hd
  have d44 : a.eval (.tmp 44) = _ := fdone_of (hd 7 (by decide)) (t := 44) (V := isVal (.agg #[.int .i64 E.val.kind, .int .i64 E.val.time, .int .i64 E.val.node, .bool E.val.dead, .string ⟨E.val.text.toArray⟩, vp, vm, .int .u64 (E.val.flags.toNat : Int)])) (by kernel_rfl) (by kernel_rfl)
  have d42 : a.eval (.tmp 42) = _ := fdone_of (hd 5 (by decide)) (t := 42) (V := isVal (.func (.func 31) #[.pointer (some ⟨g, 0, none⟩)] #[])) (by kernel_rfl) (by kernel_rfl)
  refine tail_callV (.tmp 42) 31 #[.pointer (some ⟨g, 0, none⟩)] #[.tmp 44] #[25] #[.agg #[.int .i64 E.val.kind, .int .i64 E.val.time, .int .i64 E.val.node, .bool E.val.dead, .string ⟨E.val.text.toArray⟩, vp, vm, .int .u64 (E.val.flags.toNat : Int)]] 45 (by kernel_rfl) (by kernel_rfl) d42 (by simp only [List.map_toArray, List.map_cons, List.map_nil, d44, d42]) (enters_of Try.func31 (by kernel_rfl) rfl) ?_
  obtain ⟨y, ey⟩ := kept_ex hkp [some 37, some 38, some 39, some 40, some 41, some 42, some 43, some 44, some 45] [37, 38, 39, 40, 41, 42, 43, 44, 45] (by kernel_rfl) (by decide)
  refine (hC y w hb).mono ?_
  rintro e w' ⟨v, rfl, hq⟩
  exact ⟨v, rfl, put_kept ey hq⟩
set_option maxRecDepth 100000 in
set_option maxHeartbeats 4000000 in
theorem eput_bad (E : En) (v : Value) (w : World) (hv : isEn E v w) (hF : FitE E) (hok : okE E = false) : Calls Try.prog 9 #[v] w fun e w' => e = .returned (.tuple #[txt (putF E), .int .i64 (chkE E)]) ∧ Below w.heap.size w w' := by
  have HO := Kept.mk hok
  clear hok
  obtain ⟨vp, vm, rfl, hp, hm⟩ := hv
  have HB := Kept.mk (lit_below w (.cells #[.string ⟨E.key.toArray⟩, .int .i64 E.val.kind, .int .i64 E.val.time, .int .i64 E.val.node, .bool E.val.dead, .string ⟨E.val.text.toArray⟩, vp, vm, .int .u64 (E.val.flags.toNat : Int)] 27))
  have HV := Kept.mk (Blk.new w 27 [.string ⟨E.key.toArray⟩, .int .i64 E.val.kind, .int .i64 E.val.time, .int .i64 E.val.node, .bool E.val.dead, .string ⟨E.val.text.toArray⟩, vp, vm, .int .u64 (E.val.flags.toNat : Int)] w.heap.size rfl)
  have HP := Kept.mk hp
  have HM := Kept.mk hm
  clear hp hm
  have kv0 := HV.out.cells.2 0 _ rfl
  have kv1 := HV.out.cells.2 1 _ rfl
  have kv2 := HV.out.cells.2 2 _ rfl
  have kv3 := HV.out.cells.2 3 _ rfl
  have kv4 := HV.out.cells.2 4 _ rfl
  have kv5 := HV.out.cells.2 5 _ rfl
  have kv6 := HV.out.cells.2 6 _ rfl
  have kv7 := HV.out.cells.2 7 _ rfl
  have kv8 := HV.out.cells.2 8 _ rfl
  go_enter Try.func9, Try.ntmps9
  go_wp2_with fail
  clear kv0 kv1 kv2 kv3 kv4 kv5 kv6 kv7 kv8
  generalize w.alloc (.cells #[.string ⟨E.key.toArray⟩, .int .i64 E.val.kind, .int .i64 E.val.time, .int .i64 E.val.node, .bool E.val.dead, .string ⟨E.val.text.toArray⟩, vp, vm, .int .u64 (E.val.flags.toNat : Int)] 27) = W0 at *
  have hs0 := HV.out.lt
  refine (echeck_any E _ W0 ⟨vp, vm, rfl, stable_cells _ _ _ _ HP.out HB.out, stable_cells _ _ _ _ HM.out HB.out⟩ hF).mono ?_
  rintro e W1 ⟨rfl, hb⟩
  replace HV := Kept.mk (HV.out.keep hb)
  replace HB := Kept.mk (HB.out.trans (hb.mono HB.out.size))
  have hs1 := hb.size
  clear hb
  have hC : chkE E = 2 := by unfold chkE; rw [HO.out]; rfl
  rw [hC]
  have HC := Kept.mk hC
  clear hC
  go_wp2
  go_ret2
  have e1 : putF E = [] := by unfold putF; rw [HO.out]; rfl
  refine ⟨?_, HB.out⟩
  rw [e1, HC.out]
  rfl
set_option maxRecDepth 100000 in
set_option maxHeartbeats 4000000 in
theorem eput_1 (E : En) (v : Value) (w : World) (hv : isEn E v w) (hF : FitE E) (hok : okE E = true) (hk : E.val.kind = 1) : Calls Try.prog 9 #[v] w fun e w' => e = .returned (.tuple #[txt (putF E), .int .i64 (chkE E)]) ∧ Below w.heap.size w w' := by
  have HO := Kept.mk hok
  have HK := Kept.mk hk
  have hl := length_head hok
  have HL := Kept.mk (length_putEn hok)
  have hdl := (length_data_le (show okV E.val = true by unfold okE at hok; rw [Bool.and_eq_true] at hok; exact hok.2)).1
  have hkl : 1 ≤ E.key.length ∧ E.key.length ≤ 8 := by simp only [okE, Bool.and_eq_true, decide_eq_true_eq] at hok; exact hok.1
  have HI := Kept.mk (show inReg E.val = true by unfold okE okV kindN at hok; rw [if_pos hk] at hok; rw [Bool.and_eq_true] at hok; have h2 := hok.2; split at h2; rename_i h3; rw [Bool.and_eq_true] at h3; exact h3.1; simp at h2)
  have hkz : 0 ≤ E.val.kind ∧ E.val.kind ≤ 3 := by omega
  clear hok hk
  obtain ⟨vp, vm, rfl, hp, hm⟩ := hv
  have HB := Kept.mk (lit_below w (.cells #[.string ⟨E.key.toArray⟩, .int .i64 E.val.kind, .int .i64 E.val.time, .int .i64 E.val.node, .bool E.val.dead, .string ⟨E.val.text.toArray⟩, vp, vm, .int .u64 (E.val.flags.toNat : Int)] 27))
  have HV := Kept.mk (Blk.new w 27 [.string ⟨E.key.toArray⟩, .int .i64 E.val.kind, .int .i64 E.val.time, .int .i64 E.val.node, .bool E.val.dead, .string ⟨E.val.text.toArray⟩, vp, vm, .int .u64 (E.val.flags.toNat : Int)] w.heap.size rfl)
  have HP := Kept.mk hp
  have HM := Kept.mk hm
  clear hp hm
  have kv0 := HV.out.cells.2 0 _ rfl
  have kv1 := HV.out.cells.2 1 _ rfl
  have kv2 := HV.out.cells.2 2 _ rfl
  have kv3 := HV.out.cells.2 3 _ rfl
  have kv4 := HV.out.cells.2 4 _ rfl
  have kv5 := HV.out.cells.2 5 _ rfl
  have kv6 := HV.out.cells.2 6 _ rfl
  have kv7 := HV.out.cells.2 7 _ rfl
  have kv8 := HV.out.cells.2 8 _ rfl
  go_enter Try.func9, Try.ntmps9
  go_wp2_with fail
  clear kv0 kv1 kv2 kv3 kv4 kv5 kv6 kv7 kv8
  generalize w.alloc (.cells #[.string ⟨E.key.toArray⟩, .int .i64 E.val.kind, .int .i64 E.val.time, .int .i64 E.val.node, .bool E.val.dead, .string ⟨E.val.text.toArray⟩, vp, vm, .int .u64 (E.val.flags.toNat : Int)] 27) = W0 at *
  have hs0 := HV.out.lt
  refine (echeck_any E _ W0 ⟨vp, vm, rfl, stable_cells _ _ _ _ HP.out HB.out, stable_cells _ _ _ _ HM.out HB.out⟩ hF).mono ?_
  rintro e W1 ⟨rfl, hb⟩
  replace HV := Kept.mk (HV.out.keep hb)
  replace HB := Kept.mk (HB.out.trans (hb.mono HB.out.size))
  have hs1 := hb.size
  clear hb
  have hC : chkE E = 0 := by unfold chkE; rw [HO.out]; rfl
  rw [hC]
  have HC := Kept.mk hC
  clear hC
  go_wp2_with fail
  have HW := Kept.mk (Wr.refl (show At (W1.alloc (.cells #[.string ⟨#[]⟩] 48)) W1.heap.size (txt []) from (fun b => ⟨b.cells.2 0 _ rfl, b.free 0, b.lt⟩) (Blk.new W1 48 [.string ⟨#[]⟩] W1.heap.size rfl)))
  replace HV := Kept.mk (HV.out.alloc (.cells #[.string ⟨#[]⟩] 48))
  replace HB := Kept.mk (HB.out.alloc HB.out.size (.cells #[.string ⟨#[]⟩] 48))
  generalize hW2 : W1.alloc (.cells #[.string ⟨#[]⟩] 48) = W2 at *
  clear hW2
  generalize hg : W1.heap.size = g at *
  clear hg
  refine pu1_region _ _ _ rfl E g w.heap.size vp vm rfl rfl HV.out.cells ?_
  intro y9 W9 hb9
  replace HW := Kept.mk (HW.out.then_ hb9)
  replace HV := Kept.mk (HV.out.keep hb9)
  replace HB := Kept.mk (HB.out.trans (hb9.mono HB.out.size))
  have hs9 := hb9.size
  clear hb9
  refine (number_z g [] E.val.kind 1 W9 HW.out.at_ (by simp) hkz.1 (by omega) (by omega) (by omega) (by show _ < 256; omega)).mono ?_
  rintro e W3 ⟨rfl, hw⟩
  replace HW := Kept.mk (HW.out.trans hw)
  replace HV := Kept.mk (HV.out.wr hw (by omega))
  replace HB := Kept.mk (HB.out.trans (hw.below (by omega) (by have := HB.out.size; omega)))
  clear hw hs9
  refine ⟨_, rfl, ?_⟩
  simp only [List.foldl_cons, List.foldl_nil]
  generalize y9 13 = z13
  generalize y9 14 = z14
  generalize y9 15 = z15
  generalize y9 16 = z16
  generalize y9 17 = z17
  generalize y9 18 = z18
  generalize y9 19 = z19
  simp only [List.setIfInBounds_toArray, List.set_cons_succ, List.set_cons_zero]
  clear y9
  go_wp2_with fail
  rw [List.nil_append] at HW
  refine pu2_region _ _ _ rfl E g w.heap.size vp vm rfl rfl HV.out.cells ?_
  intro y9 W9 hb9
  replace HW := Kept.mk (HW.out.then_ hb9)
  replace HV := Kept.mk (HV.out.keep hb9)
  replace HB := Kept.mk (HB.out.trans (hb9.mono HB.out.size))
  have hs9 := hb9.size
  clear hb9
  refine (number_z g (putL E.val.kind.toNat 1) (E.key.length : Int) 1 W9 HW.out.at_ (by rw [length_putL]; omega) (by omega) (by omega) (by omega) (by omega) (by show _ < 256; omega)).mono ?_
  rintro e W4 ⟨rfl, hw⟩
  replace HW := Kept.mk (HW.out.trans hw)
  replace HV := Kept.mk (HV.out.wr hw (by omega))
  replace HB := Kept.mk (HB.out.trans (hw.below (by omega) (by have := HB.out.size; omega)))
  clear hw hs9
  refine ⟨_, rfl, ?_⟩
  simp only [List.foldl_cons, List.foldl_nil]
  generalize y9 20 = z20
  generalize y9 21 = z21
  generalize y9 22 = z22
  generalize y9 23 = z23
  generalize y9 24 = z24
  generalize y9 25 = z25
  generalize y9 26 = z26
  simp only [List.setIfInBounds_toArray, List.set_cons_succ, List.set_cons_zero]
  clear y9
  go_wp2_with fail
  refine pu3_region _ _ _ rfl E g w.heap.size vp vm rfl rfl HV.out.cells ?_
  intro y9 W9 hb9
  replace HW := Kept.mk (HW.out.then_ hb9)
  replace HV := Kept.mk (HV.out.keep hb9)
  replace HB := Kept.mk (HB.out.trans (hb9.mono HB.out.size))
  have hs9 := hb9.size
  clear hb9
  refine (add_any g (putL E.val.kind.toNat 1 ++ putL (E.key.length : Int).toNat 1) E.key W9 HW.out.at_ (by simp only [List.length_append, length_putL]; omega) (by omega)).mono ?_
  rintro e W5 ⟨rfl, hw⟩
  replace HW := Kept.mk (HW.out.trans hw)
  replace HV := Kept.mk (HV.out.wr hw (by omega))
  replace HB := Kept.mk (HB.out.trans (hw.below (by omega) (by have := HB.out.size; omega)))
  clear hw hs9
  refine ⟨_, rfl, ?_⟩
  simp only [List.foldl_cons, List.foldl_nil]
  generalize y9 27 = z27
  generalize y9 28 = z28
  generalize y9 29 = z29
  generalize y9 30 = z30
  generalize y9 31 = z31
  generalize y9 32 = z32
  simp only [List.setIfInBounds_toArray, List.set_cons_succ, List.set_cons_zero]
  clear y9
  go_wp2_with fail
  refine (fill_any g ((putL E.val.kind.toNat 1 ++ putL (E.key.length : Int).toNat 1) ++ E.key) 10 W5 HW.out.at_ (by simp only [List.length_append, length_putL]; omega) (by omega)).mono ?_
  rintro e W6 ⟨rfl, hw⟩
  replace HW := Kept.mk (HW.out.trans hw)
  replace HV := Kept.mk (HV.out.wr hw (by omega))
  replace HB := Kept.mk (HB.out.trans (hw.below (by omega) (by have := HB.out.size; omega)))
  clear hw
  have eh : ((putL E.val.kind.toNat 1 ++ putL (E.key.length : Int).toNat 1) ++ E.key) ++ zerosL (10 - ((putL E.val.kind.toNat 1 ++ putL (E.key.length : Int).toNat 1) ++ E.key).length) = headL E := by
    have e1 : 10 - ((putL E.val.kind.toNat 1 ++ putL (E.key.length : Int).toNat 1) ++ E.key).length = 8 - E.key.length := by simp only [List.length_append, length_putL]; omega
    rw [e1]
    unfold headL
    simp only [List.append_assoc, Int.toNat_natCast]
  rw [eh] at HW
  clear eh
  go_wp2_with fail
  refine pk1_region _ _ _ rfl E g w.heap.size vp vm rfl rfl HV.out.cells HK.out ?_
  intro y9 W9 hb9
  replace HW := Kept.mk (HW.out.then_ hb9)
  replace HV := Kept.mk (HV.out.keep hb9)
  replace HB := Kept.mk (HB.out.trans (hb9.mono HB.out.size))
  have hs9 := hb9.size
  clear hb9
  refine (wreg_any E.val g (headL E) _ W9 ⟨vp, vm, rfl, stable_cells _ _ _ _ HP.out HB.out, stable_cells _ _ _ _ HM.out HB.out⟩ HW.out.at_ (by omega) HK.out HI.out).mono ?_
  rintro e W7 ⟨rfl, hw⟩
  replace HW := Kept.mk (HW.out.trans hw)
  replace HV := Kept.mk (HV.out.wr hw (by omega))
  replace HB := Kept.mk (HB.out.trans (hw.below (by omega) (by have := HB.out.size; omega)))
  clear hw hs9
  refine ⟨_, rfl, ?_⟩
  simp only [List.foldl_cons, List.foldl_nil]
  generalize y9 37 = z37
  generalize y9 38 = z38
  generalize y9 39 = z39
  generalize y9 40 = z40
  generalize y9 41 = z41
  generalize y9 42 = z42
  generalize y9 43 = z43
  generalize y9 44 = z44
  generalize y9 45 = z45
  simp only [List.setIfInBounds_toArray, List.set_cons_succ, List.set_cons_zero]
  clear y9
  go_wp2_with fail
  refine (fill_any g (headL E ++ dataL E.val) 42 W7 HW.out.at_ (by rw [List.length_append]; omega) (by omega)).mono ?_
  rintro e W8 ⟨rfl, hw⟩
  replace HW := Kept.mk (HW.out.trans hw)
  replace HV := Kept.mk (HV.out.wr hw (by omega))
  replace HB := Kept.mk (HB.out.trans (hw.below (by omega) (by have := HB.out.size; omega)))
  clear hw
  have eh : (headL E ++ dataL E.val) ++ zerosL (42 - (headL E ++ dataL E.val).length) = putEn E := by
    have e1 : 42 - (headL E ++ dataL E.val).length = 32 - (dataL E.val).length := by rw [List.length_append]; omega
    rw [e1]
    unfold putEn
    rw [List.append_assoc]
  rw [eh] at HW
  clear eh
  have kc := HW.out.at_.cell
  go_wp2
  go_ret2
  refine ⟨?_, HB.out⟩
  have e1 : putF E = putEn E := by unfold putF; rw [HO.out]; rfl
  rw [e1, HC.out]
  rfl
set_option maxRecDepth 100000 in
set_option maxHeartbeats 4000000 in
theorem eput_2 (E : En) (v : Value) (w : World) (hv : isEn E v w) (hF : FitE E) (hok : okE E = true) (hk : E.val.kind = 2) : Calls Try.prog 9 #[v] w fun e w' => e = .returned (.tuple #[txt (putF E), .int .i64 (chkE E)]) ∧ Below w.heap.size w w' := by
  have HO := Kept.mk hok
  have HK := Kept.mk hk
  have hl := length_head hok
  have HL := Kept.mk (length_putEn hok)
  have hdl := (length_data_le (show okV E.val = true by unfold okE at hok; rw [Bool.and_eq_true] at hok; exact hok.2)).1
  have hkl : 1 ≤ E.key.length ∧ E.key.length ≤ 8 := by simp only [okE, Bool.and_eq_true, decide_eq_true_eq] at hok; exact hok.1
  have HI := Kept.mk (show inCount E.val = true by unfold okE okV kindN at hok; rw [if_neg (by rw [hk]; decide), if_pos hk] at hok; rw [Bool.and_eq_true] at hok; have h2 := hok.2; split at h2; rename_i h3; rw [Bool.and_eq_true] at h3; exact h3.1; simp at h2)
  have HI2 := Kept.mk (show E.val.plus.length = 8 ∧ E.val.minus.length = 8 by have := HI.out; simp only [inCount, okRow, Bool.and_eq_true, decide_eq_true_eq] at this; exact ⟨this.1.1, this.2.1⟩)
  have hkz : 0 ≤ E.val.kind ∧ E.val.kind ≤ 3 := by omega
  clear hok hk
  obtain ⟨vp, vm, rfl, hp, hm⟩ := hv
  have HB := Kept.mk (lit_below w (.cells #[.string ⟨E.key.toArray⟩, .int .i64 E.val.kind, .int .i64 E.val.time, .int .i64 E.val.node, .bool E.val.dead, .string ⟨E.val.text.toArray⟩, vp, vm, .int .u64 (E.val.flags.toNat : Int)] 27))
  have HV := Kept.mk (Blk.new w 27 [.string ⟨E.key.toArray⟩, .int .i64 E.val.kind, .int .i64 E.val.time, .int .i64 E.val.node, .bool E.val.dead, .string ⟨E.val.text.toArray⟩, vp, vm, .int .u64 (E.val.flags.toNat : Int)] w.heap.size rfl)
  have HP := Kept.mk hp
  have HM := Kept.mk hm
  clear hp hm
  have kv0 := HV.out.cells.2 0 _ rfl
  have kv1 := HV.out.cells.2 1 _ rfl
  have kv2 := HV.out.cells.2 2 _ rfl
  have kv3 := HV.out.cells.2 3 _ rfl
  have kv4 := HV.out.cells.2 4 _ rfl
  have kv5 := HV.out.cells.2 5 _ rfl
  have kv6 := HV.out.cells.2 6 _ rfl
  have kv7 := HV.out.cells.2 7 _ rfl
  have kv8 := HV.out.cells.2 8 _ rfl
  go_enter Try.func9, Try.ntmps9
  go_wp2_with fail
  clear kv0 kv1 kv2 kv3 kv4 kv5 kv6 kv7 kv8
  generalize w.alloc (.cells #[.string ⟨E.key.toArray⟩, .int .i64 E.val.kind, .int .i64 E.val.time, .int .i64 E.val.node, .bool E.val.dead, .string ⟨E.val.text.toArray⟩, vp, vm, .int .u64 (E.val.flags.toNat : Int)] 27) = W0 at *
  have hs0 := HV.out.lt
  refine (echeck_any E _ W0 ⟨vp, vm, rfl, stable_cells _ _ _ _ HP.out HB.out, stable_cells _ _ _ _ HM.out HB.out⟩ hF).mono ?_
  rintro e W1 ⟨rfl, hb⟩
  replace HV := Kept.mk (HV.out.keep hb)
  replace HB := Kept.mk (HB.out.trans (hb.mono HB.out.size))
  have hs1 := hb.size
  clear hb
  have hC : chkE E = 0 := by unfold chkE; rw [HO.out]; rfl
  rw [hC]
  have HC := Kept.mk hC
  clear hC
  go_wp2_with fail
  have HW := Kept.mk (Wr.refl (show At (W1.alloc (.cells #[.string ⟨#[]⟩] 48)) W1.heap.size (txt []) from (fun b => ⟨b.cells.2 0 _ rfl, b.free 0, b.lt⟩) (Blk.new W1 48 [.string ⟨#[]⟩] W1.heap.size rfl)))
  replace HV := Kept.mk (HV.out.alloc (.cells #[.string ⟨#[]⟩] 48))
  replace HB := Kept.mk (HB.out.alloc HB.out.size (.cells #[.string ⟨#[]⟩] 48))
  generalize hW2 : W1.alloc (.cells #[.string ⟨#[]⟩] 48) = W2 at *
  clear hW2
  generalize hg : W1.heap.size = g at *
  clear hg
  refine pu1_region _ _ _ rfl E g w.heap.size vp vm rfl rfl HV.out.cells ?_
  intro y9 W9 hb9
  replace HW := Kept.mk (HW.out.then_ hb9)
  replace HV := Kept.mk (HV.out.keep hb9)
  replace HB := Kept.mk (HB.out.trans (hb9.mono HB.out.size))
  have hs9 := hb9.size
  clear hb9
  refine (number_z g [] E.val.kind 1 W9 HW.out.at_ (by simp) hkz.1 (by omega) (by omega) (by omega) (by show _ < 256; omega)).mono ?_
  rintro e W3 ⟨rfl, hw⟩
  replace HW := Kept.mk (HW.out.trans hw)
  replace HV := Kept.mk (HV.out.wr hw (by omega))
  replace HB := Kept.mk (HB.out.trans (hw.below (by omega) (by have := HB.out.size; omega)))
  clear hw hs9
  refine ⟨_, rfl, ?_⟩
  simp only [List.foldl_cons, List.foldl_nil]
  generalize y9 13 = z13
  generalize y9 14 = z14
  generalize y9 15 = z15
  generalize y9 16 = z16
  generalize y9 17 = z17
  generalize y9 18 = z18
  generalize y9 19 = z19
  simp only [List.setIfInBounds_toArray, List.set_cons_succ, List.set_cons_zero]
  clear y9
  go_wp2_with fail
  rw [List.nil_append] at HW
  refine pu2_region _ _ _ rfl E g w.heap.size vp vm rfl rfl HV.out.cells ?_
  intro y9 W9 hb9
  replace HW := Kept.mk (HW.out.then_ hb9)
  replace HV := Kept.mk (HV.out.keep hb9)
  replace HB := Kept.mk (HB.out.trans (hb9.mono HB.out.size))
  have hs9 := hb9.size
  clear hb9
  refine (number_z g (putL E.val.kind.toNat 1) (E.key.length : Int) 1 W9 HW.out.at_ (by rw [length_putL]; omega) (by omega) (by omega) (by omega) (by omega) (by show _ < 256; omega)).mono ?_
  rintro e W4 ⟨rfl, hw⟩
  replace HW := Kept.mk (HW.out.trans hw)
  replace HV := Kept.mk (HV.out.wr hw (by omega))
  replace HB := Kept.mk (HB.out.trans (hw.below (by omega) (by have := HB.out.size; omega)))
  clear hw hs9
  refine ⟨_, rfl, ?_⟩
  simp only [List.foldl_cons, List.foldl_nil]
  generalize y9 20 = z20
  generalize y9 21 = z21
  generalize y9 22 = z22
  generalize y9 23 = z23
  generalize y9 24 = z24
  generalize y9 25 = z25
  generalize y9 26 = z26
  simp only [List.setIfInBounds_toArray, List.set_cons_succ, List.set_cons_zero]
  clear y9
  go_wp2_with fail
  refine pu3_region _ _ _ rfl E g w.heap.size vp vm rfl rfl HV.out.cells ?_
  intro y9 W9 hb9
  replace HW := Kept.mk (HW.out.then_ hb9)
  replace HV := Kept.mk (HV.out.keep hb9)
  replace HB := Kept.mk (HB.out.trans (hb9.mono HB.out.size))
  have hs9 := hb9.size
  clear hb9
  refine (add_any g (putL E.val.kind.toNat 1 ++ putL (E.key.length : Int).toNat 1) E.key W9 HW.out.at_ (by simp only [List.length_append, length_putL]; omega) (by omega)).mono ?_
  rintro e W5 ⟨rfl, hw⟩
  replace HW := Kept.mk (HW.out.trans hw)
  replace HV := Kept.mk (HV.out.wr hw (by omega))
  replace HB := Kept.mk (HB.out.trans (hw.below (by omega) (by have := HB.out.size; omega)))
  clear hw hs9
  refine ⟨_, rfl, ?_⟩
  simp only [List.foldl_cons, List.foldl_nil]
  generalize y9 27 = z27
  generalize y9 28 = z28
  generalize y9 29 = z29
  generalize y9 30 = z30
  generalize y9 31 = z31
  generalize y9 32 = z32
  simp only [List.setIfInBounds_toArray, List.set_cons_succ, List.set_cons_zero]
  clear y9
  go_wp2_with fail
  refine (fill_any g ((putL E.val.kind.toNat 1 ++ putL (E.key.length : Int).toNat 1) ++ E.key) 10 W5 HW.out.at_ (by simp only [List.length_append, length_putL]; omega) (by omega)).mono ?_
  rintro e W6 ⟨rfl, hw⟩
  replace HW := Kept.mk (HW.out.trans hw)
  replace HV := Kept.mk (HV.out.wr hw (by omega))
  replace HB := Kept.mk (HB.out.trans (hw.below (by omega) (by have := HB.out.size; omega)))
  clear hw
  have eh : ((putL E.val.kind.toNat 1 ++ putL (E.key.length : Int).toNat 1) ++ E.key) ++ zerosL (10 - ((putL E.val.kind.toNat 1 ++ putL (E.key.length : Int).toNat 1) ++ E.key).length) = headL E := by
    have e1 : 10 - ((putL E.val.kind.toNat 1 ++ putL (E.key.length : Int).toNat 1) ++ E.key).length = 8 - E.key.length := by simp only [List.length_append, length_putL]; omega
    rw [e1]
    unfold headL
    simp only [List.append_assoc, Int.toNat_natCast]
  rw [eh] at HW
  clear eh
  go_wp2_with fail
  refine pk2_region _ _ _ rfl E g w.heap.size vp vm rfl rfl HV.out.cells HK.out ?_
  intro y9 W9 hb9
  replace HW := Kept.mk (HW.out.then_ hb9)
  replace HV := Kept.mk (HV.out.keep hb9)
  replace HB := Kept.mk (HB.out.trans (hb9.mono HB.out.size))
  have hs9 := hb9.size
  clear hb9
  refine (wcount_any E.val g (headL E) vp vm W9 (stable_cells _ _ _ _ HP.out HB.out) (stable_cells _ _ _ _ HM.out HB.out) (old_blk HP.out (by rw [List.length_map, HI2.out.1]; omega) (by omega)) (old_blk HM.out (by rw [List.length_map, HI2.out.2]; omega) (by omega)) HW.out.at_ (by omega) HK.out HI.out).mono ?_
  rintro e W7 ⟨rfl, hw⟩
  replace HW := Kept.mk (HW.out.trans hw)
  replace HV := Kept.mk (HV.out.wr hw (by omega))
  replace HB := Kept.mk (HB.out.trans (hw.below (by omega) (by have := HB.out.size; omega)))
  clear hw hs9
  refine ⟨_, rfl, ?_⟩
  simp only [List.foldl_cons, List.foldl_nil]
  generalize y9 37 = z37
  generalize y9 38 = z38
  generalize y9 39 = z39
  generalize y9 40 = z40
  generalize y9 41 = z41
  generalize y9 42 = z42
  generalize y9 43 = z43
  generalize y9 44 = z44
  generalize y9 45 = z45
  simp only [List.setIfInBounds_toArray, List.set_cons_succ, List.set_cons_zero]
  clear y9
  go_wp2_with fail
  refine (fill_any g (headL E ++ dataL E.val) 42 W7 HW.out.at_ (by rw [List.length_append]; omega) (by omega)).mono ?_
  rintro e W8 ⟨rfl, hw⟩
  replace HW := Kept.mk (HW.out.trans hw)
  replace HV := Kept.mk (HV.out.wr hw (by omega))
  replace HB := Kept.mk (HB.out.trans (hw.below (by omega) (by have := HB.out.size; omega)))
  clear hw
  have eh : (headL E ++ dataL E.val) ++ zerosL (42 - (headL E ++ dataL E.val).length) = putEn E := by
    have e1 : 42 - (headL E ++ dataL E.val).length = 32 - (dataL E.val).length := by rw [List.length_append]; omega
    rw [e1]
    unfold putEn
    rw [List.append_assoc]
  rw [eh] at HW
  clear eh
  have kc := HW.out.at_.cell
  go_wp2
  go_ret2
  refine ⟨?_, HB.out⟩
  have e1 : putF E = putEn E := by unfold putF; rw [HO.out]; rfl
  rw [e1, HC.out]
  rfl
set_option maxRecDepth 100000 in
set_option maxHeartbeats 4000000 in
theorem eput_3 (E : En) (v : Value) (w : World) (hv : isEn E v w) (hF : FitE E) (hok : okE E = true) (hk : E.val.kind = 3) : Calls Try.prog 9 #[v] w fun e w' => e = .returned (.tuple #[txt (putF E), .int .i64 (chkE E)]) ∧ Below w.heap.size w w' := by
  have HO := Kept.mk hok
  have HK := Kept.mk hk
  have hl := length_head hok
  have HL := Kept.mk (length_putEn hok)
  have hdl := (length_data_le (show okV E.val = true by unfold okE at hok; rw [Bool.and_eq_true] at hok; exact hok.2)).1
  have hkl : 1 ≤ E.key.length ∧ E.key.length ≤ 8 := by simp only [okE, Bool.and_eq_true, decide_eq_true_eq] at hok; exact hok.1
  have hkz : 0 ≤ E.val.kind ∧ E.val.kind ≤ 3 := by omega
  clear hok hk
  obtain ⟨vp, vm, rfl, hp, hm⟩ := hv
  have HB := Kept.mk (lit_below w (.cells #[.string ⟨E.key.toArray⟩, .int .i64 E.val.kind, .int .i64 E.val.time, .int .i64 E.val.node, .bool E.val.dead, .string ⟨E.val.text.toArray⟩, vp, vm, .int .u64 (E.val.flags.toNat : Int)] 27))
  have HV := Kept.mk (Blk.new w 27 [.string ⟨E.key.toArray⟩, .int .i64 E.val.kind, .int .i64 E.val.time, .int .i64 E.val.node, .bool E.val.dead, .string ⟨E.val.text.toArray⟩, vp, vm, .int .u64 (E.val.flags.toNat : Int)] w.heap.size rfl)
  have HP := Kept.mk hp
  have HM := Kept.mk hm
  clear hp hm
  have kv0 := HV.out.cells.2 0 _ rfl
  have kv1 := HV.out.cells.2 1 _ rfl
  have kv2 := HV.out.cells.2 2 _ rfl
  have kv3 := HV.out.cells.2 3 _ rfl
  have kv4 := HV.out.cells.2 4 _ rfl
  have kv5 := HV.out.cells.2 5 _ rfl
  have kv6 := HV.out.cells.2 6 _ rfl
  have kv7 := HV.out.cells.2 7 _ rfl
  have kv8 := HV.out.cells.2 8 _ rfl
  go_enter Try.func9, Try.ntmps9
  go_wp2_with fail
  clear kv0 kv1 kv2 kv3 kv4 kv5 kv6 kv7 kv8
  generalize w.alloc (.cells #[.string ⟨E.key.toArray⟩, .int .i64 E.val.kind, .int .i64 E.val.time, .int .i64 E.val.node, .bool E.val.dead, .string ⟨E.val.text.toArray⟩, vp, vm, .int .u64 (E.val.flags.toNat : Int)] 27) = W0 at *
  have hs0 := HV.out.lt
  refine (echeck_any E _ W0 ⟨vp, vm, rfl, stable_cells _ _ _ _ HP.out HB.out, stable_cells _ _ _ _ HM.out HB.out⟩ hF).mono ?_
  rintro e W1 ⟨rfl, hb⟩
  replace HV := Kept.mk (HV.out.keep hb)
  replace HB := Kept.mk (HB.out.trans (hb.mono HB.out.size))
  have hs1 := hb.size
  clear hb
  have hC : chkE E = 0 := by unfold chkE; rw [HO.out]; rfl
  rw [hC]
  have HC := Kept.mk hC
  clear hC
  go_wp2_with fail
  have HW := Kept.mk (Wr.refl (show At (W1.alloc (.cells #[.string ⟨#[]⟩] 48)) W1.heap.size (txt []) from (fun b => ⟨b.cells.2 0 _ rfl, b.free 0, b.lt⟩) (Blk.new W1 48 [.string ⟨#[]⟩] W1.heap.size rfl)))
  replace HV := Kept.mk (HV.out.alloc (.cells #[.string ⟨#[]⟩] 48))
  replace HB := Kept.mk (HB.out.alloc HB.out.size (.cells #[.string ⟨#[]⟩] 48))
  generalize hW2 : W1.alloc (.cells #[.string ⟨#[]⟩] 48) = W2 at *
  clear hW2
  generalize hg : W1.heap.size = g at *
  clear hg
  refine pu1_region _ _ _ rfl E g w.heap.size vp vm rfl rfl HV.out.cells ?_
  intro y9 W9 hb9
  replace HW := Kept.mk (HW.out.then_ hb9)
  replace HV := Kept.mk (HV.out.keep hb9)
  replace HB := Kept.mk (HB.out.trans (hb9.mono HB.out.size))
  have hs9 := hb9.size
  clear hb9
  refine (number_z g [] E.val.kind 1 W9 HW.out.at_ (by simp) hkz.1 (by omega) (by omega) (by omega) (by show _ < 256; omega)).mono ?_
  rintro e W3 ⟨rfl, hw⟩
  replace HW := Kept.mk (HW.out.trans hw)
  replace HV := Kept.mk (HV.out.wr hw (by omega))
  replace HB := Kept.mk (HB.out.trans (hw.below (by omega) (by have := HB.out.size; omega)))
  clear hw hs9
  refine ⟨_, rfl, ?_⟩
  simp only [List.foldl_cons, List.foldl_nil]
  generalize y9 13 = z13
  generalize y9 14 = z14
  generalize y9 15 = z15
  generalize y9 16 = z16
  generalize y9 17 = z17
  generalize y9 18 = z18
  generalize y9 19 = z19
  simp only [List.setIfInBounds_toArray, List.set_cons_succ, List.set_cons_zero]
  clear y9
  go_wp2_with fail
  rw [List.nil_append] at HW
  refine pu2_region _ _ _ rfl E g w.heap.size vp vm rfl rfl HV.out.cells ?_
  intro y9 W9 hb9
  replace HW := Kept.mk (HW.out.then_ hb9)
  replace HV := Kept.mk (HV.out.keep hb9)
  replace HB := Kept.mk (HB.out.trans (hb9.mono HB.out.size))
  have hs9 := hb9.size
  clear hb9
  refine (number_z g (putL E.val.kind.toNat 1) (E.key.length : Int) 1 W9 HW.out.at_ (by rw [length_putL]; omega) (by omega) (by omega) (by omega) (by omega) (by show _ < 256; omega)).mono ?_
  rintro e W4 ⟨rfl, hw⟩
  replace HW := Kept.mk (HW.out.trans hw)
  replace HV := Kept.mk (HV.out.wr hw (by omega))
  replace HB := Kept.mk (HB.out.trans (hw.below (by omega) (by have := HB.out.size; omega)))
  clear hw hs9
  refine ⟨_, rfl, ?_⟩
  simp only [List.foldl_cons, List.foldl_nil]
  generalize y9 20 = z20
  generalize y9 21 = z21
  generalize y9 22 = z22
  generalize y9 23 = z23
  generalize y9 24 = z24
  generalize y9 25 = z25
  generalize y9 26 = z26
  simp only [List.setIfInBounds_toArray, List.set_cons_succ, List.set_cons_zero]
  clear y9
  go_wp2_with fail
  refine pu3_region _ _ _ rfl E g w.heap.size vp vm rfl rfl HV.out.cells ?_
  intro y9 W9 hb9
  replace HW := Kept.mk (HW.out.then_ hb9)
  replace HV := Kept.mk (HV.out.keep hb9)
  replace HB := Kept.mk (HB.out.trans (hb9.mono HB.out.size))
  have hs9 := hb9.size
  clear hb9
  refine (add_any g (putL E.val.kind.toNat 1 ++ putL (E.key.length : Int).toNat 1) E.key W9 HW.out.at_ (by simp only [List.length_append, length_putL]; omega) (by omega)).mono ?_
  rintro e W5 ⟨rfl, hw⟩
  replace HW := Kept.mk (HW.out.trans hw)
  replace HV := Kept.mk (HV.out.wr hw (by omega))
  replace HB := Kept.mk (HB.out.trans (hw.below (by omega) (by have := HB.out.size; omega)))
  clear hw hs9
  refine ⟨_, rfl, ?_⟩
  simp only [List.foldl_cons, List.foldl_nil]
  generalize y9 27 = z27
  generalize y9 28 = z28
  generalize y9 29 = z29
  generalize y9 30 = z30
  generalize y9 31 = z31
  generalize y9 32 = z32
  simp only [List.setIfInBounds_toArray, List.set_cons_succ, List.set_cons_zero]
  clear y9
  go_wp2_with fail
  refine (fill_any g ((putL E.val.kind.toNat 1 ++ putL (E.key.length : Int).toNat 1) ++ E.key) 10 W5 HW.out.at_ (by simp only [List.length_append, length_putL]; omega) (by omega)).mono ?_
  rintro e W6 ⟨rfl, hw⟩
  replace HW := Kept.mk (HW.out.trans hw)
  replace HV := Kept.mk (HV.out.wr hw (by omega))
  replace HB := Kept.mk (HB.out.trans (hw.below (by omega) (by have := HB.out.size; omega)))
  clear hw
  have eh : ((putL E.val.kind.toNat 1 ++ putL (E.key.length : Int).toNat 1) ++ E.key) ++ zerosL (10 - ((putL E.val.kind.toNat 1 ++ putL (E.key.length : Int).toNat 1) ++ E.key).length) = headL E := by
    have e1 : 10 - ((putL E.val.kind.toNat 1 ++ putL (E.key.length : Int).toNat 1) ++ E.key).length = 8 - E.key.length := by simp only [List.length_append, length_putL]; omega
    rw [e1]
    unfold headL
    simp only [List.append_assoc, Int.toNat_natCast]
  rw [eh] at HW
  clear eh
  go_wp2_with fail
  refine pk3_region _ _ _ rfl E g w.heap.size vp vm rfl rfl HV.out.cells HK.out ?_
  intro y9 W9 hb9
  replace HW := Kept.mk (HW.out.then_ hb9)
  replace HV := Kept.mk (HV.out.keep hb9)
  replace HB := Kept.mk (HB.out.trans (hb9.mono HB.out.size))
  have hs9 := hb9.size
  clear hb9
  refine (wflags_any E.val g (headL E) _ W9 ⟨vp, vm, rfl, stable_cells _ _ _ _ HP.out HB.out, stable_cells _ _ _ _ HM.out HB.out⟩ HW.out.at_ (by omega) HK.out).mono ?_
  rintro e W7 ⟨rfl, hw⟩
  replace HW := Kept.mk (HW.out.trans hw)
  replace HV := Kept.mk (HV.out.wr hw (by omega))
  replace HB := Kept.mk (HB.out.trans (hw.below (by omega) (by have := HB.out.size; omega)))
  clear hw hs9
  refine ⟨_, rfl, ?_⟩
  simp only [List.foldl_cons, List.foldl_nil]
  generalize y9 37 = z37
  generalize y9 38 = z38
  generalize y9 39 = z39
  generalize y9 40 = z40
  generalize y9 41 = z41
  generalize y9 42 = z42
  generalize y9 43 = z43
  generalize y9 44 = z44
  generalize y9 45 = z45
  simp only [List.setIfInBounds_toArray, List.set_cons_succ, List.set_cons_zero]
  clear y9
  go_wp2_with fail
  refine (fill_any g (headL E ++ dataL E.val) 42 W7 HW.out.at_ (by rw [List.length_append]; omega) (by omega)).mono ?_
  rintro e W8 ⟨rfl, hw⟩
  replace HW := Kept.mk (HW.out.trans hw)
  replace HV := Kept.mk (HV.out.wr hw (by omega))
  replace HB := Kept.mk (HB.out.trans (hw.below (by omega) (by have := HB.out.size; omega)))
  clear hw
  have eh : (headL E ++ dataL E.val) ++ zerosL (42 - (headL E ++ dataL E.val).length) = putEn E := by
    have e1 : 42 - (headL E ++ dataL E.val).length = 32 - (dataL E.val).length := by rw [List.length_append]; omega
    rw [e1]
    unfold putEn
    rw [List.append_assoc]
  rw [eh] at HW
  clear eh
  have kc := HW.out.at_.cell
  go_wp2
  go_ret2
  refine ⟨?_, HB.out⟩
  have e1 : putF E = putEn E := by unfold putF; rw [HO.out]; rfl
  rw [e1, HC.out]
  rfl
theorem eput_any (E : En) (v : Value) (w : World) (hv : isEn E v w) (hF : FitE E) : Calls Try.prog 9 #[v] w fun e w' => e = .returned (.tuple #[txt (putF E), .int .i64 (chkE E)]) ∧ Below w.heap.size w w' := by
  cases hok : okE E with
  | false => exact eput_bad E v w hv hF hok
  | true =>
    have hk := kind_lt (show okV E.val = true by unfold okE at hok; rw [Bool.and_eq_true] at hok; exact hok.2)
    have h : E.val.kind = 1 ∨ E.val.kind = 2 ∨ E.val.kind = 3 := by omega
    rcases h with h | h | h
    · exact eput_1 E v w hv hF hok h
    · exact eput_2 E v w hv hF hok h
    · exact eput_3 E v w hv hF hok h
end Go.Proofs.Ytebjljiklacolaa
