/- Contracts of methods whose statements draw their order. -/
import Derived.Test.YtebjljiklacolaaVaKinds2
namespace Go.Proofs.Ytebjljiklacolaa
open Go.RowKit
set_option linter.unusedVariables false
set_option linter.unusedSimpArgs false
attribute [local irreducible] setN

theorem agg_u64 (w : World) : (isAgg 23).run Try.prog w = .ok false w := by simp [isAgg, run_underlying Try.underlying23]
theorem sub_small (t : TypeId) (a b : Int) (h1 : -1000000000000 ≤ a - b) (h2 : a - b ≤ 1000000000000) (w : World) : (binOp .sub t (.int .i64 a) (.int .i64 b)).run Try.prog w = .ok (.int .i64 (a - b)) w := by
  simp [go_sem]
  rw [IntKind.wrap_i64]
  omega
theorem call_cmp (x y : Int) (w : World) : Calls Try.prog 86 #[.int .i64 x, .int .i64 y] w fun e w' => ∃ v, e = .returned v ∧ isVal (.int .i64 (cmpI x y)) v w' ∧ Below w.heap.size w w' :=
  (compare_i x y w).mono (by rintro e w' ⟨rfl, rfl⟩; exact ⟨_, rfl, rfl, Below.refl _ _⟩)
theorem call_cmpT (x y : List UInt8) (w : World) : Calls Try.prog 88 #[.string ⟨x.toArray⟩, .string ⟨y.toArray⟩] w fun e w' => ∃ v, e = .returned v ∧ isVal (.int .i64 (cmpT x y)) v w' ∧ Below w.heap.size w w' :=
  (compare_s x y w).mono (by rintro e w' ⟨rfl, rfl⟩; exact ⟨_, rfl, rfl, Below.refl _ _⟩)
theorem call_rank (b : Bool) (w : World) : Calls Try.prog 87 #[.bool b] w fun e w' => ∃ v, e = .returned v ∧ isVal (.int .i64 (rankI b)) v w' ∧ Below w.heap.size w w' :=
  (rank_any b w).mono (by rintro e w' ⟨rfl, rfl⟩; exact ⟨_, rfl, rfl, Below.refl _ _⟩)
theorem call_behind (A B : Va) (u : Value) (w : World) (hu : isCells [intC (cmpI A.time B.time), intC (cmpI A.node B.node), intC (cmpI (rankI A.dead) (rankI B.dead)), intC (cmpT A.text B.text)] u w) :
    Calls Try.prog 85 #[u] w fun e w' => ∃ v, e = .returned v ∧ isVal (.bool (behindB A B)) v w' ∧ Below w.heap.size w w' :=
  (isBehind_any (ordL A B) u w hu (by show 4 ≤ _; omega)).mono (by rintro e w' ⟨rfl, rfl⟩; exact ⟨_, rfl, rfl, Below.refl _ _⟩)
noncomputable def rjoinOps : Array Oper := regionOf Try.f80 1
set_option maxRecDepth 100000 in
set_option maxHeartbeats 2000000 in
theorem rjoin_region (Q : Exit → Act → World → Prop) (a0 : Act) (w0 : World) (hsz : a0.tmps.size = 37) (A B : Va) (ga gb : Nat) (vp vm up um : Value) (e4 : a0.tmps.getD 4 undef = .pointer (some ⟨ga, 0, none⟩)) (e5 : a0.tmps.getD 5 undef = .pointer (some ⟨gb, 0, none⟩)) (hc : CellsN w0 ga [.int .i64 A.kind, .int .i64 A.time, .int .i64 A.node, .bool A.dead, .string ⟨A.text.toArray⟩, vp, vm, .int .u64 (A.flags.toNat : Int)]) (gc : CellsN w0 gb [.int .i64 B.kind, .int .i64 B.time, .int .i64 B.node, .bool B.dead, .string ⟨B.text.toArray⟩, up, um, .int .u64 (B.flags.toNat : Int)])
    (hQ : ∀ (g : Nat → Value) (w : World), g 30 = .bool (behindB A B) → Below w0.heap.size w0 w → Q .normal { tmps := [7, 8, 9, 10, 11, 12, 13, 14, 15, 16, 17, 18, 19, 20, 21, 22, 23, 24, 25, 26, 27, 28, 29, 30].foldl (fun t s => t.setIfInBounds s (g s)) a0.tmps, defers := a0.defers } w) :
    (Code.region 1 rjoinOps true).wp Try.prog Q a0 w0 := by
  obtain ⟨iint, hiint, hzint, hsint, _⟩ := info_parts Try.infoInt
  refine wp_region_flow mixed (by rw [hsz]; kernel_rfl) ?_
  rw [show rjoinOps.size = 24 by kernel_rfl]
  refine ⟨isVal (.pointer (some ⟨ga, 1, none⟩)), step_field 25 (.tmp 4) 1 ⟨ga, 0, none⟩ ⟨ga, 1, none⟩ (by kernel_rfl) (wanted_none (by kernel_rfl)) (knows_old 4 (.pointer (some ⟨ga, 0, none⟩)) (by kernel_rfl) e4) (field_va ga 1 (by omega)), ?_⟩
  refine ⟨isVal (.int .i64 A.time), step_read 3 (.tmp 7) ⟨ga, 1, none⟩ (.int .i64 A.time) (by kernel_rfl) (wanted_none (by kernel_rfl)) (knows_new (V := isVal (.pointer (some ⟨ga, 1, none⟩))) 7 0 (by kernel_rfl) (by kernel_rfl) (by kernel_rfl)) (hc.2 1 _ rfl) hc.1 agg_int, ?_⟩
  refine ⟨isVal (.pointer (some ⟨gb, 1, none⟩)), step_field 25 (.tmp 5) 1 ⟨gb, 0, none⟩ ⟨gb, 1, none⟩ (by kernel_rfl) (wanted_none (by kernel_rfl)) (knows_old 5 (.pointer (some ⟨gb, 0, none⟩)) (by kernel_rfl) e5) (field_va gb 1 (by omega)), ?_⟩
  refine ⟨isVal (.int .i64 B.time), step_read 3 (.tmp 9) ⟨gb, 1, none⟩ (.int .i64 B.time) (by kernel_rfl) (wanted_none (by kernel_rfl)) (knows_new (V := isVal (.pointer (some ⟨gb, 1, none⟩))) 9 2 (by kernel_rfl) (by kernel_rfl) (by kernel_rfl)) (gc.2 1 _ rfl) gc.1 agg_int, ?_⟩
  refine ⟨isVal (.int .i64 (cmpI A.time B.time)), step_call 86 #[.tmp 8, .tmp 10] #[3, 3] #[.int .i64 A.time, .int .i64 B.time] (by kernel_rfl) (wanted_none (by kernel_rfl)) (stable_val _) (args2 (.tmp 8) (.tmp 10) (.int .i64 A.time) (.int .i64 B.time) (knows_new (V := isVal (.int .i64 A.time)) 8 1 (by kernel_rfl) (by kernel_rfl) (by kernel_rfl)) (knows_new (V := isVal (.int .i64 B.time)) 10 3 (by kernel_rfl) (by kernel_rfl) (by kernel_rfl))) (enters_of Try.func86 (by kernel_rfl) rfl) (by intro w hb; exact call_cmp A.time B.time w), ?_⟩
  refine ⟨isVal (.pointer (some ⟨ga, 2, none⟩)), step_field 25 (.tmp 4) 2 ⟨ga, 0, none⟩ ⟨ga, 2, none⟩ (by kernel_rfl) (wanted_none (by kernel_rfl)) (knows_old 4 (.pointer (some ⟨ga, 0, none⟩)) (by kernel_rfl) e4) (field_va ga 2 (by omega)), ?_⟩
  refine ⟨isVal (.int .i64 A.node), step_read 3 (.tmp 12) ⟨ga, 2, none⟩ (.int .i64 A.node) (by kernel_rfl) (wanted_none (by kernel_rfl)) (knows_new (V := isVal (.pointer (some ⟨ga, 2, none⟩))) 12 5 (by kernel_rfl) (by kernel_rfl) (by kernel_rfl)) (hc.2 2 _ rfl) hc.1 agg_int, ?_⟩
  refine ⟨isVal (.pointer (some ⟨gb, 2, none⟩)), step_field 25 (.tmp 5) 2 ⟨gb, 0, none⟩ ⟨gb, 2, none⟩ (by kernel_rfl) (wanted_none (by kernel_rfl)) (knows_old 5 (.pointer (some ⟨gb, 0, none⟩)) (by kernel_rfl) e5) (field_va gb 2 (by omega)), ?_⟩
  refine ⟨isVal (.int .i64 B.node), step_read 3 (.tmp 14) ⟨gb, 2, none⟩ (.int .i64 B.node) (by kernel_rfl) (wanted_none (by kernel_rfl)) (knows_new (V := isVal (.pointer (some ⟨gb, 2, none⟩))) 14 7 (by kernel_rfl) (by kernel_rfl) (by kernel_rfl)) (gc.2 2 _ rfl) gc.1 agg_int, ?_⟩
  refine ⟨isVal (.int .i64 (cmpI A.node B.node)), step_call 86 #[.tmp 13, .tmp 15] #[3, 3] #[.int .i64 A.node, .int .i64 B.node] (by kernel_rfl) (wanted_none (by kernel_rfl)) (stable_val _) (args2 (.tmp 13) (.tmp 15) (.int .i64 A.node) (.int .i64 B.node) (knows_new (V := isVal (.int .i64 A.node)) 13 6 (by kernel_rfl) (by kernel_rfl) (by kernel_rfl)) (knows_new (V := isVal (.int .i64 B.node)) 15 8 (by kernel_rfl) (by kernel_rfl) (by kernel_rfl))) (enters_of Try.func86 (by kernel_rfl) rfl) (by intro w hb; exact call_cmp A.node B.node w), ?_⟩
  refine ⟨isVal (.pointer (some ⟨ga, 3, none⟩)), step_field 25 (.tmp 4) 3 ⟨ga, 0, none⟩ ⟨ga, 3, none⟩ (by kernel_rfl) (wanted_none (by kernel_rfl)) (knows_old 4 (.pointer (some ⟨ga, 0, none⟩)) (by kernel_rfl) e4) (field_va ga 3 (by omega)), ?_⟩
  refine ⟨isVal (.bool A.dead), step_read 4 (.tmp 17) ⟨ga, 3, none⟩ (.bool A.dead) (by kernel_rfl) (wanted_none (by kernel_rfl)) (knows_new (V := isVal (.pointer (some ⟨ga, 3, none⟩))) 17 10 (by kernel_rfl) (by kernel_rfl) (by kernel_rfl)) (hc.2 3 _ rfl) hc.1 agg_bool, ?_⟩
  refine ⟨isVal (.int .i64 (rankI A.dead)), step_call 87 #[.tmp 18] #[4] #[.bool A.dead] (by kernel_rfl) (wanted_none (by kernel_rfl)) (stable_val _) (args1 (.tmp 18) (.bool A.dead) (knows_new (V := isVal (.bool A.dead)) 18 11 (by kernel_rfl) (by kernel_rfl) (by kernel_rfl))) (enters_of Try.func87 (by kernel_rfl) rfl) (by intro w hb; exact call_rank A.dead w), ?_⟩
  refine ⟨isVal (.pointer (some ⟨gb, 3, none⟩)), step_field 25 (.tmp 5) 3 ⟨gb, 0, none⟩ ⟨gb, 3, none⟩ (by kernel_rfl) (wanted_none (by kernel_rfl)) (knows_old 5 (.pointer (some ⟨gb, 0, none⟩)) (by kernel_rfl) e5) (field_va gb 3 (by omega)), ?_⟩
  refine ⟨isVal (.bool B.dead), step_read 4 (.tmp 20) ⟨gb, 3, none⟩ (.bool B.dead) (by kernel_rfl) (wanted_none (by kernel_rfl)) (knows_new (V := isVal (.pointer (some ⟨gb, 3, none⟩))) 20 13 (by kernel_rfl) (by kernel_rfl) (by kernel_rfl)) (gc.2 3 _ rfl) gc.1 agg_bool, ?_⟩
  refine ⟨isVal (.int .i64 (rankI B.dead)), step_call 87 #[.tmp 21] #[4] #[.bool B.dead] (by kernel_rfl) (wanted_none (by kernel_rfl)) (stable_val _) (args1 (.tmp 21) (.bool B.dead) (knows_new (V := isVal (.bool B.dead)) 21 14 (by kernel_rfl) (by kernel_rfl) (by kernel_rfl))) (enters_of Try.func87 (by kernel_rfl) rfl) (by intro w hb; exact call_rank B.dead w), ?_⟩
  refine ⟨isVal (.int .i64 (cmpI (rankI A.dead) (rankI B.dead))), step_call 86 #[.tmp 19, .tmp 22] #[3, 3] #[.int .i64 (rankI A.dead), .int .i64 (rankI B.dead)] (by kernel_rfl) (wanted_none (by kernel_rfl)) (stable_val _) (args2 (.tmp 19) (.tmp 22) (.int .i64 (rankI A.dead)) (.int .i64 (rankI B.dead)) (knows_new (V := isVal (.int .i64 (rankI A.dead))) 19 12 (by kernel_rfl) (by kernel_rfl) (by kernel_rfl)) (knows_new (V := isVal (.int .i64 (rankI B.dead))) 22 15 (by kernel_rfl) (by kernel_rfl) (by kernel_rfl))) (enters_of Try.func86 (by kernel_rfl) rfl) (by intro w hb; exact call_cmp (rankI A.dead) (rankI B.dead) w), ?_⟩
  refine ⟨isVal (.pointer (some ⟨ga, 4, none⟩)), step_field 25 (.tmp 4) 4 ⟨ga, 0, none⟩ ⟨ga, 4, none⟩ (by kernel_rfl) (wanted_none (by kernel_rfl)) (knows_old 4 (.pointer (some ⟨ga, 0, none⟩)) (by kernel_rfl) e4) (field_va ga 4 (by omega)), ?_⟩
  refine ⟨isVal (.string ⟨A.text.toArray⟩), step_read 9 (.tmp 24) ⟨ga, 4, none⟩ (.string ⟨A.text.toArray⟩) (by kernel_rfl) (wanted_none (by kernel_rfl)) (knows_new (V := isVal (.pointer (some ⟨ga, 4, none⟩))) 24 17 (by kernel_rfl) (by kernel_rfl) (by kernel_rfl)) (hc.2 4 _ rfl) hc.1 agg_str, ?_⟩
  refine ⟨isVal (.pointer (some ⟨gb, 4, none⟩)), step_field 25 (.tmp 5) 4 ⟨gb, 0, none⟩ ⟨gb, 4, none⟩ (by kernel_rfl) (wanted_none (by kernel_rfl)) (knows_old 5 (.pointer (some ⟨gb, 0, none⟩)) (by kernel_rfl) e5) (field_va gb 4 (by omega)), ?_⟩
  refine ⟨isVal (.string ⟨B.text.toArray⟩), step_read 9 (.tmp 26) ⟨gb, 4, none⟩ (.string ⟨B.text.toArray⟩) (by kernel_rfl) (wanted_none (by kernel_rfl)) (knows_new (V := isVal (.pointer (some ⟨gb, 4, none⟩))) 26 19 (by kernel_rfl) (by kernel_rfl) (by kernel_rfl)) (gc.2 4 _ rfl) gc.1 agg_str, ?_⟩
  refine ⟨isVal (.int .i64 (cmpT A.text B.text)), step_call 88 #[.tmp 25, .tmp 27] #[9, 9] #[.string ⟨A.text.toArray⟩, .string ⟨B.text.toArray⟩] (by kernel_rfl) (wanted_none (by kernel_rfl)) (stable_val _) (args2 (.tmp 25) (.tmp 27) (.string ⟨A.text.toArray⟩) (.string ⟨B.text.toArray⟩) (knows_new (V := isVal (.string ⟨A.text.toArray⟩)) 25 18 (by kernel_rfl) (by kernel_rfl) (by kernel_rfl)) (knows_new (V := isVal (.string ⟨B.text.toArray⟩)) 27 20 (by kernel_rfl) (by kernel_rfl) (by kernel_rfl))) (enters_of Try.func88 (by kernel_rfl) rfl) (by intro w hb; exact call_cmpT A.text B.text w), ?_⟩
  refine ⟨(isCells [intC (cmpI A.time B.time), intC (cmpI A.node B.node), intC (cmpI (rankI A.dead) (rankI B.dead)), intC (cmpT A.text B.text)]), step_ints4 22 3 (.tmp 11) (.tmp 16) (.tmp 23) (.tmp 28) (cmpI A.time B.time) (cmpI A.node B.node) (cmpI (rankI A.dead) (rankI B.dead)) (cmpT A.text B.text) iint (by kernel_rfl) (wanted_none (by kernel_rfl)) (knows_new (V := isVal (.int .i64 (cmpI A.time B.time))) 11 4 (by kernel_rfl) (by kernel_rfl) (by kernel_rfl)) (knows_new (V := isVal (.int .i64 (cmpI A.node B.node))) 16 9 (by kernel_rfl) (by kernel_rfl) (by kernel_rfl)) (knows_new (V := isVal (.int .i64 (cmpI (rankI A.dead) (rankI B.dead)))) 23 16 (by kernel_rfl) (by kernel_rfl) (by kernel_rfl)) (knows_new (V := isVal (.int .i64 (cmpT A.text B.text))) 28 21 (by kernel_rfl) (by kernel_rfl) (by kernel_rfl)) Try.underlying22 hiint hzint hsint, ?_⟩
  refine ⟨isVal (.bool (behindB A B)), step_callP 85 #[.tmp 29] #[22] (by kernel_rfl) (wanted_none (by kernel_rfl)) (stable_val _) (enters_of Try.func85 (by kernel_rfl) rfl) (fun vs w => ∃ u, vs = #[u] ∧ isCells [intC (cmpI A.time B.time), intC (cmpI A.node B.node), intC (cmpI (rankI A.dead) (rankI B.dead)), intC (cmpT A.text B.text)] u w) (pre1 (knows_new (V := (isCells [intC (cmpI A.time B.time), intC (cmpI A.node B.node), intC (cmpI (rankI A.dead) (rankI B.dead)), intC (cmpT A.text B.text)])) 29 22 (by kernel_rfl) (by kernel_rfl) (by kernel_rfl))) (by rintro vs w hb ⟨u, rfl, hu⟩; exact call_behind A B u w hu), ?_⟩
  intro a w hkp hb hd
  rw [kept_of hkp [some 7, some 8, some 9, some 10, some 11, some 12, some 13, some 14, some 15, some 16, some 17, some 18, some 19, some 20, some 21, some 22, some 23, some 24, some 25, some 26, some 27, some 28, some 29, some 30] [7, 8, 9, 10, 11, 12, 13, 14, 15, 16, 17, 18, 19, 20, 21, 22, 23, 24, 25, 26, 27, 28, 29, 30] (by kernel_rfl) (by decide)]
  have d30 := fdone_of (hd 23 (by rw [show rjoinOps.size = 24 by kernel_rfl]; decide)) (t := 30) (V := isVal (.bool (behindB A B))) (by kernel_rfl) (by kernel_rfl)
  exact hQ (fun s => a.tmps.getD s undef) w d30 hb
set_option maxRecDepth 20000 in
set_option maxHeartbeats 1000000 in
theorem regJoin_any (A B : Va) (v u : Value) (w : World) (hv : isVa A v w) (hu : isVa B u w) :
    Calls Try.prog 80 #[.agg #[], v, u] w fun e w' => ∃ v', e = .returned v' ∧ isVaN w.heap.size (joinReg A B) v' w' ∧ Below w.heap.size w w' := by
  obtain ⟨up, um, rfl, gp, gm⟩ := hu
  obtain ⟨vp, vm, rfl, hp, hm⟩ := hv
  have hB0 := lit_below w (.cells #[] 85)
  obtain ⟨hB1, hV⟩ := vbox _ A vp vm (stable_cells _ _ _ _ hp hB0) (stable_cells _ _ _ _ hm hB0) (w.heap.size + 1) (by simp)
  have hB := Kept.mk (hB0.trans (hB1.out.mono hB0.size))
  obtain ⟨hB2, hU⟩ := vbox ((w.alloc (.cells #[] 85)).alloc (.cells #[.int .i64 A.kind, .int .i64 A.time, .int .i64 A.node, .bool A.dead, .string ⟨A.text.toArray⟩, vp, vm, .int .u64 (A.flags.toNat : Int)] 25)) B up um (stable_cells _ _ _ _ gp hB.out) (stable_cells _ _ _ _ gm hB.out) (w.heap.size + 2) (by simp)
  replace hB := Kept.mk (hB.out.trans (hB2.out.mono hB.out.size))
  have hB3 := lit_below (((w.alloc (.cells #[] 85)).alloc (.cells #[.int .i64 A.kind, .int .i64 A.time, .int .i64 A.node, .bool A.dead, .string ⟨A.text.toArray⟩, vp, vm, .int .u64 (A.flags.toNat : Int)] 25)).alloc (.cells #[.int .i64 B.kind, .int .i64 B.time, .int .i64 B.node, .bool B.dead, .string ⟨B.text.toArray⟩, up, um, .int .u64 (B.flags.toNat : Int)] 25)) (.cells #[.int .i64 0, .int .i64 0, .int .i64 0, .bool false, .string ⟨#[]⟩, .slice none 0 0, .slice none 0 0, .int .u64 0] 25)
  have HZ := Kept.mk (cellsN_at (((w.alloc (.cells #[] 85)).alloc (.cells #[.int .i64 A.kind, .int .i64 A.time, .int .i64 A.node, .bool A.dead, .string ⟨A.text.toArray⟩, vp, vm, .int .u64 (A.flags.toNat : Int)] 25)).alloc (.cells #[.int .i64 B.kind, .int .i64 B.time, .int .i64 B.node, .bool B.dead, .string ⟨B.text.toArray⟩, up, um, .int .u64 (B.flags.toNat : Int)] 25)) 25 [.int .i64 0, .int .i64 0, .int .i64 0, .bool false, .string ⟨#[]⟩, .slice none 0 0, .slice none 0 0, .int .u64 0] (w.heap.size + 3) (by simp))
  have HF := Kept.mk (free5_at (((w.alloc (.cells #[] 85)).alloc (.cells #[.int .i64 A.kind, .int .i64 A.time, .int .i64 A.node, .bool A.dead, .string ⟨A.text.toArray⟩, vp, vm, .int .u64 (A.flags.toNat : Int)] 25)).alloc (.cells #[.int .i64 B.kind, .int .i64 B.time, .int .i64 B.node, .bool B.dead, .string ⟨B.text.toArray⟩, up, um, .int .u64 (B.flags.toNat : Int)] 25)) #[.int .i64 0, .int .i64 0, .int .i64 0, .bool false, .string ⟨#[]⟩, .slice none 0 0, .slice none 0 0, .int .u64 0] 25 (w.heap.size + 3) (by simp))
  replace hV := Kept.mk ((hV.out.keep hB2.out).keep hB3)
  replace hU := Kept.mk (hU.out.keep hB3)
  replace hB := Kept.mk (hB.out.trans (hB3.mono hB.out.size))
  have hC := Kept.mk (((cellsN_at (w.alloc (.cells #[] 85)) 25 [.int .i64 A.kind, .int .i64 A.time, .int .i64 A.node, .bool A.dead, .string ⟨A.text.toArray⟩, vp, vm, .int .u64 (A.flags.toNat : Int)] (w.heap.size + 1) (by simp)).keep hB2.out (by simp)).keep hB3 (by simp))
  have gC := Kept.mk ((cellsN_at ((w.alloc (.cells #[] 85)).alloc (.cells #[.int .i64 A.kind, .int .i64 A.time, .int .i64 A.node, .bool A.dead, .string ⟨A.text.toArray⟩, vp, vm, .int .u64 (A.flags.toNat : Int)] 25)) 25 [.int .i64 B.kind, .int .i64 B.time, .int .i64 B.node, .bool B.dead, .string ⟨B.text.toArray⟩, up, um, .int .u64 (B.flags.toNat : Int)] (w.heap.size + 2) (by simp)).keep hB3 (by simp))
  have hX := Kept.mk (show isVa A (.agg #[.int .i64 A.kind, .int .i64 A.time, .int .i64 A.node, .bool A.dead, .string ⟨A.text.toArray⟩, vp, vm, .int .u64 (A.flags.toNat : Int)]) ((((w.alloc (.cells #[] 85)).alloc (.cells #[.int .i64 A.kind, .int .i64 A.time, .int .i64 A.node, .bool A.dead, .string ⟨A.text.toArray⟩, vp, vm, .int .u64 (A.flags.toNat : Int)] 25)).alloc (.cells #[.int .i64 B.kind, .int .i64 B.time, .int .i64 B.node, .bool B.dead, .string ⟨B.text.toArray⟩, up, um, .int .u64 (B.flags.toNat : Int)] 25)).alloc (.cells #[.int .i64 0, .int .i64 0, .int .i64 0, .bool false, .string ⟨#[]⟩, .slice none 0 0, .slice none 0 0, .int .u64 0] 25)) from ⟨vp, vm, rfl, stable_cells _ _ _ _ hp hB.out, stable_cells _ _ _ _ hm hB.out⟩)
  have gX := Kept.mk (show isVa B (.agg #[.int .i64 B.kind, .int .i64 B.time, .int .i64 B.node, .bool B.dead, .string ⟨B.text.toArray⟩, up, um, .int .u64 (B.flags.toNat : Int)]) ((((w.alloc (.cells #[] 85)).alloc (.cells #[.int .i64 A.kind, .int .i64 A.time, .int .i64 A.node, .bool A.dead, .string ⟨A.text.toArray⟩, vp, vm, .int .u64 (A.flags.toNat : Int)] 25)).alloc (.cells #[.int .i64 B.kind, .int .i64 B.time, .int .i64 B.node, .bool B.dead, .string ⟨B.text.toArray⟩, up, um, .int .u64 (B.flags.toNat : Int)] 25)).alloc (.cells #[.int .i64 0, .int .i64 0, .int .i64 0, .bool false, .string ⟨#[]⟩, .slice none 0 0, .slice none 0 0, .int .u64 0] 25)) from ⟨up, um, rfl, stable_cells _ _ _ _ gp hB.out, stable_cells _ _ _ _ gm hB.out⟩)
  have hR : Kept ((((((w.alloc (.cells #[] 85)).alloc (.cells #[.int .i64 A.kind, .int .i64 A.time, .int .i64 A.node, .bool A.dead, .string ⟨A.text.toArray⟩, vp, vm, .int .u64 (A.flags.toNat : Int)] 25)).alloc (.cells #[.int .i64 B.kind, .int .i64 B.time, .int .i64 B.node, .bool B.dead, .string ⟨B.text.toArray⟩, up, um, .int .u64 (B.flags.toNat : Int)] 25)).alloc (.cells #[.int .i64 0, .int .i64 0, .int .i64 0, .bool false, .string ⟨#[]⟩, .slice none 0 0, .slice none 0 0, .int .u64 0] 25))).heap[w.heap.size]? = some (.cells #[] 85 (0, 0))) := ⟨by rw [hB3.block _ (by simp <;> omega), hB2.out.block _ (by simp <;> omega), hB1.out.block _ (by simp <;> omega)]; show (w.heap.push _)[w.heap.size]? = _; simp⟩
  have hS : Kept (w.heap.size + 4 = ((((w.alloc (.cells #[] 85)).alloc (.cells #[.int .i64 A.kind, .int .i64 A.time, .int .i64 A.node, .bool A.dead, .string ⟨A.text.toArray⟩, vp, vm, .int .u64 (A.flags.toNat : Int)] 25)).alloc (.cells #[.int .i64 B.kind, .int .i64 B.time, .int .i64 B.node, .bool B.dead, .string ⟨B.text.toArray⟩, up, um, .int .u64 (B.flags.toNat : Int)] 25)).alloc (.cells #[.int .i64 0, .int .i64 0, .int .i64 0, .bool false, .string ⟨#[]⟩, .slice none 0 0, .slice none 0 0, .int .u64 0] 25)).heap.size) := ⟨by simp⟩
  clear hp hm gp gm hB0 hB1 hB2 hB3 hV hU
  go_enter Try.func80, Try.ntmps80
  go_wp2_with fail
  generalize ((((w.alloc (.cells #[] 85)).alloc (.cells #[.int .i64 A.kind, .int .i64 A.time, .int .i64 A.node, .bool A.dead, .string ⟨A.text.toArray⟩, vp, vm, .int .u64 (A.flags.toNat : Int)] 25)).alloc (.cells #[.int .i64 B.kind, .int .i64 B.time, .int .i64 B.node, .bool B.dead, .string ⟨B.text.toArray⟩, up, um, .int .u64 (B.flags.toNat : Int)] 25)).alloc (.cells #[.int .i64 0, .int .i64 0, .int .i64 0, .bool false, .string ⟨#[]⟩, .slice none 0 0, .slice none 0 0, .int .u64 0] 25)) = W0 at *
  refine rjoin_region _ _ _ rfl A B (w.heap.size + 1) (w.heap.size + 2) vp vm up um rfl rfl hC.out gC.out ?_
  intro f9 W9 d30 hb9
  simp only [List.foldl_cons, List.foldl_nil, d30]
  generalize f9 7 = y7
  generalize f9 8 = y8
  generalize f9 9 = y9
  generalize f9 10 = y10
  generalize f9 11 = y11
  generalize f9 12 = y12
  generalize f9 13 = y13
  generalize f9 14 = y14
  generalize f9 15 = y15
  generalize f9 16 = y16
  generalize f9 17 = y17
  generalize f9 18 = y18
  generalize f9 19 = y19
  generalize f9 20 = y20
  generalize f9 21 = y21
  generalize f9 22 = y22
  generalize f9 23 = y23
  generalize f9 24 = y24
  generalize f9 25 = y25
  generalize f9 26 = y26
  generalize f9 27 = y27
  generalize f9 28 = y28
  generalize f9 29 = y29
  clear d30
  simp only [List.setIfInBounds_toArray, List.set_cons_succ, List.set_cons_zero]
  replace hB := Kept.mk (hB.out.trans (hb9.mono hB.out.size))
  have hs := hS.out
  have hR9 := (hb9.block w.heap.size (by omega)).trans hR.out
  obtain ⟨_, kA⟩ := hC.out.keep hb9 (by omega)
  obtain ⟨_, kB⟩ := gC.out.keep hb9 (by omega)
  have hX9 := Kept.mk (va_grow hX.out hb9)
  have gX9 := Kept.mk (va_grow gX.out hb9)
  have hZ9 := Kept.mk (HZ.out.keep hb9 (by omega))
  have hF9 := Kept.mk (HF.out.keep hb9 (by omega))
  have hs9 := hb9.size
  clear hX gX HZ HF hb9 hR hC gC
  cases hz : behindB A B with
  | true =>
    have HJ := Kept.mk (show joinReg A B = onlyReg A by unfold joinReg; rw [hz]; rfl)
    have k0 := kA 0 _ rfl
    have k1 := kA 1 _ rfl
    have k2 := kA 2 _ rfl
    have k3 := kA 3 _ rfl
    have k4 := kA 4 _ rfl
    have k5 := kA 5 _ rfl
    have k6 := kA 6 _ rfl
    have k7 := kA 7 _ rfl
    clear kA kB
    go_wp2_with fail
    refine (regOnly_any A _ _ hX9.out).mono ?_
    rintro e w1 ⟨v', rfl, ⟨p', m', rfl, hp1, hm1, np, nm⟩, hb1⟩
    have hZ1 := hZ9.out.keep hb1 (by omega)
    have K1 := Kept.mk hZ1
    have K2 := Kept.mk (hF9.out.keep hb1 (by omega))
    replace hB := Kept.mk (hB.out.trans (hb1.mono hB.out.size))
    obtain ⟨hBK, K4, K5⟩ := vset (onlyReg A) p' m' (g := w.heap.size + 3) (by omega) hB.out hZ1 rfl hp1 hm1 (np.ne (by omega)) (nm.ne (by omega))
    obtain ⟨hc', hp', hm'⟩ := K4.out
    replace np := np.low (B' := w.heap.size) (by omega)
    replace nm := nm.low (B' := w.heap.size) (by omega)
    clear K4 hp1 hm1 hZ1 hb1
    go_wp2_with (refine wpList_storeN 25 rfl (.tmp 6) (.tmp 33) rfl (w.heap.size + 3) [.int .i64 (onlyReg A).kind, .int .i64 (onlyReg A).time, .int .i64 (onlyReg A).node, .bool (onlyReg A).dead, .string ⟨(onlyReg A).text.toArray⟩, p', m', .int .u64 ((onlyReg A).flags.toNat : Int)] size_va rfl rfl K1.out rfl K2.out K5.out ?_)
    rw [HJ.out]
    exact bodyPost_ret (resultsN1 rfl _ _ (w.heap.size + 3) _ size_va agg_va rfl hc') rfl ⟨_, rfl, ⟨_, _, rfl, hp', hm', np, nm⟩, hBK.out⟩
  | false =>
    have HJ := Kept.mk (show joinReg A B = onlyReg B by unfold joinReg; rw [hz]; rfl)
    have k0 := kB 0 _ rfl
    have k1 := kB 1 _ rfl
    have k2 := kB 2 _ rfl
    have k3 := kB 3 _ rfl
    have k4 := kB 4 _ rfl
    have k5 := kB 5 _ rfl
    have k6 := kB 6 _ rfl
    have k7 := kB 7 _ rfl
    clear kA kB
    go_wp2_with fail
    refine (regOnly_any B _ _ gX9.out).mono ?_
    rintro e w1 ⟨v', rfl, ⟨p', m', rfl, hp1, hm1, np, nm⟩, hb1⟩
    have hZ1 := hZ9.out.keep hb1 (by omega)
    have K1 := Kept.mk hZ1
    have K2 := Kept.mk (hF9.out.keep hb1 (by omega))
    replace hB := Kept.mk (hB.out.trans (hb1.mono hB.out.size))
    obtain ⟨hBK, K4, K5⟩ := vset (onlyReg B) p' m' (g := w.heap.size + 3) (by omega) hB.out hZ1 rfl hp1 hm1 (np.ne (by omega)) (nm.ne (by omega))
    obtain ⟨hc', hp', hm'⟩ := K4.out
    replace np := np.low (B' := w.heap.size) (by omega)
    replace nm := nm.low (B' := w.heap.size) (by omega)
    clear K4 hp1 hm1 hZ1 hb1
    go_wp2_with (refine wpList_storeN 25 rfl (.tmp 6) (.tmp 36) rfl (w.heap.size + 3) [.int .i64 (onlyReg B).kind, .int .i64 (onlyReg B).time, .int .i64 (onlyReg B).node, .bool (onlyReg B).dead, .string ⟨(onlyReg B).text.toArray⟩, p', m', .int .u64 ((onlyReg B).flags.toNat : Int)] size_va rfl rfl K1.out rfl K2.out K5.out ?_)
    rw [HJ.out]
    exact bodyPost_ret (resultsN1 rfl _ _ (w.heap.size + 3) _ size_va agg_va rfl hc') rfl ⟨_, rfl, ⟨_, _, rfl, hp', hm', np, nm⟩, hBK.out⟩
end Go.Proofs.Ytebjljiklacolaa
