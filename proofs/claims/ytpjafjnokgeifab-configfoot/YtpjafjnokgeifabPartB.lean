/- Joined texts: contracts of the program's functions, and the mathematics that they lean on. -/
import Derived.Test.YtpjafjnokgeifabPartA
import Derived.SizedLaws
import Derived.SliceStrings
import Derived.Carry
import Derived.Deep.OwnRows
import Derived.ChangeKeysEq
import Derived.Laws.Rows
section
namespace Go.Proofs.Ytpjafjnokgeifab
open Go.RowKit
set_option linter.unusedVariables false
set_option linter.unusedSimpArgs false
attribute [local irreducible] setN

theorem eql_t {P : Program} {t : TypeId} {k : IntKind} (x y : Int) (h : x = y) (w : World) : (binOp .eql t (.int k x) (.int k y)).run P w = .ok (.bool true) w := by simp [go_sem, h]
theorem eql_f {P : Program} {t : TypeId} {k : IntKind} (x y : Int) (h : ¬ (x = y)) (w : World) : (binOp .eql t (.int k x) (.int k y)).run P w = .ok (.bool false) w := by simp [go_sem]; omega
theorem neq_t {P : Program} {t : TypeId} {k : IntKind} (x y : Int) (h : x ≠ y) (w : World) : (binOp .neq t (.int k x) (.int k y)).run P w = .ok (.bool true) w := by simp [go_sem, h]
theorem neq_f {P : Program} {t : TypeId} {k : IntKind} (x y : Int) (h : ¬ (x ≠ y)) (w : World) : (binOp .neq t (.int k x) (.int k y)).run P w = .ok (.bool false) w := by simp [go_sem]; omega
theorem lss_t {P : Program} {t : TypeId} {k : IntKind} (x y : Int) (h : x < y) (w : World) : (binOp .lss t (.int k x) (.int k y)).run P w = .ok (.bool true) w := by simp [go_sem, h]
theorem lss_f {P : Program} {t : TypeId} {k : IntKind} (x y : Int) (h : ¬ (x < y)) (w : World) : (binOp .lss t (.int k x) (.int k y)).run P w = .ok (.bool false) w := by simp [go_sem]; omega
theorem gtr_t {P : Program} {t : TypeId} {k : IntKind} (x y : Int) (h : y < x) (w : World) : (binOp .gtr t (.int k x) (.int k y)).run P w = .ok (.bool true) w := by simp [go_sem, h]
theorem gtr_f {P : Program} {t : TypeId} {k : IntKind} (x y : Int) (h : ¬ (y < x)) (w : World) : (binOp .gtr t (.int k x) (.int k y)).run P w = .ok (.bool false) w := by simp [go_sem]; omega
theorem leq_t {P : Program} {t : TypeId} {k : IntKind} (x y : Int) (h : x ≤ y) (w : World) : (binOp .leq t (.int k x) (.int k y)).run P w = .ok (.bool true) w := by simp [go_sem, h]
theorem leq_f {P : Program} {t : TypeId} {k : IntKind} (x y : Int) (h : ¬ (x ≤ y)) (w : World) : (binOp .leq t (.int k x) (.int k y)).run P w = .ok (.bool false) w := by simp [go_sem]; omega
theorem geq_t {P : Program} {t : TypeId} {k : IntKind} (x y : Int) (h : y ≤ x) (w : World) : (binOp .geq t (.int k x) (.int k y)).run P w = .ok (.bool true) w := by simp [go_sem, h]
theorem geq_f {P : Program} {t : TypeId} {k : IntKind} (x y : Int) (h : ¬ (y ≤ x)) (w : World) : (binOp .geq t (.int k x) (.int k y)).run P w = .ok (.bool false) w := by simp [go_sem]; omega
theorem add_v {P : Program} {t : TypeId} (x y z : Int) (h : x + y = z) (h0 : -4611686018427387904 ≤ z) (h1 : z ≤ 4611686018427387904) (w : World) : (binOp .add t (.int .i64 x) (.int .i64 y)).run P w = .ok (.int .i64 z) w := by
  subst h
  simp [go_sem]
  rw [IntKind.wrap_i64]
  omega
theorem sub_v {P : Program} {t : TypeId} (x y z : Int) (h : x - y = z) (h0 : -4611686018427387904 ≤ z) (h1 : z ≤ 4611686018427387904) (w : World) : (binOp .sub t (.int .i64 x) (.int .i64 y)).run P w = .ok (.int .i64 z) w := by
  subst h
  simp [go_sem]
  rw [IntKind.wrap_i64]
  omega
theorem mul_v {P : Program} {t : TypeId} (x y z : Int) (h : x * y = z) (h0 : -4611686018427387904 ≤ z) (h1 : z ≤ 4611686018427387904) (w : World) : (binOp .mul t (.int .i64 x) (.int .i64 y)).run P w = .ok (.int .i64 z) w := by
  subst h
  simp [go_sem]
  rw [IntKind.wrap_i64]
  omega
theorem cv1 {f : FuncId} {vs : Array Value} {w : World} {r : Value} (h : Calls Try.prog f vs w fun e w' => e = .returned r ∧ Below w.heap.size w w') : Calls Try.prog f vs w fun e w' => ∃ x, e = .returned x ∧ isVal r x w' ∧ Below w.heap.size w w' := h.mono (by rintro e w' ⟨rfl, hb⟩; exact ⟨_, rfl, rfl, hb⟩)
theorem agg_in (w : World) : (isAgg 3).run Try.prog w = .ok false w := by simp [isAgg, run_underlying Try.underlying3]
theorem f_cf (g k : Nat) (hk : k < 8) (w : World) : (Instr.fieldAt 23 (.pointer (some ⟨g, 0, none⟩)) k).run Try.prog w = .ok (.pointer (some ⟨g, k, none⟩)) w := by
  have h : k = 0 ∨ k = 1 ∨ k = 2 ∨ k = 3 ∨ k = 4 ∨ k = 5 ∨ k = 6 ∨ k = 7 := by omega
  rcases h with rfl | rfl | rfl | rfl | rfl | rfl | rfl | rfl <;> simp [Instr.fieldAt, run_underlying Try.underlying23, Instr.sureAddr, fieldPlace, Addr.add]
theorem rsize_42 (w : World) : Calls Try.prog 14 #[.int .i64 42] w fun e w' => e = .returned (.int .i64 92) ∧ Below w.heap.size w w' := by
  go_enter Try.func14, Try.ntmps14
  go_wp2
  go_ret
  exact ⟨rfl, Below.refl _ _⟩
noncomputable def cszOps : Array Oper := regionOf Try.f9 3
set_option maxRecDepth 100000 in
set_option maxHeartbeats 2000000 in
theorem csz_region (Q : Exit → Act → World → Prop) (a0 : Act) (w0 : World) (hsz : a0.tmps.size = 10) (g : Nat) (C : Cf) (hc : CellsN w0 g [.int .i64 C.nodes, .int .i64 C.slots, .int .i64 C.pages, .int .i64 C.room, .int .i64 C.chunk, .int .i64 C.buffer, .int .i64 C.queue, .int .i64 C.wear]) (hO : OkC C) (e1 : a0.tmps.getD 1 undef = .pointer (some ⟨g, 0, none⟩))
    (hQ : ∀ (g : Nat → Value) (w : World), g 2 = .int .i64 (C.room * 92) → Below w0.heap.size w0 w → Q .normal { tmps := [6, 7, 8, 9, 2].foldl (fun t s => t.setIfInBounds s (g s)) a0.tmps, defers := a0.defers } w) :
    (Code.region 3 cszOps true).wp Try.prog Q a0 w0 := by
  have h1 := hO.nodes
  have h2 := hO.slots
  have h3 := hO.room
  refine wp_region_flow mixed (by rw [hsz]; kernel_rfl) ?_
  rw [show cszOps.size = 5 by kernel_rfl]
  refine ⟨isVal (.pointer (some ⟨g, 3, none⟩)), step_field 23 (.tmp 1) 3 ⟨g, 0, none⟩ ⟨g, 3, none⟩ (by kernel_rfl) (wanted_none (by kernel_rfl)) (knows_old 1 (.pointer (some ⟨g, 0, none⟩)) (by kernel_rfl) e1) (f_cf (g) 3 (by omega)), ?_⟩
  refine ⟨isVal (.int .i64 C.room), step_read 3 (.tmp 6) ⟨g, 3, none⟩ (.int .i64 C.room) (by kernel_rfl) (wanted_none (by kernel_rfl)) (knows_new (V := isVal (.pointer (some ⟨g, 3, none⟩))) 6 0 (by kernel_rfl) (by kernel_rfl) (by kernel_rfl)) ((hc).2 3 _ rfl) (hc).1 (agg_in), ?_⟩
  refine ⟨isVal (.int .i64 92), step_call 14 #[.const (.int .i64 42)] #[3] #[.int .i64 42] (by kernel_rfl) (wanted_none (by kernel_rfl)) (stable_val _) (args1 (.const (.int .i64 42)) (.int .i64 42) (knows_const _)) (enters_of Try.func14 (by kernel_rfl) rfl) (by intro w' hb; exact cv1 (rsize_42 w')), ?_⟩
  refine ⟨isVal (.int .i64 (C.room * 92)), step_bin .mul 3 3 (.tmp 7) (.tmp 8) (.int .i64 C.room) (.int .i64 92) (.int .i64 (C.room * 92)) (by kernel_rfl) (wanted_none (by kernel_rfl)) (knows_new (V := isVal (.int .i64 C.room)) 7 1 (by kernel_rfl) (by kernel_rfl) (by kernel_rfl)) (knows_new (V := isVal (.int .i64 92)) 8 2 (by kernel_rfl) (by kernel_rfl) (by kernel_rfl)) (fun _ => rfl) (mul_v C.room 92 (C.room * 92) (by omega) (by omega) (by omega)), ?_⟩
  refine ⟨isVal (.int .i64 (C.room * 92)), step_assign (.tmp 9) (by kernel_rfl) (wanted_none (by kernel_rfl)) (stable_val _) (knows_new (V := isVal (.int .i64 (C.room * 92))) 9 3 (by kernel_rfl) (by kernel_rfl) (by kernel_rfl)), ?_⟩
  intro a w hkp hb hd
  rw [kept_of hkp [some 6, some 7, some 8, some 9, some 2] [6, 7, 8, 9, 2] (by kernel_rfl) (by decide)]
  have d2 := fdone_of (hd 4 (by rw [show cszOps.size = 5 by kernel_rfl]; decide)) (t := 2) (V := isVal (.int .i64 (C.room * 92))) (by kernel_rfl) (by kernel_rfl)
  exact hQ (fun s => a.tmps.getD s undef) w d2 hb
set_option maxRecDepth 100000 in
set_option maxHeartbeats 2000000 in
theorem csize_any (C : Cf) (w : World) : Calls Try.prog 9 #[(.agg #[.int .i64 C.nodes, .int .i64 C.slots, .int .i64 C.pages, .int .i64 C.room, .int .i64 C.chunk, .int .i64 C.buffer, .int .i64 C.queue, .int .i64 C.wear])] w fun e w' => e = .returned (.int .i64 (sizeC C)) ∧ Below w.heap.size w w' := by
  obtain ⟨hB, HC⟩ := cbox w C w.heap.size rfl
  have kc0 := HC.out.cells.2 0 _ rfl
  have kc1 := HC.out.cells.2 1 _ rfl
  have kc2 := HC.out.cells.2 2 _ rfl
  have kc3 := HC.out.cells.2 3 _ rfl
  have kc4 := HC.out.cells.2 4 _ rfl
  have kc5 := HC.out.cells.2 5 _ rfl
  have kc6 := HC.out.cells.2 6 _ rfl
  have kc7 := HC.out.cells.2 7 _ rfl
  go_enter Try.func9, Try.ntmps9
  go_wp2_with fail
  clear kc0 kc1 kc2 kc3 kc4 kc5 kc6 kc7
  generalize w.alloc (.cells #[.int .i64 C.nodes, .int .i64 C.slots, .int .i64 C.pages, .int .i64 C.room, .int .i64 C.chunk, .int .i64 C.buffer, .int .i64 C.queue, .int .i64 C.wear] 23) = W0 at *
  refine (ccheck_any C W0).mono ?_
  rintro e W1 ⟨rfl, hb⟩
  replace hB := Kept.mk (hB.out.trans (hb.mono hB.out.size))
  replace HC := Kept.mk (HC.out.keep hb)
  clear hb
  cases hok : okC C with
  | false =>
    rw [chkC_no hok]
    have HZ := Kept.mk hok
    clear hok
    go_wp2
    go_ret
    exact ⟨by unfold sizeC; rw [HZ.out]; rfl, hB.out⟩
  | true =>
    rw [chkC_yes hok]
    have HO := Kept.mk (okC_spec.1 hok)
    have HZ := Kept.mk hok
    clear hok
    go_wp2_with fail
    refine csz_region _ _ _ rfl w.heap.size C HC.out.cells HO.out rfl ?_
    intro f9 W9 d2 hb9
    simp only [List.foldl_cons, List.foldl_nil, d2]
    generalize f9 6 = y6
    generalize f9 7 = y7
    generalize f9 8 = y8
    generalize f9 9 = y9
    clear d2
    simp only [List.setIfInBounds_toArray, List.set_cons_succ, List.set_cons_zero]
    replace hB := Kept.mk (hB.out.trans (hb9.mono hB.out.size))
    replace HC := Kept.mk (HC.out.keep hb9)
    clear hb9
    go_wp2
    go_ret
    exact ⟨by unfold sizeC; rw [if_pos HZ.out]; rfl, hB.out⟩
set_option maxRecDepth 100000 in
set_option maxHeartbeats 2000000 in
theorem cchunks_any (C : Cf) (w : World) : Calls Try.prog 11 #[(.agg #[.int .i64 C.nodes, .int .i64 C.slots, .int .i64 C.pages, .int .i64 C.room, .int .i64 C.chunk, .int .i64 C.buffer, .int .i64 C.queue, .int .i64 C.wear])] w fun e w' => e = .returned (.int .i64 (chunksC C)) ∧ Below w.heap.size w w' := by
  obtain ⟨hB, HC⟩ := cbox w C w.heap.size rfl
  have kc0 := HC.out.cells.2 0 _ rfl
  have kc1 := HC.out.cells.2 1 _ rfl
  have kc2 := HC.out.cells.2 2 _ rfl
  have kc3 := HC.out.cells.2 3 _ rfl
  have kc4 := HC.out.cells.2 4 _ rfl
  have kc5 := HC.out.cells.2 5 _ rfl
  have kc6 := HC.out.cells.2 6 _ rfl
  have kc7 := HC.out.cells.2 7 _ rfl
  go_enter Try.func11, Try.ntmps11
  go_wp2_with fail
  clear kc0 kc1 kc2 kc3 kc4 kc5 kc6 kc7
  generalize w.alloc (.cells #[.int .i64 C.nodes, .int .i64 C.slots, .int .i64 C.pages, .int .i64 C.room, .int .i64 C.chunk, .int .i64 C.buffer, .int .i64 C.queue, .int .i64 C.wear] 23) = W0 at *
  refine (ccheck_any C W0).mono ?_
  rintro e W1 ⟨rfl, hb⟩
  replace hB := Kept.mk (hB.out.trans (hb.mono hB.out.size))
  replace HC := Kept.mk (HC.out.keep hb)
  clear hb
  cases hok : okC C with
  | false =>
    rw [chkC_no hok]
    have HZ := Kept.mk hok
    clear hok
    go_wp2
    go_ret
    exact ⟨by unfold chunksC; rw [HZ.out]; rfl, hB.out⟩
  | true =>
    rw [chkC_yes hok]
    have HO := Kept.mk (okC_spec.1 hok)
    have HZ := Kept.mk hok
    clear hok
    have kc0 := HC.out.cells.2 0 _ rfl
    have kc1 := HC.out.cells.2 1 _ rfl
    have kc2 := HC.out.cells.2 2 _ rfl
    have kc3 := HC.out.cells.2 3 _ rfl
    have kc4 := HC.out.cells.2 4 _ rfl
    have kc5 := HC.out.cells.2 5 _ rfl
    have kc6 := HC.out.cells.2 6 _ rfl
    have kc7 := HC.out.cells.2 7 _ rfl
    have hs := HO.out.slots
    have hk := HO.out.chunk
    have hdz : ¬ C.chunk = 0 := by omega
    have hr := chunksC_range HO.out
    have hq : chunksC C = (C.slots + C.chunk - 1) / C.chunk := by unfold chunksC; rw [if_pos HZ.out]
    have HQ := Kept.mk hq
    clear hq
    go_wp2
    go_ret
    exact ⟨by rw [← HQ.out]; go_num, hB.out⟩
noncomputable def crdOps : Array Oper := regionOf Try.f12 3
set_option maxRecDepth 100000 in
set_option maxHeartbeats 2000000 in
theorem crd_region (Q : Exit → Act → World → Prop) (a0 : Act) (w0 : World) (hsz : a0.tmps.size = 12) (g : Nat) (C : Cf) (hc : CellsN w0 g [.int .i64 C.nodes, .int .i64 C.slots, .int .i64 C.pages, .int .i64 C.room, .int .i64 C.chunk, .int .i64 C.buffer, .int .i64 C.queue, .int .i64 C.wear]) (hO : OkC C) (e1 : a0.tmps.getD 1 undef = .pointer (some ⟨g, 0, none⟩))
    (hQ : ∀ (g : Nat → Value) (w : World), g 2 = .int .i64 (C.nodes * (chunksC C + 1)) → Below w0.heap.size w0 w → Q .normal { tmps := [6, 7, 8, 9, 10, 11, 2].foldl (fun t s => t.setIfInBounds s (g s)) a0.tmps, defers := a0.defers } w) :
    (Code.region 3 crdOps true).wp Try.prog Q a0 w0 := by
  have h1 := hO.nodes
  have h2 := hO.slots
  have h3 := hO.room
  have h4 := chunksC_range hO
  have h5 : C.nodes * (chunksC C + 1) ≤ 8 * 9 := Int.le_trans (Int.mul_le_mul_of_nonneg_right h1.2 (by omega)) (Int.mul_le_mul_of_nonneg_left (by omega) (by omega))
  have h6 : 0 ≤ C.nodes * (chunksC C + 1) := Int.mul_nonneg (by omega) (by omega)
  refine wp_region_flow mixed (by rw [hsz]; kernel_rfl) ?_
  rw [show crdOps.size = 7 by kernel_rfl]
  refine ⟨isVal (.pointer (some ⟨g, 0, none⟩)), step_field 23 (.tmp 1) 0 ⟨g, 0, none⟩ ⟨g, 0, none⟩ (by kernel_rfl) (wanted_none (by kernel_rfl)) (knows_old 1 (.pointer (some ⟨g, 0, none⟩)) (by kernel_rfl) e1) (f_cf (g) 0 (by omega)), ?_⟩
  refine ⟨isVal (.int .i64 C.nodes), step_read 3 (.tmp 6) ⟨g, 0, none⟩ (.int .i64 C.nodes) (by kernel_rfl) (wanted_none (by kernel_rfl)) (knows_new (V := isVal (.pointer (some ⟨g, 0, none⟩))) 6 0 (by kernel_rfl) (by kernel_rfl) (by kernel_rfl)) ((hc).2 0 _ rfl) (hc).1 (agg_in), ?_⟩
  refine ⟨isVal (.agg #[.int .i64 C.nodes, .int .i64 C.slots, .int .i64 C.pages, .int .i64 C.room, .int .i64 C.chunk, .int .i64 C.buffer, .int .i64 C.queue, .int .i64 C.wear]), step_loadN 23 (.tmp 1) (g) [.int .i64 C.nodes, .int .i64 C.slots, .int .i64 C.pages, .int .i64 C.room, .int .i64 C.chunk, .int .i64 C.buffer, .int .i64 C.queue, .int .i64 C.wear] (by kernel_rfl) (wanted_none (by kernel_rfl)) (knows_old 1 (.pointer (some ⟨g, 0, none⟩)) (by kernel_rfl) e1) size_cf agg_cf (hc), ?_⟩
  refine ⟨isVal (.int .i64 (chunksC C)), step_call 11 #[.tmp 8] #[23] #[.agg #[.int .i64 C.nodes, .int .i64 C.slots, .int .i64 C.pages, .int .i64 C.room, .int .i64 C.chunk, .int .i64 C.buffer, .int .i64 C.queue, .int .i64 C.wear]] (by kernel_rfl) (wanted_none (by kernel_rfl)) (stable_val _) (args1 (.tmp 8) (.agg #[.int .i64 C.nodes, .int .i64 C.slots, .int .i64 C.pages, .int .i64 C.room, .int .i64 C.chunk, .int .i64 C.buffer, .int .i64 C.queue, .int .i64 C.wear]) (knows_new (V := isVal (.agg #[.int .i64 C.nodes, .int .i64 C.slots, .int .i64 C.pages, .int .i64 C.room, .int .i64 C.chunk, .int .i64 C.buffer, .int .i64 C.queue, .int .i64 C.wear])) 8 2 (by kernel_rfl) (by kernel_rfl) (by kernel_rfl))) (enters_of Try.func11 (by kernel_rfl) rfl) (by intro w' hb; exact cv1 (cchunks_any C w')), ?_⟩
  refine ⟨isVal (.int .i64 ((chunksC C) + 1)), step_bin .add 3 3 (.tmp 9) (.const (.int .i64 1)) (.int .i64 (chunksC C)) (.int .i64 1) (.int .i64 ((chunksC C) + 1)) (by kernel_rfl) (wanted_none (by kernel_rfl)) (knows_new (V := isVal (.int .i64 (chunksC C))) 9 3 (by kernel_rfl) (by kernel_rfl) (by kernel_rfl)) (knows_const _) (fun _ => rfl) (add_v (chunksC C) 1 ((chunksC C) + 1) (by omega) (by omega) (by omega)), ?_⟩
  refine ⟨isVal (.int .i64 (C.nodes * (chunksC C + 1))), step_bin .mul 3 3 (.tmp 7) (.tmp 10) (.int .i64 C.nodes) (.int .i64 ((chunksC C) + 1)) (.int .i64 (C.nodes * (chunksC C + 1))) (by kernel_rfl) (wanted_none (by kernel_rfl)) (knows_new (V := isVal (.int .i64 C.nodes)) 7 1 (by kernel_rfl) (by kernel_rfl) (by kernel_rfl)) (knows_new (V := isVal (.int .i64 ((chunksC C) + 1))) 10 4 (by kernel_rfl) (by kernel_rfl) (by kernel_rfl)) (fun _ => rfl) (mul_v C.nodes ((chunksC C) + 1) (C.nodes * (chunksC C + 1)) (by omega) (by omega) (by omega)), ?_⟩
  refine ⟨isVal (.int .i64 (C.nodes * (chunksC C + 1))), step_assign (.tmp 11) (by kernel_rfl) (wanted_none (by kernel_rfl)) (stable_val _) (knows_new (V := isVal (.int .i64 (C.nodes * (chunksC C + 1)))) 11 5 (by kernel_rfl) (by kernel_rfl) (by kernel_rfl)), ?_⟩
  intro a w hkp hb hd
  rw [kept_of hkp [some 6, some 7, some 8, some 9, some 10, some 11, some 2] [6, 7, 8, 9, 10, 11, 2] (by kernel_rfl) (by decide)]
  have d2 := fdone_of (hd 6 (by rw [show crdOps.size = 7 by kernel_rfl]; decide)) (t := 2) (V := isVal (.int .i64 (C.nodes * (chunksC C + 1)))) (by kernel_rfl) (by kernel_rfl)
  exact hQ (fun s => a.tmps.getD s undef) w d2 hb
set_option maxRecDepth 100000 in
set_option maxHeartbeats 2000000 in
theorem crounds_any (C : Cf) (w : World) : Calls Try.prog 12 #[(.agg #[.int .i64 C.nodes, .int .i64 C.slots, .int .i64 C.pages, .int .i64 C.room, .int .i64 C.chunk, .int .i64 C.buffer, .int .i64 C.queue, .int .i64 C.wear])] w fun e w' => e = .returned (.int .i64 (roundsC C)) ∧ Below w.heap.size w w' := by
  obtain ⟨hB, HC⟩ := cbox w C w.heap.size rfl
  have kc0 := HC.out.cells.2 0 _ rfl
  have kc1 := HC.out.cells.2 1 _ rfl
  have kc2 := HC.out.cells.2 2 _ rfl
  have kc3 := HC.out.cells.2 3 _ rfl
  have kc4 := HC.out.cells.2 4 _ rfl
  have kc5 := HC.out.cells.2 5 _ rfl
  have kc6 := HC.out.cells.2 6 _ rfl
  have kc7 := HC.out.cells.2 7 _ rfl
  go_enter Try.func12, Try.ntmps12
  go_wp2_with fail
  clear kc0 kc1 kc2 kc3 kc4 kc5 kc6 kc7
  generalize w.alloc (.cells #[.int .i64 C.nodes, .int .i64 C.slots, .int .i64 C.pages, .int .i64 C.room, .int .i64 C.chunk, .int .i64 C.buffer, .int .i64 C.queue, .int .i64 C.wear] 23) = W0 at *
  refine (ccheck_any C W0).mono ?_
  rintro e W1 ⟨rfl, hb⟩
  replace hB := Kept.mk (hB.out.trans (hb.mono hB.out.size))
  replace HC := Kept.mk (HC.out.keep hb)
  clear hb
  cases hok : okC C with
  | false =>
    rw [chkC_no hok]
    have HZ := Kept.mk hok
    clear hok
    go_wp2
    go_ret
    exact ⟨by unfold roundsC; rw [HZ.out]; rfl, hB.out⟩
  | true =>
    rw [chkC_yes hok]
    have HO := Kept.mk (okC_spec.1 hok)
    have HZ := Kept.mk hok
    clear hok
    go_wp2_with fail
    refine crd_region _ _ _ rfl w.heap.size C HC.out.cells HO.out rfl ?_
    intro f9 W9 d2 hb9
    simp only [List.foldl_cons, List.foldl_nil, d2]
    generalize f9 6 = y6
    generalize f9 7 = y7
    generalize f9 8 = y8
    generalize f9 9 = y9
    generalize f9 10 = y10
    generalize f9 11 = y11
    clear d2
    simp only [List.setIfInBounds_toArray, List.set_cons_succ, List.set_cons_zero]
    replace hB := Kept.mk (hB.out.trans (hb9.mono hB.out.size))
    replace HC := Kept.mk (HC.out.keep hb9)
    clear hb9
    go_wp2
    go_ret
    exact ⟨by unfold roundsC; rw [if_pos HZ.out]; rfl, hB.out⟩
set_option maxRecDepth 100000 in
set_option maxHeartbeats 2000000 in
theorem cwork_any (C : Cf) (w : World) : Calls Try.prog 7 #[(.agg #[.int .i64 C.nodes, .int .i64 C.slots, .int .i64 C.pages, .int .i64 C.room, .int .i64 C.chunk, .int .i64 C.buffer, .int .i64 C.queue, .int .i64 C.wear])] w fun e w' => e = .returned (.int .i64 (workC C)) ∧ Below w.heap.size w w' := by
  obtain ⟨hB, HC⟩ := cbox w C w.heap.size rfl
  have kc0 := HC.out.cells.2 0 _ rfl
  have kc1 := HC.out.cells.2 1 _ rfl
  have kc2 := HC.out.cells.2 2 _ rfl
  have kc3 := HC.out.cells.2 3 _ rfl
  have kc4 := HC.out.cells.2 4 _ rfl
  have kc5 := HC.out.cells.2 5 _ rfl
  have kc6 := HC.out.cells.2 6 _ rfl
  have kc7 := HC.out.cells.2 7 _ rfl
  go_enter Try.func7, Try.ntmps7
  go_wp2_with fail
  clear kc0 kc1 kc2 kc3 kc4 kc5 kc6 kc7
  generalize w.alloc (.cells #[.int .i64 C.nodes, .int .i64 C.slots, .int .i64 C.pages, .int .i64 C.room, .int .i64 C.chunk, .int .i64 C.buffer, .int .i64 C.queue, .int .i64 C.wear] 23) = W0 at *
  refine (ccheck_any C W0).mono ?_
  rintro e W1 ⟨rfl, hb⟩
  replace hB := Kept.mk (hB.out.trans (hb.mono hB.out.size))
  replace HC := Kept.mk (HC.out.keep hb)
  clear hb
  cases hok : okC C with
  | false =>
    rw [chkC_no hok]
    have HZ := Kept.mk hok
    clear hok
    go_wp2
    go_ret
    exact ⟨by unfold workC; rw [HZ.out]; rfl, hB.out⟩
  | true =>
    rw [chkC_yes hok]
    have HO := Kept.mk (okC_spec.1 hok)
    have HZ := Kept.mk hok
    clear hok
    have kc0 := HC.out.cells.2 0 _ rfl
    have kc1 := HC.out.cells.2 1 _ rfl
    have kc2 := HC.out.cells.2 2 _ rfl
    have kc3 := HC.out.cells.2 3 _ rfl
    have kc4 := HC.out.cells.2 4 _ rfl
    have kc5 := HC.out.cells.2 5 _ rfl
    have kc6 := HC.out.cells.2 6 _ rfl
    have kc7 := HC.out.cells.2 7 _ rfl
    have h1 := HO.out.slots
    have h2 := HO.out.room
    go_wp2
    go_ret
    exact ⟨by unfold workC; rw [if_pos HZ.out]; go_num, hB.out⟩
theorem size_i6 : (Try.prog.info? 29).map (·.size) = some 6 := by kernel_rfl
theorem agg_i6 (w : World) : (isAgg 29).run Try.prog w = .ok true w := by simp [isAgg, run_underlying Try.underlying29]
theorem built_i6 (a b c d e f : Int) : Try.prog.built 29 [(0, .int .i64 a), (1, .int .i64 b), (2, .int .i64 c), (3, .int .i64 d), (4, .int .i64 e), (5, .int .i64 f)] = some #[.int .i64 a, .int .i64 b, .int .i64 c, .int .i64 d, .int .i64 e, .int .i64 f] := by kernel_rfl
theorem built_z6 : Try.prog.built 29 [] = some #[.int .i64 0, .int .i64 0, .int .i64 0, .int .i64 0, .int .i64 0, .int .i64 0] := by kernel_rfl
theorem ones_i6 (a b c d e f : Int) : Ones [.int .i64 a, .int .i64 b, .int .i64 c, .int .i64 d, .int .i64 e, .int .i64 f] := ⟨rfl, rfl, rfl, rfl, rfl, rfl, trivial⟩
/-- What there is, as it is told. -/
def footV (C : Cf) : Value := .agg ((footC C).map (fun x => Value.int .i64 x)).toArray
theorem footV_yes {C : Cf} (h : okC C = true) : footV C = .agg #[.int .i64 C.pages, .int .i64 (sizeC C), .int .i64 C.slots, .int .i64 (2 * C.buffer), .int .i64 (2 * C.nodes), .int .i64 C.queue] := by unfold footV footC; rw [if_pos h]; rfl
theorem footV_no {C : Cf} (h : okC C = false) : footV C = .agg #[.int .i64 0, .int .i64 0, .int .i64 0, .int .i64 0, .int .i64 0, .int .i64 0] := by unfold footV footC; rw [h]; rfl
noncomputable def cftOps : Array Oper := regionOf Try.f8 3
set_option maxRecDepth 100000 in
set_option maxHeartbeats 2000000 in
theorem cft_region (Q : Exit → Act → World → Prop) (a0 : Act) (w0 : World) (hsz : a0.tmps.size = 22) (r : Nat) (old : List Value) (g : Nat) (C : Cf) (hc : CellsN w0 g [.int .i64 C.nodes, .int .i64 C.slots, .int .i64 C.pages, .int .i64 C.room, .int .i64 C.chunk, .int .i64 C.buffer, .int .i64 C.queue, .int .i64 C.wear]) (hO : OkC C) (e1 : a0.tmps.getD 1 undef = .pointer (some ⟨g, 0, none⟩)) (e2 : a0.tmps.getD 2 undef = .pointer (some ⟨r, 0, none⟩)) (hr : Hold w0 r old) (hol : old.length = 6)
    (hQ : ∀ (a : Act) (w : World), a.defers = a0.defers → a.tmps.getD 2 undef = .pointer (some ⟨r, 0, none⟩) → Below w0.heap.size w0 w → Q .normal a (setN w r 0 [.int .i64 C.pages, .int .i64 (sizeC C), .int .i64 C.slots, .int .i64 (2 * C.buffer), .int .i64 (2 * C.nodes), .int .i64 C.queue])) :
    (Code.region 3 cftOps true).wp Try.prog Q a0 w0 := by
  have h1 := hO.nodes
  have h2 := hO.buffer
  refine wp_region_tail 15 mixed (by rw [hsz]; kernel_rfl) (by kernel_rfl) ?_
  rw [show cftOps.size - 15 = 1 by kernel_rfl]
  refine ⟨isVal (.pointer (some ⟨g, 2, none⟩)), step_field 23 (.tmp 1) 2 ⟨g, 0, none⟩ ⟨g, 2, none⟩ (by kernel_rfl) (wanted_none (by kernel_rfl)) (knows_old 1 (.pointer (some ⟨g, 0, none⟩)) (by kernel_rfl) e1) (f_cf (g) 2 (by omega)), ?_⟩
  refine ⟨isVal (.int .i64 C.pages), step_read 3 (.tmp 7) ⟨g, 2, none⟩ (.int .i64 C.pages) (by kernel_rfl) (wanted_none (by kernel_rfl)) (knows_new (V := isVal (.pointer (some ⟨g, 2, none⟩))) 7 0 (by kernel_rfl) (by kernel_rfl) (by kernel_rfl)) ((hc).2 2 _ rfl) (hc).1 (agg_in), ?_⟩
  refine ⟨isVal (.agg #[.int .i64 C.nodes, .int .i64 C.slots, .int .i64 C.pages, .int .i64 C.room, .int .i64 C.chunk, .int .i64 C.buffer, .int .i64 C.queue, .int .i64 C.wear]), step_loadN 23 (.tmp 1) (g) [.int .i64 C.nodes, .int .i64 C.slots, .int .i64 C.pages, .int .i64 C.room, .int .i64 C.chunk, .int .i64 C.buffer, .int .i64 C.queue, .int .i64 C.wear] (by kernel_rfl) (wanted_none (by kernel_rfl)) (knows_old 1 (.pointer (some ⟨g, 0, none⟩)) (by kernel_rfl) e1) size_cf agg_cf (hc), ?_⟩
  refine ⟨isVal (.int .i64 (sizeC C)), step_call 9 #[.tmp 9] #[23] #[.agg #[.int .i64 C.nodes, .int .i64 C.slots, .int .i64 C.pages, .int .i64 C.room, .int .i64 C.chunk, .int .i64 C.buffer, .int .i64 C.queue, .int .i64 C.wear]] (by kernel_rfl) (wanted_none (by kernel_rfl)) (stable_val _) (args1 (.tmp 9) (.agg #[.int .i64 C.nodes, .int .i64 C.slots, .int .i64 C.pages, .int .i64 C.room, .int .i64 C.chunk, .int .i64 C.buffer, .int .i64 C.queue, .int .i64 C.wear]) (knows_new (V := isVal (.agg #[.int .i64 C.nodes, .int .i64 C.slots, .int .i64 C.pages, .int .i64 C.room, .int .i64 C.chunk, .int .i64 C.buffer, .int .i64 C.queue, .int .i64 C.wear])) 9 2 (by kernel_rfl) (by kernel_rfl) (by kernel_rfl))) (enters_of Try.func9 (by kernel_rfl) rfl) (by intro w' hb; exact cv1 (csize_any C w')), ?_⟩
  refine ⟨isVal (.pointer (some ⟨g, 1, none⟩)), step_field 23 (.tmp 1) 1 ⟨g, 0, none⟩ ⟨g, 1, none⟩ (by kernel_rfl) (wanted_none (by kernel_rfl)) (knows_old 1 (.pointer (some ⟨g, 0, none⟩)) (by kernel_rfl) e1) (f_cf (g) 1 (by omega)), ?_⟩
  refine ⟨isVal (.int .i64 C.slots), step_read 3 (.tmp 11) ⟨g, 1, none⟩ (.int .i64 C.slots) (by kernel_rfl) (wanted_none (by kernel_rfl)) (knows_new (V := isVal (.pointer (some ⟨g, 1, none⟩))) 11 4 (by kernel_rfl) (by kernel_rfl) (by kernel_rfl)) ((hc).2 1 _ rfl) (hc).1 (agg_in), ?_⟩
  refine ⟨isVal (.pointer (some ⟨g, 5, none⟩)), step_field 23 (.tmp 1) 5 ⟨g, 0, none⟩ ⟨g, 5, none⟩ (by kernel_rfl) (wanted_none (by kernel_rfl)) (knows_old 1 (.pointer (some ⟨g, 0, none⟩)) (by kernel_rfl) e1) (f_cf (g) 5 (by omega)), ?_⟩
  refine ⟨isVal (.int .i64 C.buffer), step_read 3 (.tmp 13) ⟨g, 5, none⟩ (.int .i64 C.buffer) (by kernel_rfl) (wanted_none (by kernel_rfl)) (knows_new (V := isVal (.pointer (some ⟨g, 5, none⟩))) 13 6 (by kernel_rfl) (by kernel_rfl) (by kernel_rfl)) ((hc).2 5 _ rfl) (hc).1 (agg_in), ?_⟩
  refine ⟨isVal (.int .i64 (2 * C.buffer)), step_bin .mul 3 3 (.const (.int .i64 2)) (.tmp 14) (.int .i64 2) (.int .i64 C.buffer) (.int .i64 (2 * C.buffer)) (by kernel_rfl) (wanted_none (by kernel_rfl)) (knows_const _) (knows_new (V := isVal (.int .i64 C.buffer)) 14 7 (by kernel_rfl) (by kernel_rfl) (by kernel_rfl)) (fun _ => rfl) (mul_v 2 C.buffer (2 * C.buffer) (by omega) (by omega) (by omega)), ?_⟩
  refine ⟨isVal (.pointer (some ⟨g, 0, none⟩)), step_field 23 (.tmp 1) 0 ⟨g, 0, none⟩ ⟨g, 0, none⟩ (by kernel_rfl) (wanted_none (by kernel_rfl)) (knows_old 1 (.pointer (some ⟨g, 0, none⟩)) (by kernel_rfl) e1) (f_cf (g) 0 (by omega)), ?_⟩
  refine ⟨isVal (.int .i64 C.nodes), step_read 3 (.tmp 16) ⟨g, 0, none⟩ (.int .i64 C.nodes) (by kernel_rfl) (wanted_none (by kernel_rfl)) (knows_new (V := isVal (.pointer (some ⟨g, 0, none⟩))) 16 9 (by kernel_rfl) (by kernel_rfl) (by kernel_rfl)) ((hc).2 0 _ rfl) (hc).1 (agg_in), ?_⟩
  refine ⟨isVal (.int .i64 (2 * C.nodes)), step_bin .mul 3 3 (.const (.int .i64 2)) (.tmp 17) (.int .i64 2) (.int .i64 C.nodes) (.int .i64 (2 * C.nodes)) (by kernel_rfl) (wanted_none (by kernel_rfl)) (knows_const _) (knows_new (V := isVal (.int .i64 C.nodes)) 17 10 (by kernel_rfl) (by kernel_rfl) (by kernel_rfl)) (fun _ => rfl) (mul_v 2 C.nodes (2 * C.nodes) (by omega) (by omega) (by omega)), ?_⟩
  refine ⟨isVal (.pointer (some ⟨g, 6, none⟩)), step_field 23 (.tmp 1) 6 ⟨g, 0, none⟩ ⟨g, 6, none⟩ (by kernel_rfl) (wanted_none (by kernel_rfl)) (knows_old 1 (.pointer (some ⟨g, 0, none⟩)) (by kernel_rfl) e1) (f_cf (g) 6 (by omega)), ?_⟩
  refine ⟨isVal (.int .i64 C.queue), step_read 3 (.tmp 19) ⟨g, 6, none⟩ (.int .i64 C.queue) (by kernel_rfl) (wanted_none (by kernel_rfl)) (knows_new (V := isVal (.pointer (some ⟨g, 6, none⟩))) 19 12 (by kernel_rfl) (by kernel_rfl) (by kernel_rfl)) ((hc).2 6 _ rfl) (hc).1 (agg_in), ?_⟩
  refine ⟨isVal (.agg #[.int .i64 C.pages, .int .i64 (sizeC C), .int .i64 C.slots, .int .i64 (2 * C.buffer), .int .i64 (2 * C.nodes), .int .i64 C.queue]), step_buildP 29 #[(0, .tmp 8), (1, .tmp 10), (2, .tmp 12), (3, .tmp 15), (4, .tmp 18), (5, .tmp 20)] (by kernel_rfl) (wanted_none (by kernel_rfl)) (stable_val _) (by
    intro a w hk hd
    have e0 : a.eval (.tmp 8) = (.int .i64 C.pages) := (knows_new (V := isVal (.int .i64 C.pages)) 8 1 (by kernel_rfl) (by kernel_rfl) (by kernel_rfl)) a w hk hd
    have e1 : a.eval (.tmp 10) = (.int .i64 (sizeC C)) := (knows_new (V := isVal (.int .i64 (sizeC C))) 10 3 (by kernel_rfl) (by kernel_rfl) (by kernel_rfl)) a w hk hd
    have e2 : a.eval (.tmp 12) = (.int .i64 C.slots) := (knows_new (V := isVal (.int .i64 C.slots)) 12 5 (by kernel_rfl) (by kernel_rfl) (by kernel_rfl)) a w hk hd
    have e3 : a.eval (.tmp 15) = (.int .i64 (2 * C.buffer)) := (knows_new (V := isVal (.int .i64 (2 * C.buffer))) 15 8 (by kernel_rfl) (by kernel_rfl) (by kernel_rfl)) a w hk hd
    have e4 : a.eval (.tmp 18) = (.int .i64 (2 * C.nodes)) := (knows_new (V := isVal (.int .i64 (2 * C.nodes))) 18 11 (by kernel_rfl) (by kernel_rfl) (by kernel_rfl)) a w hk hd
    have e5 : a.eval (.tmp 20) = (.int .i64 C.queue) := (knows_new (V := isVal (.int .i64 C.queue)) 20 13 (by kernel_rfl) (by kernel_rfl) (by kernel_rfl)) a w hk hd
    exact ⟨_, by simpa [e0, e1, e2, e3, e4, e5] using (built_i6 _ _ _ _ _ _), rfl⟩), ?_⟩
  intro a w hk hb hd
  have d21 := fdone_of (hd 14 (by decide)) (t := 21) (V := isVal (.agg #[.int .i64 C.pages, .int .i64 (sizeC C), .int .i64 C.slots, .int .i64 (2 * C.buffer), .int .i64 (2 * C.nodes), .int .i64 C.queue])) (by kernel_rfl) (by kernel_rfl)
  have e2' : a.tmps.getD 2 undef = .pointer (some ⟨r, 0, none⟩) := (hk.2.2 2 (by kernel_rfl)).trans e2
  refine tail_storeN 29 (.tmp 2) (.tmp 21) r [.int .i64 C.pages, .int .i64 (sizeC C), .int .i64 C.slots, .int .i64 (2 * C.buffer), .int .i64 (2 * C.nodes), .int .i64 C.queue] old (by kernel_rfl) (by kernel_rfl) size_i6 e2' d21 (hr.keep hb).cells hol (hr.keep hb).free (ones_i6 _ _ _ _ _ _) ?_
  exact hQ a w hk.1 e2' hb
set_option maxRecDepth 100000 in
set_option maxHeartbeats 2000000 in
theorem cft_any (C : Cf) (w : World) : Calls Try.prog 8 #[(.agg #[.int .i64 C.nodes, .int .i64 C.slots, .int .i64 C.pages, .int .i64 C.room, .int .i64 C.chunk, .int .i64 C.buffer, .int .i64 C.queue, .int .i64 C.wear])] w fun e w' => e = .returned (footV C) ∧ Below w.heap.size w w' := by
  obtain ⟨hB, HC⟩ := cbox w C w.heap.size rfl
  have hb6 : Below (w.alloc (.cells #[.int .i64 C.nodes, .int .i64 C.slots, .int .i64 C.pages, .int .i64 C.room, .int .i64 C.chunk, .int .i64 C.buffer, .int .i64 C.queue, .int .i64 C.wear] 23)).heap.size (w.alloc (.cells #[.int .i64 C.nodes, .int .i64 C.slots, .int .i64 C.pages, .int .i64 C.room, .int .i64 C.chunk, .int .i64 C.buffer, .int .i64 C.queue, .int .i64 C.wear] 23)) ((w.alloc (.cells #[.int .i64 C.nodes, .int .i64 C.slots, .int .i64 C.pages, .int .i64 C.room, .int .i64 C.chunk, .int .i64 C.buffer, .int .i64 C.queue, .int .i64 C.wear] 23)).alloc (.cells #[.int .i64 0, .int .i64 0, .int .i64 0, .int .i64 0, .int .i64 0, .int .i64 0] 29)) := (Below.refl _ _).alloc (Nat.le_refl _) _
  have HR := Kept.mk (Hold.new (w.alloc (.cells #[.int .i64 C.nodes, .int .i64 C.slots, .int .i64 C.pages, .int .i64 C.room, .int .i64 C.chunk, .int .i64 C.buffer, .int .i64 C.queue, .int .i64 C.wear] 23)) 29 [.int .i64 0, .int .i64 0, .int .i64 0, .int .i64 0, .int .i64 0, .int .i64 0] (w.heap.size + 1) (by simp))
  replace hB := Kept.mk (hB.out.trans (hb6.mono hB.out.size))
  replace HC := Kept.mk (HC.out.keep hb6)
  clear hb6
  have kc0 := HC.out.cells.2 0 _ rfl
  have kc1 := HC.out.cells.2 1 _ rfl
  have kc2 := HC.out.cells.2 2 _ rfl
  have kc3 := HC.out.cells.2 3 _ rfl
  have kc4 := HC.out.cells.2 4 _ rfl
  have kc5 := HC.out.cells.2 5 _ rfl
  have kc6 := HC.out.cells.2 6 _ rfl
  have kc7 := HC.out.cells.2 7 _ rfl
  go_enter Try.func8, Try.ntmps8
  go_wp2_with fail
  clear kc0 kc1 kc2 kc3 kc4 kc5 kc6 kc7
  generalize (w.alloc (.cells #[.int .i64 C.nodes, .int .i64 C.slots, .int .i64 C.pages, .int .i64 C.room, .int .i64 C.chunk, .int .i64 C.buffer, .int .i64 C.queue, .int .i64 C.wear] 23)).alloc (.cells #[.int .i64 0, .int .i64 0, .int .i64 0, .int .i64 0, .int .i64 0, .int .i64 0] 29) = W0 at *
  refine (ccheck_any C W0).mono ?_
  rintro e W1 ⟨rfl, hb⟩
  replace HR := Kept.mk (HR.out.keep hb)
  replace hB := Kept.mk (hB.out.trans (hb.mono hB.out.size))
  replace HC := Kept.mk (HC.out.keep hb)
  clear hb
  cases hok : okC C with
  | false =>
    rw [chkC_no hok]
    have HZ := Kept.mk hok
    clear hok
    have KO := Kept.mk (ones_i6 0 0 0 0 0 0)
    have hbz := fun ws : World => run_build (P := Try.prog) ws 29 #[] _ built_z6
    go_wp2_with (have hz0 := KO; refine wpList_storeN 29 rfl (.tmp 2) (.tmp 6) rfl (w.heap.size + 1) [.int .i64 0, .int .i64 0, .int .i64 0, .int .i64 0, .int .i64 0, .int .i64 0] size_i6 rfl rfl HR.out.cells rfl HR.out.free KO.out ?_; clear hz0 KO)
    have hH := HR.out.all_ (l := [.int .i64 0, .int .i64 0, .int .i64 0, .int .i64 0, .int .i64 0, .int .i64 0]) rfl
    refine bodyPost_ret (resultsN1 rfl _ _ (w.heap.size + 1) [.int .i64 0, .int .i64 0, .int .i64 0, .int .i64 0, .int .i64 0, .int .i64 0] size_i6 agg_i6 rfl hH.cells) rfl ?_
    exact ⟨by rw [footV_no HZ.out], below_setN (by omega) _ 0 _ hB.out⟩
  | true =>
    rw [chkC_yes hok]
    have HO := Kept.mk (okC_spec.1 hok)
    have HZ := Kept.mk hok
    clear hok
    go_wp2_with fail
    refine cft_region _ _ _ rfl (w.heap.size + 1) _ w.heap.size C HC.out.cells HO.out rfl rfl HR.out rfl ?_
    intro a w2 hd h2 hb9
    replace HR := Kept.mk (HR.out.keep hb9)
    replace hB := Kept.mk (hB.out.trans (hb9.mono hB.out.size))
    go_wp2
    have hH := HR.out.all_ (l := [.int .i64 C.pages, .int .i64 (sizeC C), .int .i64 C.slots, .int .i64 (2 * C.buffer), .int .i64 (2 * C.nodes), .int .i64 C.queue]) rfl
    refine bodyPost_ret (resultsN1 rfl _ _ (w.heap.size + 1) [.int .i64 C.pages, .int .i64 (sizeC C), .int .i64 C.slots, .int .i64 (2 * C.buffer), .int .i64 (2 * C.nodes), .int .i64 C.queue] size_i6 agg_i6 h2 hH.cells) hd ?_
    exact ⟨by rw [footV_yes HZ.out], below_setN (by omega) _ 0 _ hB.out⟩
end Go.Proofs.Ytpjafjnokgeifab
end
section
namespace Go.Proofs.Ytpjafjnokgeifab
open Go.RowKit
set_option linter.unusedVariables false
set_option linter.unusedSimpArgs false
attribute [local irreducible] setN

def cP : Cf := ⟨3, 5, 3, 10, 2, 2, 3, 1000⟩
def cD : Cf := ⟨3, 5, 3, 7, 2, 2, 3, 1000⟩
def cZ : Cf := ⟨0, 0, 0, 0, 0, 0, 0, 0⟩
theorem built_c (x0 x1 x2 x3 x4 x5 x6 x7 : Int) : Try.prog.built 23 [(0, .int .i64 x0), (1, .int .i64 x1), (2, .int .i64 x2), (3, .int .i64 x3), (4, .int .i64 x4), (5, .int .i64 x5), (6, .int .i64 x6), (7, .int .i64 x7)] = some #[.int .i64 x0, .int .i64 x1, .int .i64 x2, .int .i64 x3, .int .i64 x4, .int .i64 x5, .int .i64 x6, .int .i64 x7] := by kernel_rfl
theorem built_cz : Try.prog.built 23 [] = some #[.int .i64 0, .int .i64 0, .int .i64 0, .int .i64 0, .int .i64 0, .int .i64 0, .int .i64 0, .int .i64 0] := by kernel_rfl
theorem wchk_P (w : World) : Calls Try.prog 6 #[.agg #[.int .i64 3, .int .i64 5, .int .i64 3, .int .i64 10, .int .i64 2, .int .i64 2, .int .i64 3, .int .i64 1000]] w fun e w' => e = .returned (.int .i64 0) ∧ Below w.heap.size w w' := ccheck_any cP w
theorem wchk_D (w : World) : Calls Try.prog 6 #[.agg #[.int .i64 3, .int .i64 5, .int .i64 3, .int .i64 7, .int .i64 2, .int .i64 2, .int .i64 3, .int .i64 1000]] w fun e w' => e = .returned (.int .i64 1) ∧ Below w.heap.size w w' := ccheck_any cD w
theorem wchk_Z (w : World) : Calls Try.prog 6 #[.agg #[.int .i64 0, .int .i64 0, .int .i64 0, .int .i64 0, .int .i64 0, .int .i64 0, .int .i64 0, .int .i64 0]] w fun e w' => e = .returned (.int .i64 1) ∧ Below w.heap.size w w' := ccheck_any cZ w
theorem wsize_P (w : World) : Calls Try.prog 9 #[.agg #[.int .i64 3, .int .i64 5, .int .i64 3, .int .i64 10, .int .i64 2, .int .i64 2, .int .i64 3, .int .i64 1000]] w fun e w' => e = .returned (.int .i64 920) ∧ Below w.heap.size w w' := csize_any cP w
theorem wchunks_P (w : World) : Calls Try.prog 11 #[.agg #[.int .i64 3, .int .i64 5, .int .i64 3, .int .i64 10, .int .i64 2, .int .i64 2, .int .i64 3, .int .i64 1000]] w fun e w' => e = .returned (.int .i64 3) ∧ Below w.heap.size w w' := cchunks_any cP w
theorem wrounds_P (w : World) : Calls Try.prog 12 #[.agg #[.int .i64 3, .int .i64 5, .int .i64 3, .int .i64 10, .int .i64 2, .int .i64 2, .int .i64 3, .int .i64 1000]] w fun e w' => e = .returned (.int .i64 12) ∧ Below w.heap.size w w' := crounds_any cP w
theorem wwork_P (w : World) : Calls Try.prog 7 #[.agg #[.int .i64 3, .int .i64 5, .int .i64 3, .int .i64 10, .int .i64 2, .int .i64 2, .int .i64 3, .int .i64 1000]] w fun e w' => e = .returned (.int .i64 110) ∧ Below w.heap.size w w' := cwork_any cP w
theorem wfoot_P (w : World) : Calls Try.prog 8 #[.agg #[.int .i64 3, .int .i64 5, .int .i64 3, .int .i64 10, .int .i64 2, .int .i64 2, .int .i64 3, .int .i64 1000]] w fun e w' => e = .returned (.agg #[.int .i64 3, .int .i64 920, .int .i64 5, .int .i64 4, .int .i64 6, .int .i64 3]) ∧ Below w.heap.size w w' := cft_any cP w
theorem wfoot_D (w : World) : Calls Try.prog 8 #[.agg #[.int .i64 3, .int .i64 5, .int .i64 3, .int .i64 7, .int .i64 2, .int .i64 2, .int .i64 3, .int .i64 1000]] w fun e w' => e = .returned (.agg #[.int .i64 0, .int .i64 0, .int .i64 0, .int .i64 0, .int .i64 0, .int .i64 0]) ∧ Below w.heap.size w w' := cft_any cD w
set_option maxRecDepth 100000 in
set_option maxHeartbeats 2000000 in
theorem wplain (w : World) : Calls Try.prog 10 #[] w fun e w' => e = .returned (.agg #[.int .i64 3, .int .i64 5, .int .i64 3, .int .i64 10, .int .i64 2, .int .i64 2, .int .i64 3, .int .i64 1000]) ∧ Below w.heap.size w w' := by
  obtain ⟨hB, HC⟩ := hbox w 23 [.int .i64 0, .int .i64 0, .int .i64 0, .int .i64 0, .int .i64 0, .int .i64 0, .int .i64 0, .int .i64 0] w.heap.size rfl
  have hbz := fun ws : World => run_build (P := Try.prog) ws 23 #[(0, .int .i64 3), (1, .int .i64 5), (2, .int .i64 3), (3, .int .i64 10), (4, .int .i64 2), (5, .int .i64 2), (6, .int .i64 3), (7, .int .i64 1000)] _ (built_c 3 5 3 10 2 2 3 1000)
  go_enter Try.func10, Try.ntmps10
  go_wp2
  have H8 := Hold.new w 23 [.int .i64 3, .int .i64 5, .int .i64 3, .int .i64 10, .int .i64 2, .int .i64 2, .int .i64 3, .int .i64 1000] w.heap.size rfl
  refine bodyPost_ret (resultsN1 rfl _ _ w.heap.size [.int .i64 3, .int .i64 5, .int .i64 3, .int .i64 10, .int .i64 2, .int .i64 2, .int .i64 3, .int .i64 1000] size_cf agg_cf rfl H8.cells) rfl ?_
  exact ⟨rfl, (Below.refl _ _).alloc (Nat.le_refl _) _⟩
set_option maxRecDepth 100000 in
set_option maxHeartbeats 2000000 in
theorem eql_i6 {P : Program} (t e : TypeId) (x0 x1 x2 x3 x4 x5 y0 y1 y2 y3 y4 y5 : Int) (b : Bool) (hu : P.underlying t = some (.array 6 e)) (he : P.underlying e = some (.int .i64)) (hi : (P.info? e).map (·.size) = some 1)
    (hb : (x0 == y0 && x1 == y1 && x2 == y2 && x3 == y3 && x4 == y4 && x5 == y5) = b) (w : World) : (binOp .eql t (.agg #[.int .i64 x0, .int .i64 x1, .int .i64 x2, .int .i64 x3, .int .i64 x4, .int .i64 x5]) (.agg #[.int .i64 y0, .int .i64 y1, .int .i64 y2, .int .i64 y3, .int .i64 y4, .int .i64 y5])).run P w = .ok (.bool b) w := by
  obtain ⟨ie, hie, hz⟩ := Option.map_eq_some_iff.1 hi
  have hc : P.cellsOf e = 1 := by simp [Program.cellsOf, hie, hz]
  rw [run_eql_struct, show (10000 : Nat) = 9999 + 1 from rfl, run_equalIn_array w 9999 _ _ hu hie, hc]
  have hsz : ∀ w, (sizeOf e).run P w = .ok 1 w := fun w => by simp [sizeOf, typeInfo, hie, hz]
  rw [show List.range 6 = [0, 1, 2, 3, 4, 5] from rfl, ← hb]
  have hp : ∀ (xs : Array Value) (off : Nat) (v : Value) (w : World), xs[off]? = some v → (part e xs off).run P w = .ok v w := fun xs off v w hx => by simp [part, isAgg, run_underlying he, hx]
  have heq : ∀ (x y : Int) (w : World), (Op.equalIn 9999 e (.int .i64 x) (.int .i64 y)).run P w = .ok (x == y) w := fun x y w => run_equalIn_int w 9998 e .i64 .i64 x y he
  simp only [Op.eqItems, Sem.run_bind, Nat.zero_mul, Nat.mul_one]
  rw [hp _ 0 (.int .i64 x0) w rfl]
  simp only [Result.andThen_ok]
  rw [hp _ 0 (.int .i64 y0) w rfl]
  simp only [Result.andThen_ok]
  rw [heq x0 y0]
  cases h0 : x0 == y0 with
  | false => simp
  | true =>
    simp only [Result.andThen_ok, Bool.not_true, Bool.false_eq_true, if_false, Sem.run_pure, Sem.run_bind]
    rw [hp _ 1 (.int .i64 x1) w rfl]
    simp only [Result.andThen_ok]
    rw [hp _ 1 (.int .i64 y1) w rfl]
    simp only [Result.andThen_ok]
    rw [heq x1 y1]
    cases h1 : x1 == y1 with
    | false => simp
    | true =>
      simp only [Result.andThen_ok, Bool.not_true, Bool.false_eq_true, if_false, Sem.run_pure, Sem.run_bind]
      rw [hp _ 2 (.int .i64 x2) w rfl]
      simp only [Result.andThen_ok]
      rw [hp _ 2 (.int .i64 y2) w rfl]
      simp only [Result.andThen_ok]
      rw [heq x2 y2]
      cases h2 : x2 == y2 with
      | false => simp
      | true =>
        simp only [Result.andThen_ok, Bool.not_true, Bool.false_eq_true, if_false, Sem.run_pure, Sem.run_bind]
        rw [hp _ 3 (.int .i64 x3) w rfl]
        simp only [Result.andThen_ok]
        rw [hp _ 3 (.int .i64 y3) w rfl]
        simp only [Result.andThen_ok]
        rw [heq x3 y3]
        cases h3 : x3 == y3 with
        | false => simp
        | true =>
          simp only [Result.andThen_ok, Bool.not_true, Bool.false_eq_true, if_false, Sem.run_pure, Sem.run_bind]
          rw [hp _ 4 (.int .i64 x4) w rfl]
          simp only [Result.andThen_ok]
          rw [hp _ 4 (.int .i64 y4) w rfl]
          simp only [Result.andThen_ok]
          rw [heq x4 y4]
          cases h4 : x4 == y4 with
          | false => simp
          | true =>
            simp only [Result.andThen_ok, Bool.not_true, Bool.false_eq_true, if_false, Sem.run_pure, Sem.run_bind]
            rw [hp _ 5 (.int .i64 x5) w rfl]
            simp only [Result.andThen_ok]
            rw [hp _ 5 (.int .i64 y5) w rfl]
            simp only [Result.andThen_ok]
            rw [heq x5 y5]
            cases h5 : x5 == y5 with
            | false => simp
            | true => simp
theorem eql6_same (x0 x1 x2 x3 x4 x5 : Int) (w : World) : (binOp .eql 29 (.agg #[.int .i64 x0, .int .i64 x1, .int .i64 x2, .int .i64 x3, .int .i64 x4, .int .i64 x5]) (.agg #[.int .i64 x0, .int .i64 x1, .int .i64 x2, .int .i64 x3, .int .i64 x4, .int .i64 x5])).run Try.prog w = .ok (.bool true) w := eql_i6 _ 3 x0 x1 x2 x3 x4 x5 x0 x1 x2 x3 x4 x5 true Try.underlying29 Try.underlying3 (by kernel_rfl) (by simp) w
set_option maxRecDepth 100000 in
set_option maxHeartbeats 2000000 in
theorem cfworks_any (w : World) : Calls Try.prog 5 #[] w fun e w' => e = .returned (.bool true) ∧ Below w.heap.size w w' := by
  go_enter Try.func5, Try.ntmps5
  have hbz := fun ws : World => run_build (P := Try.prog) ws 23 #[] _ built_cz
  go_wp2_with fail
  refine (wplain w).mono ?_
  rintro e W1 ⟨rfl, hb⟩
  have hB := Kept.mk hb
  clear hb
  have he1 := fun ws : World => eql6_same 3 920 5 4 6 3 ws
  have he2 := fun ws : World => eql6_same 0 0 0 0 0 0 ws
  have HP := Kept.mk ((Hold.new W1 23 [.int .i64 3, .int .i64 5, .int .i64 3, .int .i64 10, .int .i64 2, .int .i64 2, .int .i64 3, .int .i64 1000] W1.heap.size rfl).alloc (.cells #[.int .i64 3, .int .i64 5, .int .i64 3, .int .i64 7, .int .i64 2, .int .i64 2, .int .i64 3, .int .i64 1000] 23))
  have HD := Kept.mk (Hold.new (W1.alloc (.cells #[.int .i64 3, .int .i64 5, .int .i64 3, .int .i64 10, .int .i64 2, .int .i64 2, .int .i64 3, .int .i64 1000] 23)) 23 [.int .i64 3, .int .i64 5, .int .i64 3, .int .i64 7, .int .i64 2, .int .i64 2, .int .i64 3, .int .i64 1000] (W1.heap.size + 1) (by simp))
  have hb : Below W1.heap.size W1 ((W1.alloc (.cells #[.int .i64 3, .int .i64 5, .int .i64 3, .int .i64 10, .int .i64 2, .int .i64 2, .int .i64 3, .int .i64 1000] 23)).alloc (.cells #[.int .i64 3, .int .i64 5, .int .i64 3, .int .i64 7, .int .i64 2, .int .i64 2, .int .i64 3, .int .i64 1000] 23)) := ((Below.refl _ _).alloc (Nat.le_refl _) _).alloc (by simp) _
  replace hB := Kept.mk (hB.out.trans (hb.mono hB.out.size))
  clear hb
  go_wp2_with fail
  generalize ((W1.alloc (.cells #[.int .i64 3, .int .i64 5, .int .i64 3, .int .i64 10, .int .i64 2, .int .i64 2, .int .i64 3, .int .i64 1000] 23)).alloc (.cells #[.int .i64 3, .int .i64 5, .int .i64 3, .int .i64 7, .int .i64 2, .int .i64 2, .int .i64 3, .int .i64 1000] 23)) = W2 at *
  generalize W1.heap.size = g at *
  refine (wchk_P W2).mono ?_
  rintro e W3 ⟨rfl, hb⟩
  replace hB := Kept.mk (hB.out.trans (hb.mono hB.out.size))
  replace HP := Kept.mk (HP.out.keep hb)
  replace HD := Kept.mk (HD.out.keep hb)
  clear hb
  have kp0 := HP.out.cells.2 0 _ rfl
  have kp1 := HP.out.cells.2 1 _ rfl
  have kp2 := HP.out.cells.2 2 _ rfl
  have kp3 := HP.out.cells.2 3 _ rfl
  have kp4 := HP.out.cells.2 4 _ rfl
  have kp5 := HP.out.cells.2 5 _ rfl
  have kp6 := HP.out.cells.2 6 _ rfl
  have kp7 := HP.out.cells.2 7 _ rfl
  have kd0 := HD.out.cells.2 0 _ rfl
  have kd1 := HD.out.cells.2 1 _ rfl
  have kd2 := HD.out.cells.2 2 _ rfl
  have kd3 := HD.out.cells.2 3 _ rfl
  have kd4 := HD.out.cells.2 4 _ rfl
  have kd5 := HD.out.cells.2 5 _ rfl
  have kd6 := HD.out.cells.2 6 _ rfl
  have kd7 := HD.out.cells.2 7 _ rfl
  go_wp2_with fail
  clear kp0 kd0 kp1 kd1 kp2 kd2 kp3 kd3 kp4 kd4 kp5 kd5 kp6 kd6 kp7 kd7
  refine (wchk_D W3).mono ?_
  rintro e W4 ⟨rfl, hb⟩
  replace hB := Kept.mk (hB.out.trans (hb.mono hB.out.size))
  replace HP := Kept.mk (HP.out.keep hb)
  replace HD := Kept.mk (HD.out.keep hb)
  clear hb
  have kp0 := HP.out.cells.2 0 _ rfl
  have kp1 := HP.out.cells.2 1 _ rfl
  have kp2 := HP.out.cells.2 2 _ rfl
  have kp3 := HP.out.cells.2 3 _ rfl
  have kp4 := HP.out.cells.2 4 _ rfl
  have kp5 := HP.out.cells.2 5 _ rfl
  have kp6 := HP.out.cells.2 6 _ rfl
  have kp7 := HP.out.cells.2 7 _ rfl
  have kd0 := HD.out.cells.2 0 _ rfl
  have kd1 := HD.out.cells.2 1 _ rfl
  have kd2 := HD.out.cells.2 2 _ rfl
  have kd3 := HD.out.cells.2 3 _ rfl
  have kd4 := HD.out.cells.2 4 _ rfl
  have kd5 := HD.out.cells.2 5 _ rfl
  have kd6 := HD.out.cells.2 6 _ rfl
  have kd7 := HD.out.cells.2 7 _ rfl
  go_wp2_with fail
  clear kp0 kd0 kp1 kd1 kp2 kd2 kp3 kd3 kp4 kd4 kp5 kd5 kp6 kd6 kp7 kd7
  refine (wchk_Z W4).mono ?_
  rintro e W5 ⟨rfl, hb⟩
  replace hB := Kept.mk (hB.out.trans (hb.mono hB.out.size))
  replace HP := Kept.mk (HP.out.keep hb)
  replace HD := Kept.mk (HD.out.keep hb)
  clear hb
  have kp0 := HP.out.cells.2 0 _ rfl
  have kp1 := HP.out.cells.2 1 _ rfl
  have kp2 := HP.out.cells.2 2 _ rfl
  have kp3 := HP.out.cells.2 3 _ rfl
  have kp4 := HP.out.cells.2 4 _ rfl
  have kp5 := HP.out.cells.2 5 _ rfl
  have kp6 := HP.out.cells.2 6 _ rfl
  have kp7 := HP.out.cells.2 7 _ rfl
  have kd0 := HD.out.cells.2 0 _ rfl
  have kd1 := HD.out.cells.2 1 _ rfl
  have kd2 := HD.out.cells.2 2 _ rfl
  have kd3 := HD.out.cells.2 3 _ rfl
  have kd4 := HD.out.cells.2 4 _ rfl
  have kd5 := HD.out.cells.2 5 _ rfl
  have kd6 := HD.out.cells.2 6 _ rfl
  have kd7 := HD.out.cells.2 7 _ rfl
  go_wp2_with fail
  clear kp0 kd0 kp1 kd1 kp2 kd2 kp3 kd3 kp4 kd4 kp5 kd5 kp6 kd6 kp7 kd7
  refine (wsize_P W5).mono ?_
  rintro e W6 ⟨rfl, hb⟩
  replace hB := Kept.mk (hB.out.trans (hb.mono hB.out.size))
  replace HP := Kept.mk (HP.out.keep hb)
  replace HD := Kept.mk (HD.out.keep hb)
  clear hb
  have kp0 := HP.out.cells.2 0 _ rfl
  have kp1 := HP.out.cells.2 1 _ rfl
  have kp2 := HP.out.cells.2 2 _ rfl
  have kp3 := HP.out.cells.2 3 _ rfl
  have kp4 := HP.out.cells.2 4 _ rfl
  have kp5 := HP.out.cells.2 5 _ rfl
  have kp6 := HP.out.cells.2 6 _ rfl
  have kp7 := HP.out.cells.2 7 _ rfl
  have kd0 := HD.out.cells.2 0 _ rfl
  have kd1 := HD.out.cells.2 1 _ rfl
  have kd2 := HD.out.cells.2 2 _ rfl
  have kd3 := HD.out.cells.2 3 _ rfl
  have kd4 := HD.out.cells.2 4 _ rfl
  have kd5 := HD.out.cells.2 5 _ rfl
  have kd6 := HD.out.cells.2 6 _ rfl
  have kd7 := HD.out.cells.2 7 _ rfl
  go_wp2_with fail
  clear kp0 kd0 kp1 kd1 kp2 kd2 kp3 kd3 kp4 kd4 kp5 kd5 kp6 kd6 kp7 kd7
  refine (wchunks_P W6).mono ?_
  rintro e W7 ⟨rfl, hb⟩
  replace hB := Kept.mk (hB.out.trans (hb.mono hB.out.size))
  replace HP := Kept.mk (HP.out.keep hb)
  replace HD := Kept.mk (HD.out.keep hb)
  clear hb
  have kp0 := HP.out.cells.2 0 _ rfl
  have kp1 := HP.out.cells.2 1 _ rfl
  have kp2 := HP.out.cells.2 2 _ rfl
  have kp3 := HP.out.cells.2 3 _ rfl
  have kp4 := HP.out.cells.2 4 _ rfl
  have kp5 := HP.out.cells.2 5 _ rfl
  have kp6 := HP.out.cells.2 6 _ rfl
  have kp7 := HP.out.cells.2 7 _ rfl
  have kd0 := HD.out.cells.2 0 _ rfl
  have kd1 := HD.out.cells.2 1 _ rfl
  have kd2 := HD.out.cells.2 2 _ rfl
  have kd3 := HD.out.cells.2 3 _ rfl
  have kd4 := HD.out.cells.2 4 _ rfl
  have kd5 := HD.out.cells.2 5 _ rfl
  have kd6 := HD.out.cells.2 6 _ rfl
  have kd7 := HD.out.cells.2 7 _ rfl
  go_wp2_with fail
  clear kp0 kd0 kp1 kd1 kp2 kd2 kp3 kd3 kp4 kd4 kp5 kd5 kp6 kd6 kp7 kd7
  refine (wrounds_P W7).mono ?_
  rintro e W8 ⟨rfl, hb⟩
  replace hB := Kept.mk (hB.out.trans (hb.mono hB.out.size))
  replace HP := Kept.mk (HP.out.keep hb)
  replace HD := Kept.mk (HD.out.keep hb)
  clear hb
  have kp0 := HP.out.cells.2 0 _ rfl
  have kp1 := HP.out.cells.2 1 _ rfl
  have kp2 := HP.out.cells.2 2 _ rfl
  have kp3 := HP.out.cells.2 3 _ rfl
  have kp4 := HP.out.cells.2 4 _ rfl
  have kp5 := HP.out.cells.2 5 _ rfl
  have kp6 := HP.out.cells.2 6 _ rfl
  have kp7 := HP.out.cells.2 7 _ rfl
  have kd0 := HD.out.cells.2 0 _ rfl
  have kd1 := HD.out.cells.2 1 _ rfl
  have kd2 := HD.out.cells.2 2 _ rfl
  have kd3 := HD.out.cells.2 3 _ rfl
  have kd4 := HD.out.cells.2 4 _ rfl
  have kd5 := HD.out.cells.2 5 _ rfl
  have kd6 := HD.out.cells.2 6 _ rfl
  have kd7 := HD.out.cells.2 7 _ rfl
  go_wp2_with fail
  clear kp0 kd0 kp1 kd1 kp2 kd2 kp3 kd3 kp4 kd4 kp5 kd5 kp6 kd6 kp7 kd7
  refine (wwork_P W8).mono ?_
  rintro e W9 ⟨rfl, hb⟩
  replace hB := Kept.mk (hB.out.trans (hb.mono hB.out.size))
  replace HP := Kept.mk (HP.out.keep hb)
  replace HD := Kept.mk (HD.out.keep hb)
  clear hb
  have kp0 := HP.out.cells.2 0 _ rfl
  have kp1 := HP.out.cells.2 1 _ rfl
  have kp2 := HP.out.cells.2 2 _ rfl
  have kp3 := HP.out.cells.2 3 _ rfl
  have kp4 := HP.out.cells.2 4 _ rfl
  have kp5 := HP.out.cells.2 5 _ rfl
  have kp6 := HP.out.cells.2 6 _ rfl
  have kp7 := HP.out.cells.2 7 _ rfl
  have kd0 := HD.out.cells.2 0 _ rfl
  have kd1 := HD.out.cells.2 1 _ rfl
  have kd2 := HD.out.cells.2 2 _ rfl
  have kd3 := HD.out.cells.2 3 _ rfl
  have kd4 := HD.out.cells.2 4 _ rfl
  have kd5 := HD.out.cells.2 5 _ rfl
  have kd6 := HD.out.cells.2 6 _ rfl
  have kd7 := HD.out.cells.2 7 _ rfl
  go_wp2_with fail
  clear kp0 kd0 kp1 kd1 kp2 kd2 kp3 kd3 kp4 kd4 kp5 kd5 kp6 kd6 kp7 kd7
  refine (wfoot_P W9).mono ?_
  rintro e W10 ⟨rfl, hb⟩
  replace hB := Kept.mk (hB.out.trans (hb.mono hB.out.size))
  replace HP := Kept.mk (HP.out.keep hb)
  replace HD := Kept.mk (HD.out.keep hb)
  clear hb
  have kp0 := HP.out.cells.2 0 _ rfl
  have kp1 := HP.out.cells.2 1 _ rfl
  have kp2 := HP.out.cells.2 2 _ rfl
  have kp3 := HP.out.cells.2 3 _ rfl
  have kp4 := HP.out.cells.2 4 _ rfl
  have kp5 := HP.out.cells.2 5 _ rfl
  have kp6 := HP.out.cells.2 6 _ rfl
  have kp7 := HP.out.cells.2 7 _ rfl
  have kd0 := HD.out.cells.2 0 _ rfl
  have kd1 := HD.out.cells.2 1 _ rfl
  have kd2 := HD.out.cells.2 2 _ rfl
  have kd3 := HD.out.cells.2 3 _ rfl
  have kd4 := HD.out.cells.2 4 _ rfl
  have kd5 := HD.out.cells.2 5 _ rfl
  have kd6 := HD.out.cells.2 6 _ rfl
  have kd7 := HD.out.cells.2 7 _ rfl
  go_wp2_with fail
  clear kp0 kd0 kp1 kd1 kp2 kd2 kp3 kd3 kp4 kd4 kp5 kd5 kp6 kd6 kp7 kd7
  refine (wfoot_D W10).mono ?_
  rintro e W11 ⟨rfl, hb⟩
  replace hB := Kept.mk (hB.out.trans (hb.mono hB.out.size))
  replace HP := Kept.mk (HP.out.keep hb)
  replace HD := Kept.mk (HD.out.keep hb)
  clear hb
  go_wp2
  go_ret
  exact ⟨rfl, hB.out⟩
end Go.Proofs.Ytpjafjnokgeifab
end
section
namespace Go.Proofs.Ytpjafjnokgeifab
open Go.RowKit Go.ChangeShapes Go.WideShapes
set_option linter.unusedVariables false
set_option linter.unusedSimpArgs false

def isCf (C : Cf) : VP := fun v _ => v = .agg #[.int .i64 C.nodes, .int .i64 C.slots, .int .i64 C.pages, .int .i64 C.room, .int .i64 C.chunk, .int .i64 C.buffer, .int .i64 C.queue, .int .i64 C.wear]
structure CameC (C : Cf) : Prop where
  nodes : (Lit.int .i64 C.nodes).wf = true
  slots : (Lit.int .i64 C.slots).wf = true
  pages : (Lit.int .i64 C.pages).wf = true
  room : (Lit.int .i64 C.room).wf = true
  chunk : (Lit.int .i64 C.chunk).wf = true
  buffer : (Lit.int .i64 C.buffer).wf = true
  queue : (Lit.int .i64 C.queue).wf = true
  wear : (Lit.int .i64 C.wear).wf = true
set_option maxRecDepth 100000 in
set_option maxHeartbeats 1000000 in
theorem open_cf {W : World} {H : Type} {enc : TypeId × Value → H} {base b0 : Nat} {spare : Nat → Bool} {held : Bool} {v : Value} {d : DataW H} {p : List MemPlace} (hv : Value.okWide Try.prog W .any b0 23 v)
    (h : DataW.Trod enc Try.prog W base spare held 23 v d p) : ∃ C : Cf, isCf C v W ∧ CameC C := by
  obtain ⟨⟨l⟩, rfl, hsz⟩ := okWide_struct Try.underlying23 hv
  have hl : l.length = 8 := hsz.trans (by kernel_rfl)
  match l, hl with
  | [v0, v1, v2, v3, v4, v5, v6, v7], _ =>
    obtain ⟨fuel, hf⟩ := h
    obtain ⟨xs, n, _, hxe, _, hxl, hg⟩ := DataW.trod_struct Try.underlying23 hf
    have at_ : ∀ i, i < 8 → ∃ y, xs[i]? = some y := fun i hi => ⟨_, List.getElem?_eq_getElem (by rw [hxl]; exact hi)⟩
    have c3 : Try.prog.cellsOf 3 = 1 := by kernel_rfl
    obtain ⟨y0, e0⟩ := at_ 0 (by decide)
    obtain ⟨y1, e1⟩ := at_ 1 (by decide)
    obtain ⟨y2, e2⟩ := at_ 2 (by decide)
    obtain ⟨y3, e3⟩ := at_ 3 (by decide)
    obtain ⟨y4, e4⟩ := at_ 4 (by decide)
    obtain ⟨y5, e5⟩ := at_ 5 (by decide)
    obtain ⟨y6, e6⟩ := at_ 6 (by decide)
    obtain ⟨y7, e7⟩ := at_ 7 (by decide)
    have g0 := hg 0 _ rfl
    have g1 := hg 1 _ rfl
    have g2 := hg 2 _ rfl
    have g3 := hg 3 _ rfl
    have g4 := hg 4 _ rfl
    have g5 := hg 5 _ rfl
    have g6 := hg 6 _ rfl
    have g7 := hg 7 _ rfl
    simp only [Value.cells, c3, List.drop_zero, List.drop_succ_cons, List.take_succ_cons, List.take_zero] at g0 g1 g2 g3 g4 g5 g6 g7
    rw [e0] at g0
    rw [e1] at g1
    rw [e2] at g2
    rw [e3] at g3
    rw [e4] at g4
    rw [e5] at g5
    rw [e6] at g6
    rw [e7] at g7
    obtain ⟨x0, h0, _, w0⟩ := DataW.trod_int Try.underlying3 g0
    obtain ⟨x1, h1, _, w1⟩ := DataW.trod_int Try.underlying3 g1
    obtain ⟨x2, h2, _, w2⟩ := DataW.trod_int Try.underlying3 g2
    obtain ⟨x3, h3, _, w3⟩ := DataW.trod_int Try.underlying3 g3
    obtain ⟨x4, h4, _, w4⟩ := DataW.trod_int Try.underlying3 g4
    obtain ⟨x5, h5, _, w5⟩ := DataW.trod_int Try.underlying3 g5
    obtain ⟨x6, h6, _, w6⟩ := DataW.trod_int Try.underlying3 g6
    obtain ⟨x7, h7, _, w7⟩ := DataW.trod_int Try.underlying3 g7
    injection h0 with h0 _
    injection h1 with h1 _
    injection h2 with h2 _
    injection h3 with h3 _
    injection h4 with h4 _
    injection h5 with h5 _
    injection h6 with h6 _
    injection h7 with h7 _
    subst h0 h1 h2 h3 h4 h5 h6 h7
    exact ⟨⟨x0, x1, x2, x3, x4, x5, x6, x7⟩, rfl, ⟨w0, w1, w2, w3, w4, w5, w6, w7⟩⟩
/-- What there is, number by number. -/
theorem foot_six (C : Cf) : ∃ f0 f1 f2 f3 f4 f5 : Int, footV C = .agg #[.int .i64 f0, .int .i64 f1, .int .i64 f2, .int .i64 f3, .int .i64 f4, .int .i64 f5] := by
  cases h : okC C with
  | true => exact ⟨_, _, _, _, _, _, footV_yes h⟩
  | false => exact ⟨_, _, _, _, _, _, footV_no h⟩
theorem gc_check (C : Cf) (E : Int) (w : World) (h : chkC C = E) : Calls Try.prog 6 #[.agg #[.int .i64 C.nodes, .int .i64 C.slots, .int .i64 C.pages, .int .i64 C.room, .int .i64 C.chunk, .int .i64 C.buffer, .int .i64 C.queue, .int .i64 C.wear]] w fun e w' => e = .returned (.int .i64 E) ∧ Below w.heap.size w w' := by subst h; exact ccheck_any C w
theorem gc_foot (C : Cf) (v : Value) (w : World) (h : footV C = v) : Calls Try.prog 8 #[.agg #[.int .i64 C.nodes, .int .i64 C.slots, .int .i64 C.pages, .int .i64 C.room, .int .i64 C.chunk, .int .i64 C.buffer, .int .i64 C.queue, .int .i64 C.wear]] w fun e w' => e = .returned v ∧ Below w.heap.size w w' := by subst h; exact cft_any C w
end Go.Proofs.Ytpjafjnokgeifab
end
section
namespace Go.Proofs.Ytpjafjnokgeifab
open Go.RowKit
set_option linter.unusedVariables false
set_option linter.unusedSimpArgs false

section
variable {P : Program} {ops : Array Oper} {base : World} {a0 : Act} {Q : Exit → Act → World → Prop} {kn : Nat → VP} {i : Nat} {V : VP}

/-- make([]byte, n) -/
theorem step_make (t e : TypeId) (x : Operand) (n : Nat) (hop : (ops[i]?).map (·.op) = some (.makeSlice t x x)) (hw : Wanted ops a0 kn i) (hx : Knows ops a0 kn i x (isVal (.int .i64 (n : Int))))
    (ht : P.underlying t = some (.slice e)) (hi : (P.info? e).map (fun i => (i.zero, i.size, i.bytes)) = some (some (.int .u8 0), 1, 1)) (hn : n ≤ 1000000) : FStep P ops base a0 Q kn i (isRow (List.replicate n 0)) :=
  step_mk (stable_row _) hw fun o ho a w hk hb hd => by
    have e1 : a.eval x = .int .i64 (n : Int) := hx a w hk hd
    have hr := run_make_row' (P := P) t e (.int .u8 0) 1 ht hi rfl .i64 .i64 n (by omega) (by omega) w
    unfold Oper.wp execOp
    rw [op_of hop ho]
    simp only [e1, Sem.run_bind, hr, Result.andThen_ok, Sem.run_pure]
    refine ⟨_, rfl, ⟨w.heap.size, by simp, by simp, BRow.made w e n⟩, (Below.refl _ _).alloc (Nat.le_refl _) _⟩

/-- A place in an array. -/
theorem step_at (t e : TypeId) (x : Operand) (n k g : Nat) (hop : (ops[i]?).map (·.op) = some (.indexAddr t x (.const (.int .i64 (k : Int))))) (hw : Wanted ops a0 kn i) (hx : Knows ops a0 kn i x (isVal (.pointer (some ⟨g, 0, none⟩))))
    (ht : P.underlying t = some (.array n e)) (hs : P.cellsOf e = 1) (hi : (P.info? e).map (·.size) = some 1) (hk : k < n) : FStep P ops base a0 Q kn i (isVal (.pointer (some (Addr.add ⟨g, 0, none⟩ k)))) :=
  step_pure _ hop hw fun o a w ho hk' hd => by
    have e1 : a.eval x = .pointer (some ⟨g, 0, none⟩) := hx a w hk' hd
    have e2 : a.eval (.const (.int .i64 (k : Int))) = .int .i64 (k : Int) := rfl
    unfold execOp
    rw [ho]
    simp only [e1, e2, Sem.run_bind]
    obtain ⟨ie, hie, hz⟩ := Option.map_eq_some_iff.1 hi
    have hsz : (sizeOf e).run P w = .ok 1 w := by simp [sizeOf, typeInfo, hie, hz]
    simp [Instr.indexAt, run_underlying ht, Instr.sureAddr, asIntOf, hsz, hk]

/-- What stands in a place that was there ahead of the region. -/
theorem step_cell (t : TypeId) (x : Operand) (p : Addr) (v : Value) (d : TypeDesc) (hop : (ops[i]?).map (·.op) = some (.load t x)) (hw : Wanted ops a0 kn i) (hx : Knows ops a0 kn i x (isVal (.pointer (some p))))
    (hc : base.cell? p = some v) (hp : p.block < base.heap.size) (hu : P.underlying t = some (.int .u8)) : FStep P ops base a0 Q kn i (isVal v) :=
  step_mk (stable_val _) hw fun o ho a w hk hb hd => by
    have e1 : a.eval x = .pointer (some p) := hx a w hk hd
    have e2 : w.cell? p = some v := (hb.cell hp).trans hc
    unfold Oper.wp execOp
    rw [op_of hop ho]
    simp only [e1, Instr.loadAt, Instr.sureAddr, Sem.run_bind, Sem.run_pure, Result.andThen_ok]
    simp [loadVar, isAgg, run_underlying hu, e2, Oper.upon]
    exact ⟨v, rfl, rfl, Below.refl _ _⟩

theorem step_whole (t e : TypeId) (x : Operand) (g : Nat) (n : Nat) (cs : Array Value) (t' : TypeId) (fr : Nat × Nat) (hop : (ops[i]?).map (·.op) = some (.load t x)) (hw : Wanted ops a0 kn i) (hx : Knows ops a0 kn i x (isVal (.pointer (some ⟨g, 0, none⟩))))
    (hc : base.heap[g]? = some (.cells cs t' fr)) (hu : P.underlying t = some (.array n e)) (hi : (P.info? t).map (·.size) = some cs.size) : FStep P ops base a0 Q kn i (isVal (.agg cs)) :=
  step_mk (stable_val _) hw fun o ho a w hk hb hd => by
    have e1 : a.eval x = .pointer (some ⟨g, 0, none⟩) := hx a w hk hd
    have hg : g < base.heap.size := (Array.getElem?_eq_some_iff.1 hc).1
    have e2 : w.heap[g]? = some (.cells cs t' fr) := (hb.block g hg).trans hc
    exact wp_load_row t x (op_of hop ho) g e1 t' cs fr _ e2 hu rfl hi ⟨_, rfl, rfl, Below.refl _ _⟩

theorem step_none (t : TypeId) (cs : Array Value) (hop : (ops[i]?).map (·.op) = some (.build t #[])) (hw : Wanted ops a0 kn i) (hb : P.built t [] = some cs) : FStep P ops base a0 Q kn i (isVal (.agg cs)) :=
  step_pure _ hop hw fun o a w ho hk hd => by
    unfold execOp
    rw [ho]
    simp only [Sem.run_bind]
    rw [run_build (P := P) w t _ cs (by simpa using hb)]
    rfl

/-- A literal of four bytes that were found out. -/
theorem step_row4 (t e : TypeId) (x0 x1 x2 x3 : Operand) (b0 b1 b2 b3 : UInt8) (hop : (ops[i]?).map (·.op) = some (.buildSlice t 4 #[(0, x0), (1, x1), (2, x2), (3, x3)])) (hw : Wanted ops a0 kn i)
    (h0 : Knows ops a0 kn i x0 (isVal (.int .u8 (b0.toNat : Int)))) (h1 : Knows ops a0 kn i x1 (isVal (.int .u8 (b1.toNat : Int)))) (h2 : Knows ops a0 kn i x2 (isVal (.int .u8 (b2.toNat : Int)))) (h3 : Knows ops a0 kn i x3 (isVal (.int .u8 (b3.toNat : Int))))
    (hu : P.underlying t = some (.slice e)) (hi : (P.info? e).map (fun i => (i.zero, i.size, i.bytes)) = some (some (.int .u8 0), 1, 1)) : FStep P ops base a0 Q kn i (isRow [b0, b1, b2, b3]) :=
  step_mk (stable_row _) hw fun o ho a w hk hb hd => by
    obtain ⟨ie, hie, hzz⟩ := Option.map_eq_some_iff.1 hi
    simp only [Prod.mk.injEq] at hzz
    obtain ⟨hz, hsz, _⟩ := hzz
    have e0 : a.eval x0 = _ := h0 a w hk hd
    have e1 : a.eval x1 = _ := h1 a w hk hd
    have e2 : a.eval x2 = _ := h2 a w hk hd
    have e3 : a.eval x3 = _ := h3 a w hk hd
    have hf : Instr.fill (fun i => some (i * ie.size, ie.size)) ((Array.range (4 * ie.size)).map ((Value.int .u8 0).cells[· % (Value.int .u8 0).cells.size]!)) (#[(0, x0), (1, x1), (2, x2), (3, x3)].map fun (i, x) => (i, a.eval x)).toList = some ([b0, b1, b2, b3].map fun b => Value.int .u8 (b.toNat : Int)).toArray := by
      have e4 : (#[(0, x0), (1, x1), (2, x2), (3, x3)].map fun (i, x) => (i, a.eval x)).toList = (([b0, b1, b2, b3].map fun b => Value.int .u8 (b.toNat : Int)).zipIdx 0).map fun x => (x.2, x.1) := by
        simp [e0, e1, e2, e3]
      rw [e4, hsz]
      exact Great.fill_flat _ _ (fun v hv => by obtain ⟨n, _, rfl⟩ := List.mem_map.1 hv; rfl) (by simp)
    refine wp_buildSlice t e 4 _ (op_of hop ho) _ ie (.int .u8 0) hu hie hz (by rw [hsz]; omega) (by rw [hsz]; omega) hf ?_
    refine ⟨_, rfl, ⟨w.heap.size, rfl, by simp, fun j hj => ⟨?_, World.frozen?_alloc_new w _ _ _⟩⟩, (Below.refl _ _).alloc (Nat.le_refl _) _⟩
    rw [World.cell?_alloc_new]
    simp only [List.getElem?_toArray, List.getElem?_map, List.getElem?_eq_getElem hj, Option.map_some]
end

/-- Four bytes are alike where each is. -/
theorem eql_four {P : Program} (t e : TypeId) (x0 x1 x2 x3 y0 y1 y2 y3 : Int) (b : Bool) (hu : P.underlying t = some (.array 4 e)) (he : P.underlying e = some (.int .u8)) (hi : (P.info? e).map (·.size) = some 1)
    (hb : (x0 == y0 && x1 == y1 && x2 == y2 && x3 == y3) = b) (w : World) :
    (binOp .eql t (.agg #[.int .u8 x0, .int .u8 x1, .int .u8 x2, .int .u8 x3]) (.agg #[.int .u8 y0, .int .u8 y1, .int .u8 y2, .int .u8 y3])).run P w = .ok (.bool b) w := by
  obtain ⟨ie, hie, hz⟩ := Option.map_eq_some_iff.1 hi
  have hc : P.cellsOf e = 1 := by simp [Program.cellsOf, hie, hz]
  rw [run_eql_struct, show (10000 : Nat) = 9999 + 1 from rfl, run_equalIn_array w 9999 _ _ hu hie, hc]
  have hsz : ∀ w, (sizeOf e).run P w = .ok 1 w := fun w => by simp [sizeOf, typeInfo, hie, hz]
  rw [show List.range 4 = [0, 1, 2, 3] from rfl, ← hb]
  have hp : ∀ (xs : Array Value) (off : Nat) (v : Value) (w : World), xs[off]? = some v → (part e xs off).run P w = .ok v w := fun xs off v w hx => by simp [part, isAgg, run_underlying he, hx]
  have heq : ∀ (x y : Int) (w : World), (Op.equalIn 9999 e (.int .u8 x) (.int .u8 y)).run P w = .ok (x == y) w := fun x y w => run_equalIn_int w 9998 e .u8 .u8 x y he
  simp only [Op.eqItems, Sem.run_bind, Nat.zero_mul, Nat.mul_one]
  rw [hp _ 0 (.int .u8 x0) w rfl]
  simp only [Result.andThen_ok]
  rw [hp _ 0 (.int .u8 y0) w rfl]
  simp only [Result.andThen_ok]
  rw [heq x0 y0]
  cases h0 : x0 == y0 with
  | false => simp
  | true =>
    simp only [Result.andThen_ok, Bool.not_true, Bool.false_eq_true, if_false, Sem.run_pure, Sem.run_bind]
    rw [hp _ 1 (.int .u8 x1) w rfl]
    simp only [Result.andThen_ok]
    rw [hp _ 1 (.int .u8 y1) w rfl]
    simp only [Result.andThen_ok]
    rw [heq x1 y1]
    cases h1 : x1 == y1 with
    | false => simp
    | true =>
      simp only [Result.andThen_ok, Bool.not_true, Bool.false_eq_true, if_false, Sem.run_pure, Sem.run_bind]
      rw [hp _ 2 (.int .u8 x2) w rfl]
      simp only [Result.andThen_ok]
      rw [hp _ 2 (.int .u8 y2) w rfl]
      simp only [Result.andThen_ok]
      rw [heq x2 y2]
      cases h2 : x2 == y2 with
      | false => simp
      | true =>
        simp only [Result.andThen_ok, Bool.not_true, Bool.false_eq_true, if_false, Sem.run_pure, Sem.run_bind]
        rw [hp _ 3 (.int .u8 x3) w rfl]
        simp only [Result.andThen_ok]
        rw [hp _ 3 (.int .u8 y3) w rfl]
        simp only [Result.andThen_ok]
        rw [heq x3 y3]
        cases h3 : x3 == y3 with
        | false => simp
        | true => simp
end Go.Proofs.Ytpjafjnokgeifab
end
