/- The work that is told is enough for a boot, and eight entries that each need a page of their own, and for one, and a page that is cleaned, and written anew (config.Work). No condition. -/
import Derived.Test.YtpjafjnokgeifabPartB
import Derived.SizedLaws
import Derived.ProofKit
import Derived.OpenShut
import Derived.ShutString
import Derived.ChangeOld
import Derived.Below
namespace Go.Proofs.Ytpjafjnokgeifab
open Go.RowKit
open Go.ChangeShapes Go.WideShapes Go.ChangeAt Go.RowKit
open Go.ChangeMaps (open_string shut_string)
set_option linter.unusedVariables false
set_option linter.unusedSimpArgs false
attribute [local irreducible] setN

noncomputable def wgOps : Array Oper := regionOf Try.f3 7
set_option maxRecDepth 100000 in
set_option maxHeartbeats 2000000 in
theorem wg_region (Q : Exit → Act → World → Prop) (a0 : Act) (w0 : World) (hsz : a0.tmps.size = 44) (g : Nat) (C : Cf) (hc : CellsN w0 g [.int .i64 C.nodes, .int .i64 C.slots, .int .i64 C.pages, .int .i64 C.room, .int .i64 C.chunk, .int .i64 C.buffer, .int .i64 C.queue, .int .i64 C.wear]) (e1 : a0.tmps.getD 1 undef = .pointer (some ⟨g, 0, none⟩)) (hok : okC C = true) (e3 : a0.tmps.getD 3 undef = .bool true) (e4 : a0.tmps.getD 4 undef = .int .i64 (C.slots + 3))
    (hQ : ∀ (g : Nat → Value) (w : World), g 2 = .bool true → Below w0.heap.size w0 w → Q .normal { tmps := [20, 21, 22, 23, 24, 25, 26, 27, 28, 29, 30, 31, 32, 33, 34, 35, 36, 37, 38, 39, 40, 41, 42, 43, 2].foldl (fun t s => t.setIfInBounds s (g s)) a0.tmps, defers := a0.defers } w) :
    (Code.region 7 wgOps true).wp Try.prog Q a0 w0 := by
  have hO := okC_spec.1 hok
  have h1 := hO.slots
  have h2 := hO.room
  have h4 : workC C = 9 * (C.slots + 5) + 2 * C.room := by unfold workC; rw [if_pos hok]
  refine wp_region_flow mixed (by rw [hsz]; kernel_rfl) ?_
  rw [show wgOps.size = 25 by kernel_rfl]
  refine ⟨isVal (.bool true), step_move (.tmp 3) (by kernel_rfl) (wanted_none (by kernel_rfl)) (stable_val _) (knows_old 3 (.bool true) (by kernel_rfl) e3), ?_⟩
  refine ⟨isVal (.bool true), step_move (.tmp 20) (by kernel_rfl) (wanted_none (by kernel_rfl)) (stable_val _) (knows_new (V := isVal (.bool true)) 20 0 (by kernel_rfl) (by kernel_rfl) (by kernel_rfl)), ?_⟩
  refine ⟨isVal (.agg #[.int .i64 C.nodes, .int .i64 C.slots, .int .i64 C.pages, .int .i64 C.room, .int .i64 C.chunk, .int .i64 C.buffer, .int .i64 C.queue, .int .i64 C.wear]), step_loadN 23 (.tmp 1) (g) [.int .i64 C.nodes, .int .i64 C.slots, .int .i64 C.pages, .int .i64 C.room, .int .i64 C.chunk, .int .i64 C.buffer, .int .i64 C.queue, .int .i64 C.wear] (by kernel_rfl) (wanted_some 1 21 true (by kernel_rfl) (by kernel_rfl) (by kernel_rfl) (by kernel_rfl)) (knows_old 1 (.pointer (some ⟨g, 0, none⟩)) (by kernel_rfl) e1) size_cf agg_cf (hc), ?_⟩
  refine ⟨isVal (.int .i64 (workC C)), step_call 7 #[.tmp 22] #[23] #[.agg #[.int .i64 C.nodes, .int .i64 C.slots, .int .i64 C.pages, .int .i64 C.room, .int .i64 C.chunk, .int .i64 C.buffer, .int .i64 C.queue, .int .i64 C.wear]] (by kernel_rfl) (wanted_some 1 21 true (by kernel_rfl) (by kernel_rfl) (by kernel_rfl) (by kernel_rfl)) (stable_val _) (args1 (.tmp 22) (.agg #[.int .i64 C.nodes, .int .i64 C.slots, .int .i64 C.pages, .int .i64 C.room, .int .i64 C.chunk, .int .i64 C.buffer, .int .i64 C.queue, .int .i64 C.wear]) (knows_new (V := isVal (.agg #[.int .i64 C.nodes, .int .i64 C.slots, .int .i64 C.pages, .int .i64 C.room, .int .i64 C.chunk, .int .i64 C.buffer, .int .i64 C.queue, .int .i64 C.wear])) 22 2 (by kernel_rfl) (by kernel_rfl) (by kernel_rfl))) (enters_of Try.func7 (by kernel_rfl) rfl) (by intro w' hb; exact cv1 (cwork_any C w')), ?_⟩
  refine ⟨isVal (.int .i64 (C.slots + 3)), step_move (.tmp 4) (by kernel_rfl) (wanted_some 1 21 true (by kernel_rfl) (by kernel_rfl) (by kernel_rfl) (by kernel_rfl)) (stable_val _) (knows_old 4 (.int .i64 (C.slots + 3)) (by kernel_rfl) e4), ?_⟩
  refine ⟨isVal (.int .i64 ((C.slots + 3) + 1)), step_bin .add 3 3 (.tmp 24) (.const (.int .i64 1)) (.int .i64 (C.slots + 3)) (.int .i64 1) (.int .i64 ((C.slots + 3) + 1)) (by kernel_rfl) (wanted_some 1 21 true (by kernel_rfl) (by kernel_rfl) (by kernel_rfl) (by kernel_rfl)) (knows_new (V := isVal (.int .i64 (C.slots + 3))) 24 4 (by kernel_rfl) (by kernel_rfl) (by kernel_rfl)) (knows_const _) (fun _ => rfl) (add_v (C.slots + 3) 1 ((C.slots + 3) + 1) (by omega) (by omega) (by omega)), ?_⟩
  refine ⟨isVal (.int .i64 (C.slots + 3)), step_move (.tmp 4) (by kernel_rfl) (wanted_some 1 21 true (by kernel_rfl) (by kernel_rfl) (by kernel_rfl) (by kernel_rfl)) (stable_val _) (knows_old 4 (.int .i64 (C.slots + 3)) (by kernel_rfl) e4), ?_⟩
  refine ⟨isVal (.int .i64 (8 * (C.slots + 3))), step_bin .mul 3 3 (.const (.int .i64 8)) (.tmp 26) (.int .i64 8) (.int .i64 (C.slots + 3)) (.int .i64 (8 * (C.slots + 3))) (by kernel_rfl) (wanted_some 1 21 true (by kernel_rfl) (by kernel_rfl) (by kernel_rfl) (by kernel_rfl)) (knows_const _) (knows_new (V := isVal (.int .i64 (C.slots + 3))) 26 6 (by kernel_rfl) (by kernel_rfl) (by kernel_rfl)) (fun _ => rfl) (mul_v 8 (C.slots + 3) (8 * (C.slots + 3)) (by omega) (by omega) (by omega)), ?_⟩
  refine ⟨isVal (.int .i64 (((C.slots + 3) + 1) + (8 * (C.slots + 3)))), step_bin .add 3 3 (.tmp 25) (.tmp 27) (.int .i64 ((C.slots + 3) + 1)) (.int .i64 (8 * (C.slots + 3))) (.int .i64 (((C.slots + 3) + 1) + (8 * (C.slots + 3)))) (by kernel_rfl) (wanted_some 1 21 true (by kernel_rfl) (by kernel_rfl) (by kernel_rfl) (by kernel_rfl)) (knows_new (V := isVal (.int .i64 ((C.slots + 3) + 1))) 25 5 (by kernel_rfl) (by kernel_rfl) (by kernel_rfl)) (knows_new (V := isVal (.int .i64 (8 * (C.slots + 3)))) 27 7 (by kernel_rfl) (by kernel_rfl) (by kernel_rfl)) (fun _ => rfl) (add_v ((C.slots + 3) + 1) (8 * (C.slots + 3)) (((C.slots + 3) + 1) + (8 * (C.slots + 3))) (by omega) (by omega) (by omega)), ?_⟩
  refine ⟨isVal (.bool true), step_bin .geq 3 3 (.tmp 23) (.tmp 28) (.int .i64 (workC C)) (.int .i64 (((C.slots + 3) + 1) + (8 * (C.slots + 3)))) (.bool true) (by kernel_rfl) (wanted_some 1 21 true (by kernel_rfl) (by kernel_rfl) (by kernel_rfl) (by kernel_rfl)) (knows_new (V := isVal (.int .i64 (workC C))) 23 3 (by kernel_rfl) (by kernel_rfl) (by kernel_rfl)) (knows_new (V := isVal (.int .i64 (((C.slots + 3) + 1) + (8 * (C.slots + 3))))) 28 8 (by kernel_rfl) (by kernel_rfl) (by kernel_rfl)) (fun _ => rfl) (geq_t _ _ (by omega)), ?_⟩
  refine ⟨isVal (.bool true), step_pick (.tmp 21) (.tmp 29) (.const (.bool false)) true (by kernel_rfl) (wanted_none (by kernel_rfl)) (stable_val _) (knows_new (V := isVal (.bool true)) 21 1 (by kernel_rfl) (by kernel_rfl) (by kernel_rfl)) (knows_new (V := isVal (.bool true)) 29 9 (by kernel_rfl) (by kernel_rfl) (by kernel_rfl)), ?_⟩
  refine ⟨isVal (.bool true), step_move (.tmp 30) (by kernel_rfl) (wanted_none (by kernel_rfl)) (stable_val _) (knows_new (V := isVal (.bool true)) 30 10 (by kernel_rfl) (by kernel_rfl) (by kernel_rfl)), ?_⟩
  refine ⟨isVal (.agg #[.int .i64 C.nodes, .int .i64 C.slots, .int .i64 C.pages, .int .i64 C.room, .int .i64 C.chunk, .int .i64 C.buffer, .int .i64 C.queue, .int .i64 C.wear]), step_loadN 23 (.tmp 1) (g) [.int .i64 C.nodes, .int .i64 C.slots, .int .i64 C.pages, .int .i64 C.room, .int .i64 C.chunk, .int .i64 C.buffer, .int .i64 C.queue, .int .i64 C.wear] (by kernel_rfl) (wanted_some 11 31 true (by kernel_rfl) (by kernel_rfl) (by kernel_rfl) (by kernel_rfl)) (knows_old 1 (.pointer (some ⟨g, 0, none⟩)) (by kernel_rfl) e1) size_cf agg_cf (hc), ?_⟩
  refine ⟨isVal (.int .i64 (workC C)), step_call 7 #[.tmp 32] #[23] #[.agg #[.int .i64 C.nodes, .int .i64 C.slots, .int .i64 C.pages, .int .i64 C.room, .int .i64 C.chunk, .int .i64 C.buffer, .int .i64 C.queue, .int .i64 C.wear]] (by kernel_rfl) (wanted_some 11 31 true (by kernel_rfl) (by kernel_rfl) (by kernel_rfl) (by kernel_rfl)) (stable_val _) (args1 (.tmp 32) (.agg #[.int .i64 C.nodes, .int .i64 C.slots, .int .i64 C.pages, .int .i64 C.room, .int .i64 C.chunk, .int .i64 C.buffer, .int .i64 C.queue, .int .i64 C.wear]) (knows_new (V := isVal (.agg #[.int .i64 C.nodes, .int .i64 C.slots, .int .i64 C.pages, .int .i64 C.room, .int .i64 C.chunk, .int .i64 C.buffer, .int .i64 C.queue, .int .i64 C.wear])) 32 12 (by kernel_rfl) (by kernel_rfl) (by kernel_rfl))) (enters_of Try.func7 (by kernel_rfl) rfl) (by intro w' hb; exact cv1 (cwork_any C w')), ?_⟩
  refine ⟨isVal (.int .i64 (C.slots + 3)), step_move (.tmp 4) (by kernel_rfl) (wanted_some 11 31 true (by kernel_rfl) (by kernel_rfl) (by kernel_rfl) (by kernel_rfl)) (stable_val _) (knows_old 4 (.int .i64 (C.slots + 3)) (by kernel_rfl) e4), ?_⟩
  refine ⟨isVal (.int .i64 ((C.slots + 3) + 1)), step_bin .add 3 3 (.tmp 34) (.const (.int .i64 1)) (.int .i64 (C.slots + 3)) (.int .i64 1) (.int .i64 ((C.slots + 3) + 1)) (by kernel_rfl) (wanted_some 11 31 true (by kernel_rfl) (by kernel_rfl) (by kernel_rfl) (by kernel_rfl)) (knows_new (V := isVal (.int .i64 (C.slots + 3))) 34 14 (by kernel_rfl) (by kernel_rfl) (by kernel_rfl)) (knows_const _) (fun _ => rfl) (add_v (C.slots + 3) 1 ((C.slots + 3) + 1) (by omega) (by omega) (by omega)), ?_⟩
  refine ⟨isVal (.pointer (some ⟨g, 3, none⟩)), step_field 23 (.tmp 1) 3 ⟨g, 0, none⟩ ⟨g, 3, none⟩ (by kernel_rfl) (wanted_some 11 31 true (by kernel_rfl) (by kernel_rfl) (by kernel_rfl) (by kernel_rfl)) (knows_old 1 (.pointer (some ⟨g, 0, none⟩)) (by kernel_rfl) e1) (f_cf (g) 3 (by omega)), ?_⟩
  refine ⟨isVal (.int .i64 C.room), step_read 3 (.tmp 36) ⟨g, 3, none⟩ (.int .i64 C.room) (by kernel_rfl) (wanted_some 11 31 true (by kernel_rfl) (by kernel_rfl) (by kernel_rfl) (by kernel_rfl)) (knows_new (V := isVal (.pointer (some ⟨g, 3, none⟩))) 36 16 (by kernel_rfl) (by kernel_rfl) (by kernel_rfl)) ((hc).2 3 _ rfl) (hc).1 (agg_in), ?_⟩
  refine ⟨isVal (.int .i64 (2 * C.room)), step_bin .mul 3 3 (.const (.int .i64 2)) (.tmp 37) (.int .i64 2) (.int .i64 C.room) (.int .i64 (2 * C.room)) (by kernel_rfl) (wanted_some 11 31 true (by kernel_rfl) (by kernel_rfl) (by kernel_rfl) (by kernel_rfl)) (knows_const _) (knows_new (V := isVal (.int .i64 C.room)) 37 17 (by kernel_rfl) (by kernel_rfl) (by kernel_rfl)) (fun _ => rfl) (mul_v 2 C.room (2 * C.room) (by omega) (by omega) (by omega)), ?_⟩
  refine ⟨isVal (.int .i64 (((C.slots + 3) + 1) + (2 * C.room))), step_bin .add 3 3 (.tmp 35) (.tmp 38) (.int .i64 ((C.slots + 3) + 1)) (.int .i64 (2 * C.room)) (.int .i64 (((C.slots + 3) + 1) + (2 * C.room))) (by kernel_rfl) (wanted_some 11 31 true (by kernel_rfl) (by kernel_rfl) (by kernel_rfl) (by kernel_rfl)) (knows_new (V := isVal (.int .i64 ((C.slots + 3) + 1))) 35 15 (by kernel_rfl) (by kernel_rfl) (by kernel_rfl)) (knows_new (V := isVal (.int .i64 (2 * C.room))) 38 18 (by kernel_rfl) (by kernel_rfl) (by kernel_rfl)) (fun _ => rfl) (add_v ((C.slots + 3) + 1) (2 * C.room) (((C.slots + 3) + 1) + (2 * C.room)) (by omega) (by omega) (by omega)), ?_⟩
  refine ⟨isVal (.int .i64 (C.slots + 3)), step_move (.tmp 4) (by kernel_rfl) (wanted_some 11 31 true (by kernel_rfl) (by kernel_rfl) (by kernel_rfl) (by kernel_rfl)) (stable_val _) (knows_old 4 (.int .i64 (C.slots + 3)) (by kernel_rfl) e4), ?_⟩
  refine ⟨isVal (.int .i64 ((((C.slots + 3) + 1) + (2 * C.room)) + (C.slots + 3))), step_bin .add 3 3 (.tmp 39) (.tmp 40) (.int .i64 (((C.slots + 3) + 1) + (2 * C.room))) (.int .i64 (C.slots + 3)) (.int .i64 ((((C.slots + 3) + 1) + (2 * C.room)) + (C.slots + 3))) (by kernel_rfl) (wanted_some 11 31 true (by kernel_rfl) (by kernel_rfl) (by kernel_rfl) (by kernel_rfl)) (knows_new (V := isVal (.int .i64 (((C.slots + 3) + 1) + (2 * C.room)))) 39 19 (by kernel_rfl) (by kernel_rfl) (by kernel_rfl)) (knows_new (V := isVal (.int .i64 (C.slots + 3))) 40 20 (by kernel_rfl) (by kernel_rfl) (by kernel_rfl)) (fun _ => rfl) (add_v (((C.slots + 3) + 1) + (2 * C.room)) (C.slots + 3) ((((C.slots + 3) + 1) + (2 * C.room)) + (C.slots + 3)) (by omega) (by omega) (by omega)), ?_⟩
  refine ⟨isVal (.bool true), step_bin .geq 3 3 (.tmp 33) (.tmp 41) (.int .i64 (workC C)) (.int .i64 ((((C.slots + 3) + 1) + (2 * C.room)) + (C.slots + 3))) (.bool true) (by kernel_rfl) (wanted_some 11 31 true (by kernel_rfl) (by kernel_rfl) (by kernel_rfl) (by kernel_rfl)) (knows_new (V := isVal (.int .i64 (workC C))) 33 13 (by kernel_rfl) (by kernel_rfl) (by kernel_rfl)) (knows_new (V := isVal (.int .i64 ((((C.slots + 3) + 1) + (2 * C.room)) + (C.slots + 3)))) 41 21 (by kernel_rfl) (by kernel_rfl) (by kernel_rfl)) (fun _ => rfl) (geq_t _ _ (by omega)), ?_⟩
  refine ⟨isVal (.bool true), step_pick (.tmp 31) (.tmp 42) (.const (.bool false)) true (by kernel_rfl) (wanted_none (by kernel_rfl)) (stable_val _) (knows_new (V := isVal (.bool true)) 31 11 (by kernel_rfl) (by kernel_rfl) (by kernel_rfl)) (knows_new (V := isVal (.bool true)) 42 22 (by kernel_rfl) (by kernel_rfl) (by kernel_rfl)), ?_⟩
  refine ⟨isVal (.bool true), step_assign (.tmp 43) (by kernel_rfl) (wanted_none (by kernel_rfl)) (stable_val _) (knows_new (V := isVal (.bool true)) 43 23 (by kernel_rfl) (by kernel_rfl) (by kernel_rfl)), ?_⟩
  intro a w hkp hb hd
  rw [kept_of hkp [some 20, some 21, some 22, some 23, some 24, some 25, some 26, some 27, some 28, some 29, some 30, some 31, some 32, some 33, some 34, some 35, some 36, some 37, some 38, some 39, some 40, some 41, some 42, some 43, some 2] [20, 21, 22, 23, 24, 25, 26, 27, 28, 29, 30, 31, 32, 33, 34, 35, 36, 37, 38, 39, 40, 41, 42, 43, 2] (by kernel_rfl) (by decide)]
  have d2 := fdone_of (hd 24 (by rw [show wgOps.size = 25 by kernel_rfl]; decide)) (t := 2) (V := isVal (.bool true)) (by kernel_rfl) (by kernel_rfl)
  exact hQ (fun s => a.tmps.getD s undef) w d2 hb
set_option maxRecDepth 100000 in
set_option maxHeartbeats 2000000 in
theorem configWork_walk (C : Cf) (v0 : Value) (w0 : CameC C) (w : World) (fl0 : isCf C v0 w) :
    Calls Try.prog 3 #[v0] w fun e w' => e = .returned (.bool true) ∧ Below w.heap.size w w' := by
  unfold isCf at fl0
  subst fl0
  obtain ⟨hB, HC⟩ := cbox w C w.heap.size rfl
  obtain ⟨hn, hn2⟩ : w.heap.size ≤ w.heap.size ∧ True := ⟨Nat.le_refl _, trivial⟩
  clear hn hn2
  go_enter Try.func3, Try.ntmps3
  go_wp2_with fail
  generalize w.alloc (.cells #[.int .i64 C.nodes, .int .i64 C.slots, .int .i64 C.pages, .int .i64 C.room, .int .i64 C.chunk, .int .i64 C.buffer, .int .i64 C.queue, .int .i64 C.wear] 23) = W0 at *
  refine (cfworks_any W0).mono ?_
  rintro e W1 ⟨rfl, hb⟩
  replace hB := Kept.mk (hB.out.trans (hb.mono hB.out.size))
  replace HC := Kept.mk (HC.out.keep hb)
  clear hb
  have kc0 := HC.out.cells.2 0 _ rfl
  have kc1 := HC.out.cells.2 1 _ rfl
  have kc2 := HC.out.cells.2 2 _ rfl
  have kc3 := HC.out.cells.2 3 _ rfl
  have kc4 := HC.out.cells.2 4 _ rfl
  have kc5 := HC.out.cells.2 5 _ rfl
  have kc6 := HC.out.cells.2 6 _ rfl
  have kc7 := HC.out.cells.2 7 _ rfl
  go_wp2_with fail
  clear kc0 kc1 kc2 kc3 kc4 kc5 kc6 kc7
  cases hok : okC C with
  | false =>
    have HOK := Kept.mk hok
    clear hok
    refine (gc_check C 1 W1 (chkC_no HOK.out)).mono ?_
    rintro e W2 ⟨rfl, hb⟩
    replace hB := Kept.mk (hB.out.trans (hb.mono hB.out.size))
    replace HC := Kept.mk (HC.out.keep hb)
    clear hb
    have kc0 := HC.out.cells.2 0 _ rfl
    have kc1 := HC.out.cells.2 1 _ rfl
    have kc2 := HC.out.cells.2 2 _ rfl
    have kc3 := HC.out.cells.2 3 _ rfl
    have kc4 := HC.out.cells.2 4 _ rfl
    have kc5 := HC.out.cells.2 5 _ rfl
    have kc6 := HC.out.cells.2 6 _ rfl
    have kc7 := HC.out.cells.2 7 _ rfl
    go_wp2_with fail
    clear kc0 kc1 kc2 kc3 kc4 kc5 kc6 kc7
    refine (cwork_any C W2).mono ?_
    rintro e W3 ⟨rfl, hb⟩
    replace hB := Kept.mk (hB.out.trans (hb.mono hB.out.size))
    replace HC := Kept.mk (HC.out.keep hb)
    clear hb
    rw [show workC C = 0 by unfold workC; rw [HOK.out]; rfl]
    go_wp2
    go_ret
    exact ⟨rfl, hB.out⟩
  | true =>
    have HOK := Kept.mk hok
    clear hok
    refine (gc_check C 0 W1 (chkC_yes HOK.out)).mono ?_
    rintro e W2 ⟨rfl, hb⟩
    replace hB := Kept.mk (hB.out.trans (hb.mono hB.out.size))
    replace HC := Kept.mk (HC.out.keep hb)
    clear hb
    have kc0 := HC.out.cells.2 0 _ rfl
    have kc1 := HC.out.cells.2 1 _ rfl
    have kc2 := HC.out.cells.2 2 _ rfl
    have kc3 := HC.out.cells.2 3 _ rfl
    have kc4 := HC.out.cells.2 4 _ rfl
    have kc5 := HC.out.cells.2 5 _ rfl
    have kc6 := HC.out.cells.2 6 _ rfl
    have kc7 := HC.out.cells.2 7 _ rfl
    have hO := okC_spec.1 HOK.out
    have n2 := hO.slots
    clear hO
    go_wp2_with fail
    clear kc0 kc1 kc2 kc3 kc4 kc5 kc6 kc7
    refine wg_region _ _ _ rfl w.heap.size C HC.out.cells rfl HOK.out rfl rfl ?_
    intro f9 W9 d2 hb9
    simp only [List.foldl_cons, List.foldl_nil, d2]
    generalize f9 20 = y20
    generalize f9 21 = y21
    generalize f9 22 = y22
    generalize f9 23 = y23
    generalize f9 24 = y24
    generalize f9 25 = y25
    generalize f9 26 = y26
    generalize f9 27 = y27
    generalize f9 28 = y28
    generalize f9 29 = y29
    generalize f9 30 = y30
    generalize f9 31 = y31
    generalize f9 32 = y32
    generalize f9 33 = y33
    generalize f9 34 = y34
    generalize f9 35 = y35
    generalize f9 36 = y36
    generalize f9 37 = y37
    generalize f9 38 = y38
    generalize f9 39 = y39
    generalize f9 40 = y40
    generalize f9 41 = y41
    generalize f9 42 = y42
    generalize f9 43 = y43
    clear d2
    simp only [List.setIfInBounds_toArray, List.set_cons_succ, List.set_cons_zero]
    replace hB := Kept.mk (hB.out.trans (hb9.mono hB.out.size))
    replace HC := Kept.mk (HC.out.keep hb9)
    clear hb9
    go_wp2
    go_ret
    exact ⟨rfl, hB.out⟩
set_option maxRecDepth 100000 in
theorem configWork_lifted (os : Os) (started : os.Started) (H : Type) (enc : TypeId × Value → H) :
    ReturnsInHanded {} Try.checked os 3 .any (Rows.configWorkSpec.pre6 enc Try.prog Try.f3 Rows.configWorkRow.domain false) (Rows.configWorkSpec.post enc Try.prog Try.f3 false true false false) := by
  refine returnsInHanded_of_change (C := Try.checked) (by kernel_rfl : ownKnob Try.prog.godebug = none) started (by kernel_rfl) Try.func3
    (ChangeSpec.witness6 (enc := enc) (C := Try.checked) false ⟨#[], #[.agg #[.int .i64 0, .int .i64 0, .int .i64 0, .int .i64 0, .int .i64 0, .int .i64 0, .int .i64 0, .int .i64 0]], []⟩ 8 (by kernel_rfl) (by kernel_rfl) (by kernel_rfl) (by kernel_rfl)) ?_
  intro W base args ds gs before hval0 hW hcnd _
  have hval : ∀ (j : Nat) t v, Try.f3.params[j]? = some t → args[j]? = some v → Value.okWide Try.prog W .any base t v := hval0
  have hW' := hW
  obtain ⟨p, q, hA0, hV, rfl, hfz, hnd⟩ := hW
  have hA : DataW.TrodAll enc Try.prog W 0 (fun _ => true) true Try.f3.params.toList args.toList ds p := hA0
  rw [Try.params3] at hA hval
  obtain ⟨v0, vs0, d0, ds0, p0, q0, hargs, rfl, rfl, h0, r0⟩ := trodAll_cons hA
  obtain ⟨rfl, rfl, rfl⟩ := trodAll_nil r0
  obtain rfl : args = #[v0] := by cases args; simp_all
  obtain ⟨rfl, rfl⟩ := trodVars_none hV
  obtain ⟨F0, fl0, w0⟩ := open_cf (hval 0 23 v0 rfl rfl) h0
  have lt0 : ∀ x ∈ p0, x.block < W.heap.size := fun x hx => by obtain ⟨fuel, hf⟩ := h0; exact DataW.trod_lt fuel _ _ _ hf x hx
  clear hA0 hval0
  simp only [List.append_nil] at hW'
  refine (configWork_walk F0 v0 w0 W fl0).mono fun e W' ⟨he, bel⟩ => ?_
  subst he
  exact ⟨_, rfl, _, _, _, [], _, [], hW', trodAll_mk1 (shut_bool Try.underlying4 _), (trodAll_cons_mk (Below.trod (by kernel_rfl) (by kernel_rfl) (of_decide_eq_true (by kernel_rfl)) h0 bel lt0) trodAll_mk0), rfl, bel.frame _, fun h => by cases h⟩
/-- THE STATEMENT. -/
theorem configWork_proved : Rows.ConfigWorkSaid :=
  OpenClaim.holds_of_wide 3 Try.f3 rfl rfl rfl rfl rfl rfl rfl ⟨rfl, rfl, rfl, rfl, rfl⟩ rfl rfl rfl rfl rfl (by kernel_rfl) Try.func3 (by kernel_rfl)
    (of_decide_eq_true (by kernel_rfl)) (by unfold Func.isWrapper; first | (rw [if_pos (by decide +kernel)]; kernel_rfl) | (rw [if_neg (by decide +kernel)]; exact ⟨rfl, rfl⟩))
    (fun os started H enc _ => configWork_lifted os started H enc)
#print axioms configWork_proved
end Go.Proofs.Ytpjafjnokgeifab
