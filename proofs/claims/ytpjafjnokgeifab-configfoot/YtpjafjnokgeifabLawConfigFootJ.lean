/- What there is is as large as its parts, and never more than is known ahead (config.Footprint, Size). No condition. -/
import Derived.Test.YtpjafjnokgeifabPartB
import Derived.SizedLaws
import Derived.ProofKit
import Derived.OpenShut
import Derived.ShutString
import Derived.ChangeOld
import Derived.Below
namespace Go.Proofs.Ytpjafjnokgeifab
open Go.RowKit
open Go.ChangeShapes Go.WideShapes Go.ChangeAt Go.RowKit
open Go.ChangeMaps (open_string shut_string)
set_option linter.unusedVariables false
set_option linter.unusedSimpArgs false
attribute [local irreducible] setN

noncomputable def foOps : Array Oper := regionOf Try.f4 7
set_option maxRecDepth 100000 in
set_option maxHeartbeats 2000000 in
theorem fo_region (Q : Exit → Act → World → Prop) (a0 : Act) (w0 : World) (hsz : a0.tmps.size = 87) (g : Nat) (C : Cf) (hc : CellsN w0 g [.int .i64 C.nodes, .int .i64 C.slots, .int .i64 C.pages, .int .i64 C.room, .int .i64 C.chunk, .int .i64 C.buffer, .int .i64 C.queue, .int .i64 C.wear]) (e1 : a0.tmps.getD 1 undef = .pointer (some ⟨g, 0, none⟩)) (h : Nat) (hf : CellsN w0 h [.int .i64 C.pages, .int .i64 (sizeC C), .int .i64 C.slots, .int .i64 (2 * C.buffer), .int .i64 (2 * C.nodes), .int .i64 C.queue]) (hok : okC C = true) (e3 : a0.tmps.getD 3 undef = .bool true) (e4 : a0.tmps.getD 4 undef = .pointer (some ⟨h, 0, none⟩))
    (hQ : ∀ (g : Nat → Value) (w : World), g 2 = .bool true → Below w0.heap.size w0 w → Q .normal { tmps := [19, 20, 21, 22, 23, 24, 25, 26, 27, 28, 29, 30, 31, 32, 33, 34, 35, 36, 37, 38, 39, 40, 41, 42, 43, 44, 45, 46, 47, 48, 49, 50, 51, 52, 53, 54, 55, 56, 57, 58, 59, 60, 61, 62, 63, 64, 65, 66, 67, 68, 69, 70, 71, 72, 73, 74, 75, 76, 77, 78, 79, 80, 81, 82, 83, 84, 85, 86, 2].foldl (fun t s => t.setIfInBounds s (g s)) a0.tmps, defers := a0.defers } w) :
    (Code.region 7 foOps true).wp Try.prog Q a0 w0 := by
  have hO := okC_spec.1 hok
  have h1 := hO.pages
  have h2 := hO.room
  have h3 := hO.buffer
  have h4 := hO.nodes
  have h5 := hO.queue
  have h6 : sizeC C = C.room * 92 := by unfold sizeC; rw [if_pos hok]
  have h9 := hO.slots
  have h7 : C.pages * (sizeC C) ≤ 6 * 2208 := Int.le_trans (Int.mul_le_mul_of_nonneg_right h1.2 (by omega)) (Int.mul_le_mul_of_nonneg_left (by omega) (by omega))
  have h8 : 0 ≤ C.pages * (sizeC C) := Int.mul_nonneg (by omega) (by omega)
  refine wp_region_flow mixed (by rw [hsz]; kernel_rfl) ?_
  rw [show foOps.size = 69 by kernel_rfl]
  refine ⟨isVal (.bool true), step_move (.tmp 3) (by kernel_rfl) (wanted_none (by kernel_rfl)) (stable_val _) (knows_old 3 (.bool true) (by kernel_rfl) e3), ?_⟩
  refine ⟨isVal (.bool true), step_move (.tmp 19) (by kernel_rfl) (wanted_none (by kernel_rfl)) (stable_val _) (knows_new (V := isVal (.bool true)) 19 0 (by kernel_rfl) (by kernel_rfl) (by kernel_rfl)), ?_⟩
  refine ⟨isVal (.pointer (some ⟨h, 0, none⟩)), step_at 29 3 (.tmp 4) 6 0 (h) (by kernel_rfl) (wanted_some 1 20 true (by kernel_rfl) (by kernel_rfl) (by kernel_rfl) (by kernel_rfl)) (knows_old 4 (.pointer (some ⟨h, 0, none⟩)) (by kernel_rfl) e4) Try.underlying29 (by kernel_rfl) (by kernel_rfl) (by omega), ?_⟩
  refine ⟨isVal (.int .i64 C.pages), step_read 3 (.tmp 21) ⟨h, 0, none⟩ (.int .i64 C.pages) (by kernel_rfl) (wanted_some 1 20 true (by kernel_rfl) (by kernel_rfl) (by kernel_rfl) (by kernel_rfl)) (knows_new (V := isVal (.pointer (some ⟨h, 0, none⟩))) 21 2 (by kernel_rfl) (by kernel_rfl) (by kernel_rfl)) ((hf).2 0 _ rfl) (hf).1 (agg_in), ?_⟩
  refine ⟨isVal (.pointer (some ⟨g, 2, none⟩)), step_field 23 (.tmp 1) 2 ⟨g, 0, none⟩ ⟨g, 2, none⟩ (by kernel_rfl) (wanted_some 1 20 true (by kernel_rfl) (by kernel_rfl) (by kernel_rfl) (by kernel_rfl)) (knows_old 1 (.pointer (some ⟨g, 0, none⟩)) (by kernel_rfl) e1) (f_cf (g) 2 (by omega)), ?_⟩
  refine ⟨isVal (.int .i64 C.pages), step_read 3 (.tmp 23) ⟨g, 2, none⟩ (.int .i64 C.pages) (by kernel_rfl) (wanted_some 1 20 true (by kernel_rfl) (by kernel_rfl) (by kernel_rfl) (by kernel_rfl)) (knows_new (V := isVal (.pointer (some ⟨g, 2, none⟩))) 23 4 (by kernel_rfl) (by kernel_rfl) (by kernel_rfl)) ((hc).2 2 _ rfl) (hc).1 (agg_in), ?_⟩
  refine ⟨isVal (.bool true), step_bin .eql 3 3 (.tmp 22) (.tmp 24) (.int .i64 C.pages) (.int .i64 C.pages) (.bool true) (by kernel_rfl) (wanted_some 1 20 true (by kernel_rfl) (by kernel_rfl) (by kernel_rfl) (by kernel_rfl)) (knows_new (V := isVal (.int .i64 C.pages)) 22 3 (by kernel_rfl) (by kernel_rfl) (by kernel_rfl)) (knows_new (V := isVal (.int .i64 C.pages)) 24 5 (by kernel_rfl) (by kernel_rfl) (by kernel_rfl)) (fun _ => rfl) (eql_t _ _ (by omega)), ?_⟩
  refine ⟨isVal (.bool true), step_pick (.tmp 20) (.tmp 25) (.const (.bool false)) true (by kernel_rfl) (wanted_none (by kernel_rfl)) (stable_val _) (knows_new (V := isVal (.bool true)) 20 1 (by kernel_rfl) (by kernel_rfl) (by kernel_rfl)) (knows_new (V := isVal (.bool true)) 25 6 (by kernel_rfl) (by kernel_rfl) (by kernel_rfl)), ?_⟩
  refine ⟨isVal (.bool true), step_move (.tmp 26) (by kernel_rfl) (wanted_none (by kernel_rfl)) (stable_val _) (knows_new (V := isVal (.bool true)) 26 7 (by kernel_rfl) (by kernel_rfl) (by kernel_rfl)), ?_⟩
  refine ⟨isVal (.pointer (some ⟨h, 1, none⟩)), step_at 29 3 (.tmp 4) 6 1 (h) (by kernel_rfl) (wanted_some 8 27 true (by kernel_rfl) (by kernel_rfl) (by kernel_rfl) (by kernel_rfl)) (knows_old 4 (.pointer (some ⟨h, 0, none⟩)) (by kernel_rfl) e4) Try.underlying29 (by kernel_rfl) (by kernel_rfl) (by omega), ?_⟩
  refine ⟨isVal (.int .i64 (sizeC C)), step_read 3 (.tmp 28) ⟨h, 1, none⟩ (.int .i64 (sizeC C)) (by kernel_rfl) (wanted_some 8 27 true (by kernel_rfl) (by kernel_rfl) (by kernel_rfl) (by kernel_rfl)) (knows_new (V := isVal (.pointer (some ⟨h, 1, none⟩))) 28 9 (by kernel_rfl) (by kernel_rfl) (by kernel_rfl)) ((hf).2 1 _ rfl) (hf).1 (agg_in), ?_⟩
  refine ⟨isVal (.agg #[.int .i64 C.nodes, .int .i64 C.slots, .int .i64 C.pages, .int .i64 C.room, .int .i64 C.chunk, .int .i64 C.buffer, .int .i64 C.queue, .int .i64 C.wear]), step_loadN 23 (.tmp 1) (g) [.int .i64 C.nodes, .int .i64 C.slots, .int .i64 C.pages, .int .i64 C.room, .int .i64 C.chunk, .int .i64 C.buffer, .int .i64 C.queue, .int .i64 C.wear] (by kernel_rfl) (wanted_some 8 27 true (by kernel_rfl) (by kernel_rfl) (by kernel_rfl) (by kernel_rfl)) (knows_old 1 (.pointer (some ⟨g, 0, none⟩)) (by kernel_rfl) e1) size_cf agg_cf (hc), ?_⟩
  refine ⟨isVal (.int .i64 (sizeC C)), step_call 9 #[.tmp 30] #[23] #[.agg #[.int .i64 C.nodes, .int .i64 C.slots, .int .i64 C.pages, .int .i64 C.room, .int .i64 C.chunk, .int .i64 C.buffer, .int .i64 C.queue, .int .i64 C.wear]] (by kernel_rfl) (wanted_some 8 27 true (by kernel_rfl) (by kernel_rfl) (by kernel_rfl) (by kernel_rfl)) (stable_val _) (args1 (.tmp 30) (.agg #[.int .i64 C.nodes, .int .i64 C.slots, .int .i64 C.pages, .int .i64 C.room, .int .i64 C.chunk, .int .i64 C.buffer, .int .i64 C.queue, .int .i64 C.wear]) (knows_new (V := isVal (.agg #[.int .i64 C.nodes, .int .i64 C.slots, .int .i64 C.pages, .int .i64 C.room, .int .i64 C.chunk, .int .i64 C.buffer, .int .i64 C.queue, .int .i64 C.wear])) 30 11 (by kernel_rfl) (by kernel_rfl) (by kernel_rfl))) (enters_of Try.func9 (by kernel_rfl) rfl) (by intro w' hb; exact cv1 (csize_any C w')), ?_⟩
  refine ⟨isVal (.bool true), step_bin .eql 3 3 (.tmp 29) (.tmp 31) (.int .i64 (sizeC C)) (.int .i64 (sizeC C)) (.bool true) (by kernel_rfl) (wanted_some 8 27 true (by kernel_rfl) (by kernel_rfl) (by kernel_rfl) (by kernel_rfl)) (knows_new (V := isVal (.int .i64 (sizeC C))) 29 10 (by kernel_rfl) (by kernel_rfl) (by kernel_rfl)) (knows_new (V := isVal (.int .i64 (sizeC C))) 31 12 (by kernel_rfl) (by kernel_rfl) (by kernel_rfl)) (fun _ => rfl) (eql_t _ _ (by omega)), ?_⟩
  refine ⟨isVal (.bool true), step_pick (.tmp 27) (.tmp 32) (.const (.bool false)) true (by kernel_rfl) (wanted_none (by kernel_rfl)) (stable_val _) (knows_new (V := isVal (.bool true)) 27 8 (by kernel_rfl) (by kernel_rfl) (by kernel_rfl)) (knows_new (V := isVal (.bool true)) 32 13 (by kernel_rfl) (by kernel_rfl) (by kernel_rfl)), ?_⟩
  refine ⟨isVal (.bool true), step_move (.tmp 33) (by kernel_rfl) (wanted_none (by kernel_rfl)) (stable_val _) (knows_new (V := isVal (.bool true)) 33 14 (by kernel_rfl) (by kernel_rfl) (by kernel_rfl)), ?_⟩
  refine ⟨isVal (.pointer (some ⟨h, 2, none⟩)), step_at 29 3 (.tmp 4) 6 2 (h) (by kernel_rfl) (wanted_some 15 34 true (by kernel_rfl) (by kernel_rfl) (by kernel_rfl) (by kernel_rfl)) (knows_old 4 (.pointer (some ⟨h, 0, none⟩)) (by kernel_rfl) e4) Try.underlying29 (by kernel_rfl) (by kernel_rfl) (by omega), ?_⟩
  refine ⟨isVal (.int .i64 C.slots), step_read 3 (.tmp 35) ⟨h, 2, none⟩ (.int .i64 C.slots) (by kernel_rfl) (wanted_some 15 34 true (by kernel_rfl) (by kernel_rfl) (by kernel_rfl) (by kernel_rfl)) (knows_new (V := isVal (.pointer (some ⟨h, 2, none⟩))) 35 16 (by kernel_rfl) (by kernel_rfl) (by kernel_rfl)) ((hf).2 2 _ rfl) (hf).1 (agg_in), ?_⟩
  refine ⟨isVal (.pointer (some ⟨g, 1, none⟩)), step_field 23 (.tmp 1) 1 ⟨g, 0, none⟩ ⟨g, 1, none⟩ (by kernel_rfl) (wanted_some 15 34 true (by kernel_rfl) (by kernel_rfl) (by kernel_rfl) (by kernel_rfl)) (knows_old 1 (.pointer (some ⟨g, 0, none⟩)) (by kernel_rfl) e1) (f_cf (g) 1 (by omega)), ?_⟩
  refine ⟨isVal (.int .i64 C.slots), step_read 3 (.tmp 37) ⟨g, 1, none⟩ (.int .i64 C.slots) (by kernel_rfl) (wanted_some 15 34 true (by kernel_rfl) (by kernel_rfl) (by kernel_rfl) (by kernel_rfl)) (knows_new (V := isVal (.pointer (some ⟨g, 1, none⟩))) 37 18 (by kernel_rfl) (by kernel_rfl) (by kernel_rfl)) ((hc).2 1 _ rfl) (hc).1 (agg_in), ?_⟩
  refine ⟨isVal (.bool true), step_bin .eql 3 3 (.tmp 36) (.tmp 38) (.int .i64 C.slots) (.int .i64 C.slots) (.bool true) (by kernel_rfl) (wanted_some 15 34 true (by kernel_rfl) (by kernel_rfl) (by kernel_rfl) (by kernel_rfl)) (knows_new (V := isVal (.int .i64 C.slots)) 36 17 (by kernel_rfl) (by kernel_rfl) (by kernel_rfl)) (knows_new (V := isVal (.int .i64 C.slots)) 38 19 (by kernel_rfl) (by kernel_rfl) (by kernel_rfl)) (fun _ => rfl) (eql_t _ _ (by omega)), ?_⟩
  refine ⟨isVal (.bool true), step_pick (.tmp 34) (.tmp 39) (.const (.bool false)) true (by kernel_rfl) (wanted_none (by kernel_rfl)) (stable_val _) (knows_new (V := isVal (.bool true)) 34 15 (by kernel_rfl) (by kernel_rfl) (by kernel_rfl)) (knows_new (V := isVal (.bool true)) 39 20 (by kernel_rfl) (by kernel_rfl) (by kernel_rfl)), ?_⟩
  refine ⟨isVal (.bool true), step_move (.tmp 40) (by kernel_rfl) (wanted_none (by kernel_rfl)) (stable_val _) (knows_new (V := isVal (.bool true)) 40 21 (by kernel_rfl) (by kernel_rfl) (by kernel_rfl)), ?_⟩
  refine ⟨isVal (.pointer (some ⟨h, 0, none⟩)), step_at 29 3 (.tmp 4) 6 0 (h) (by kernel_rfl) (wanted_some 22 41 true (by kernel_rfl) (by kernel_rfl) (by kernel_rfl) (by kernel_rfl)) (knows_old 4 (.pointer (some ⟨h, 0, none⟩)) (by kernel_rfl) e4) Try.underlying29 (by kernel_rfl) (by kernel_rfl) (by omega), ?_⟩
  refine ⟨isVal (.int .i64 C.pages), step_read 3 (.tmp 42) ⟨h, 0, none⟩ (.int .i64 C.pages) (by kernel_rfl) (wanted_some 22 41 true (by kernel_rfl) (by kernel_rfl) (by kernel_rfl) (by kernel_rfl)) (knows_new (V := isVal (.pointer (some ⟨h, 0, none⟩))) 42 23 (by kernel_rfl) (by kernel_rfl) (by kernel_rfl)) ((hf).2 0 _ rfl) (hf).1 (agg_in), ?_⟩
  refine ⟨isVal (.pointer (some ⟨h, 1, none⟩)), step_at 29 3 (.tmp 4) 6 1 (h) (by kernel_rfl) (wanted_some 22 41 true (by kernel_rfl) (by kernel_rfl) (by kernel_rfl) (by kernel_rfl)) (knows_old 4 (.pointer (some ⟨h, 0, none⟩)) (by kernel_rfl) e4) Try.underlying29 (by kernel_rfl) (by kernel_rfl) (by omega), ?_⟩
  refine ⟨isVal (.int .i64 (sizeC C)), step_read 3 (.tmp 44) ⟨h, 1, none⟩ (.int .i64 (sizeC C)) (by kernel_rfl) (wanted_some 22 41 true (by kernel_rfl) (by kernel_rfl) (by kernel_rfl) (by kernel_rfl)) (knows_new (V := isVal (.pointer (some ⟨h, 1, none⟩))) 44 25 (by kernel_rfl) (by kernel_rfl) (by kernel_rfl)) ((hf).2 1 _ rfl) (hf).1 (agg_in), ?_⟩
  refine ⟨isVal (.int .i64 (C.pages * (sizeC C))), step_bin .mul 3 3 (.tmp 43) (.tmp 45) (.int .i64 C.pages) (.int .i64 (sizeC C)) (.int .i64 (C.pages * (sizeC C))) (by kernel_rfl) (wanted_some 22 41 true (by kernel_rfl) (by kernel_rfl) (by kernel_rfl) (by kernel_rfl)) (knows_new (V := isVal (.int .i64 C.pages)) 43 24 (by kernel_rfl) (by kernel_rfl) (by kernel_rfl)) (knows_new (V := isVal (.int .i64 (sizeC C))) 45 26 (by kernel_rfl) (by kernel_rfl) (by kernel_rfl)) (fun _ => rfl) (mul_v C.pages (sizeC C) (C.pages * (sizeC C)) (by omega) (by omega) (by omega)), ?_⟩
  refine ⟨isVal (.bool true), step_bin .leq 3 3 (.tmp 46) (.const (.int .i64 13248)) (.int .i64 (C.pages * (sizeC C))) (.int .i64 13248) (.bool true) (by kernel_rfl) (wanted_some 22 41 true (by kernel_rfl) (by kernel_rfl) (by kernel_rfl) (by kernel_rfl)) (knows_new (V := isVal (.int .i64 (C.pages * (sizeC C)))) 46 27 (by kernel_rfl) (by kernel_rfl) (by kernel_rfl)) (knows_const _) (fun _ => rfl) (leq_t _ _ (by omega)), ?_⟩
  refine ⟨isVal (.bool true), step_pick (.tmp 41) (.tmp 47) (.const (.bool false)) true (by kernel_rfl) (wanted_none (by kernel_rfl)) (stable_val _) (knows_new (V := isVal (.bool true)) 41 22 (by kernel_rfl) (by kernel_rfl) (by kernel_rfl)) (knows_new (V := isVal (.bool true)) 47 28 (by kernel_rfl) (by kernel_rfl) (by kernel_rfl)), ?_⟩
  refine ⟨isVal (.bool true), step_move (.tmp 48) (by kernel_rfl) (wanted_none (by kernel_rfl)) (stable_val _) (knows_new (V := isVal (.bool true)) 48 29 (by kernel_rfl) (by kernel_rfl) (by kernel_rfl)), ?_⟩
  refine ⟨isVal (.pointer (some ⟨h, 3, none⟩)), step_at 29 3 (.tmp 4) 6 3 (h) (by kernel_rfl) (wanted_some 30 49 true (by kernel_rfl) (by kernel_rfl) (by kernel_rfl) (by kernel_rfl)) (knows_old 4 (.pointer (some ⟨h, 0, none⟩)) (by kernel_rfl) e4) Try.underlying29 (by kernel_rfl) (by kernel_rfl) (by omega), ?_⟩
  refine ⟨isVal (.int .i64 (2 * C.buffer)), step_read 3 (.tmp 50) ⟨h, 3, none⟩ (.int .i64 (2 * C.buffer)) (by kernel_rfl) (wanted_some 30 49 true (by kernel_rfl) (by kernel_rfl) (by kernel_rfl) (by kernel_rfl)) (knows_new (V := isVal (.pointer (some ⟨h, 3, none⟩))) 50 31 (by kernel_rfl) (by kernel_rfl) (by kernel_rfl)) ((hf).2 3 _ rfl) (hf).1 (agg_in), ?_⟩
  refine ⟨isVal (.pointer (some ⟨g, 5, none⟩)), step_field 23 (.tmp 1) 5 ⟨g, 0, none⟩ ⟨g, 5, none⟩ (by kernel_rfl) (wanted_some 30 49 true (by kernel_rfl) (by kernel_rfl) (by kernel_rfl) (by kernel_rfl)) (knows_old 1 (.pointer (some ⟨g, 0, none⟩)) (by kernel_rfl) e1) (f_cf (g) 5 (by omega)), ?_⟩
  refine ⟨isVal (.int .i64 C.buffer), step_read 3 (.tmp 52) ⟨g, 5, none⟩ (.int .i64 C.buffer) (by kernel_rfl) (wanted_some 30 49 true (by kernel_rfl) (by kernel_rfl) (by kernel_rfl) (by kernel_rfl)) (knows_new (V := isVal (.pointer (some ⟨g, 5, none⟩))) 52 33 (by kernel_rfl) (by kernel_rfl) (by kernel_rfl)) ((hc).2 5 _ rfl) (hc).1 (agg_in), ?_⟩
  refine ⟨isVal (.int .i64 (2 * C.buffer)), step_bin .mul 3 3 (.const (.int .i64 2)) (.tmp 53) (.int .i64 2) (.int .i64 C.buffer) (.int .i64 (2 * C.buffer)) (by kernel_rfl) (wanted_some 30 49 true (by kernel_rfl) (by kernel_rfl) (by kernel_rfl) (by kernel_rfl)) (knows_const _) (knows_new (V := isVal (.int .i64 C.buffer)) 53 34 (by kernel_rfl) (by kernel_rfl) (by kernel_rfl)) (fun _ => rfl) (mul_v 2 C.buffer (2 * C.buffer) (by omega) (by omega) (by omega)), ?_⟩
  refine ⟨isVal (.bool true), step_bin .eql 3 3 (.tmp 51) (.tmp 54) (.int .i64 (2 * C.buffer)) (.int .i64 (2 * C.buffer)) (.bool true) (by kernel_rfl) (wanted_some 30 49 true (by kernel_rfl) (by kernel_rfl) (by kernel_rfl) (by kernel_rfl)) (knows_new (V := isVal (.int .i64 (2 * C.buffer))) 51 32 (by kernel_rfl) (by kernel_rfl) (by kernel_rfl)) (knows_new (V := isVal (.int .i64 (2 * C.buffer))) 54 35 (by kernel_rfl) (by kernel_rfl) (by kernel_rfl)) (fun _ => rfl) (eql_t _ _ (by omega)), ?_⟩
  refine ⟨isVal (.bool true), step_pick (.tmp 49) (.tmp 55) (.const (.bool false)) true (by kernel_rfl) (wanted_none (by kernel_rfl)) (stable_val _) (knows_new (V := isVal (.bool true)) 49 30 (by kernel_rfl) (by kernel_rfl) (by kernel_rfl)) (knows_new (V := isVal (.bool true)) 55 36 (by kernel_rfl) (by kernel_rfl) (by kernel_rfl)), ?_⟩
  refine ⟨isVal (.bool true), step_move (.tmp 56) (by kernel_rfl) (wanted_none (by kernel_rfl)) (stable_val _) (knows_new (V := isVal (.bool true)) 56 37 (by kernel_rfl) (by kernel_rfl) (by kernel_rfl)), ?_⟩
  refine ⟨isVal (.pointer (some ⟨h, 3, none⟩)), step_at 29 3 (.tmp 4) 6 3 (h) (by kernel_rfl) (wanted_some 38 57 true (by kernel_rfl) (by kernel_rfl) (by kernel_rfl) (by kernel_rfl)) (knows_old 4 (.pointer (some ⟨h, 0, none⟩)) (by kernel_rfl) e4) Try.underlying29 (by kernel_rfl) (by kernel_rfl) (by omega), ?_⟩
  refine ⟨isVal (.int .i64 (2 * C.buffer)), step_read 3 (.tmp 58) ⟨h, 3, none⟩ (.int .i64 (2 * C.buffer)) (by kernel_rfl) (wanted_some 38 57 true (by kernel_rfl) (by kernel_rfl) (by kernel_rfl) (by kernel_rfl)) (knows_new (V := isVal (.pointer (some ⟨h, 3, none⟩))) 58 39 (by kernel_rfl) (by kernel_rfl) (by kernel_rfl)) ((hf).2 3 _ rfl) (hf).1 (agg_in), ?_⟩
  refine ⟨isVal (.bool true), step_bin .leq 3 3 (.tmp 59) (.const (.int .i64 16)) (.int .i64 (2 * C.buffer)) (.int .i64 16) (.bool true) (by kernel_rfl) (wanted_some 38 57 true (by kernel_rfl) (by kernel_rfl) (by kernel_rfl) (by kernel_rfl)) (knows_new (V := isVal (.int .i64 (2 * C.buffer))) 59 40 (by kernel_rfl) (by kernel_rfl) (by kernel_rfl)) (knows_const _) (fun _ => rfl) (leq_t _ _ (by omega)), ?_⟩
  refine ⟨isVal (.bool true), step_pick (.tmp 57) (.tmp 60) (.const (.bool false)) true (by kernel_rfl) (wanted_none (by kernel_rfl)) (stable_val _) (knows_new (V := isVal (.bool true)) 57 38 (by kernel_rfl) (by kernel_rfl) (by kernel_rfl)) (knows_new (V := isVal (.bool true)) 60 41 (by kernel_rfl) (by kernel_rfl) (by kernel_rfl)), ?_⟩
  refine ⟨isVal (.bool true), step_move (.tmp 61) (by kernel_rfl) (wanted_none (by kernel_rfl)) (stable_val _) (knows_new (V := isVal (.bool true)) 61 42 (by kernel_rfl) (by kernel_rfl) (by kernel_rfl)), ?_⟩
  refine ⟨isVal (.pointer (some ⟨h, 4, none⟩)), step_at 29 3 (.tmp 4) 6 4 (h) (by kernel_rfl) (wanted_some 43 62 true (by kernel_rfl) (by kernel_rfl) (by kernel_rfl) (by kernel_rfl)) (knows_old 4 (.pointer (some ⟨h, 0, none⟩)) (by kernel_rfl) e4) Try.underlying29 (by kernel_rfl) (by kernel_rfl) (by omega), ?_⟩
  refine ⟨isVal (.int .i64 (2 * C.nodes)), step_read 3 (.tmp 63) ⟨h, 4, none⟩ (.int .i64 (2 * C.nodes)) (by kernel_rfl) (wanted_some 43 62 true (by kernel_rfl) (by kernel_rfl) (by kernel_rfl) (by kernel_rfl)) (knows_new (V := isVal (.pointer (some ⟨h, 4, none⟩))) 63 44 (by kernel_rfl) (by kernel_rfl) (by kernel_rfl)) ((hf).2 4 _ rfl) (hf).1 (agg_in), ?_⟩
  refine ⟨isVal (.pointer (some ⟨g, 0, none⟩)), step_field 23 (.tmp 1) 0 ⟨g, 0, none⟩ ⟨g, 0, none⟩ (by kernel_rfl) (wanted_some 43 62 true (by kernel_rfl) (by kernel_rfl) (by kernel_rfl) (by kernel_rfl)) (knows_old 1 (.pointer (some ⟨g, 0, none⟩)) (by kernel_rfl) e1) (f_cf (g) 0 (by omega)), ?_⟩
  refine ⟨isVal (.int .i64 C.nodes), step_read 3 (.tmp 65) ⟨g, 0, none⟩ (.int .i64 C.nodes) (by kernel_rfl) (wanted_some 43 62 true (by kernel_rfl) (by kernel_rfl) (by kernel_rfl) (by kernel_rfl)) (knows_new (V := isVal (.pointer (some ⟨g, 0, none⟩))) 65 46 (by kernel_rfl) (by kernel_rfl) (by kernel_rfl)) ((hc).2 0 _ rfl) (hc).1 (agg_in), ?_⟩
  refine ⟨isVal (.int .i64 (2 * C.nodes)), step_bin .mul 3 3 (.const (.int .i64 2)) (.tmp 66) (.int .i64 2) (.int .i64 C.nodes) (.int .i64 (2 * C.nodes)) (by kernel_rfl) (wanted_some 43 62 true (by kernel_rfl) (by kernel_rfl) (by kernel_rfl) (by kernel_rfl)) (knows_const _) (knows_new (V := isVal (.int .i64 C.nodes)) 66 47 (by kernel_rfl) (by kernel_rfl) (by kernel_rfl)) (fun _ => rfl) (mul_v 2 C.nodes (2 * C.nodes) (by omega) (by omega) (by omega)), ?_⟩
  refine ⟨isVal (.bool true), step_bin .eql 3 3 (.tmp 64) (.tmp 67) (.int .i64 (2 * C.nodes)) (.int .i64 (2 * C.nodes)) (.bool true) (by kernel_rfl) (wanted_some 43 62 true (by kernel_rfl) (by kernel_rfl) (by kernel_rfl) (by kernel_rfl)) (knows_new (V := isVal (.int .i64 (2 * C.nodes))) 64 45 (by kernel_rfl) (by kernel_rfl) (by kernel_rfl)) (knows_new (V := isVal (.int .i64 (2 * C.nodes))) 67 48 (by kernel_rfl) (by kernel_rfl) (by kernel_rfl)) (fun _ => rfl) (eql_t _ _ (by omega)), ?_⟩
  refine ⟨isVal (.bool true), step_pick (.tmp 62) (.tmp 68) (.const (.bool false)) true (by kernel_rfl) (wanted_none (by kernel_rfl)) (stable_val _) (knows_new (V := isVal (.bool true)) 62 43 (by kernel_rfl) (by kernel_rfl) (by kernel_rfl)) (knows_new (V := isVal (.bool true)) 68 49 (by kernel_rfl) (by kernel_rfl) (by kernel_rfl)), ?_⟩
  refine ⟨isVal (.bool true), step_move (.tmp 69) (by kernel_rfl) (wanted_none (by kernel_rfl)) (stable_val _) (knows_new (V := isVal (.bool true)) 69 50 (by kernel_rfl) (by kernel_rfl) (by kernel_rfl)), ?_⟩
  refine ⟨isVal (.pointer (some ⟨h, 4, none⟩)), step_at 29 3 (.tmp 4) 6 4 (h) (by kernel_rfl) (wanted_some 51 70 true (by kernel_rfl) (by kernel_rfl) (by kernel_rfl) (by kernel_rfl)) (knows_old 4 (.pointer (some ⟨h, 0, none⟩)) (by kernel_rfl) e4) Try.underlying29 (by kernel_rfl) (by kernel_rfl) (by omega), ?_⟩
  refine ⟨isVal (.int .i64 (2 * C.nodes)), step_read 3 (.tmp 71) ⟨h, 4, none⟩ (.int .i64 (2 * C.nodes)) (by kernel_rfl) (wanted_some 51 70 true (by kernel_rfl) (by kernel_rfl) (by kernel_rfl) (by kernel_rfl)) (knows_new (V := isVal (.pointer (some ⟨h, 4, none⟩))) 71 52 (by kernel_rfl) (by kernel_rfl) (by kernel_rfl)) ((hf).2 4 _ rfl) (hf).1 (agg_in), ?_⟩
  refine ⟨isVal (.bool true), step_bin .leq 3 3 (.tmp 72) (.const (.int .i64 16)) (.int .i64 (2 * C.nodes)) (.int .i64 16) (.bool true) (by kernel_rfl) (wanted_some 51 70 true (by kernel_rfl) (by kernel_rfl) (by kernel_rfl) (by kernel_rfl)) (knows_new (V := isVal (.int .i64 (2 * C.nodes))) 72 53 (by kernel_rfl) (by kernel_rfl) (by kernel_rfl)) (knows_const _) (fun _ => rfl) (leq_t _ _ (by omega)), ?_⟩
  refine ⟨isVal (.bool true), step_pick (.tmp 70) (.tmp 73) (.const (.bool false)) true (by kernel_rfl) (wanted_none (by kernel_rfl)) (stable_val _) (knows_new (V := isVal (.bool true)) 70 51 (by kernel_rfl) (by kernel_rfl) (by kernel_rfl)) (knows_new (V := isVal (.bool true)) 73 54 (by kernel_rfl) (by kernel_rfl) (by kernel_rfl)), ?_⟩
  refine ⟨isVal (.bool true), step_move (.tmp 74) (by kernel_rfl) (wanted_none (by kernel_rfl)) (stable_val _) (knows_new (V := isVal (.bool true)) 74 55 (by kernel_rfl) (by kernel_rfl) (by kernel_rfl)), ?_⟩
  refine ⟨isVal (.pointer (some ⟨h, 5, none⟩)), step_at 29 3 (.tmp 4) 6 5 (h) (by kernel_rfl) (wanted_some 56 75 true (by kernel_rfl) (by kernel_rfl) (by kernel_rfl) (by kernel_rfl)) (knows_old 4 (.pointer (some ⟨h, 0, none⟩)) (by kernel_rfl) e4) Try.underlying29 (by kernel_rfl) (by kernel_rfl) (by omega), ?_⟩
  refine ⟨isVal (.int .i64 C.queue), step_read 3 (.tmp 76) ⟨h, 5, none⟩ (.int .i64 C.queue) (by kernel_rfl) (wanted_some 56 75 true (by kernel_rfl) (by kernel_rfl) (by kernel_rfl) (by kernel_rfl)) (knows_new (V := isVal (.pointer (some ⟨h, 5, none⟩))) 76 57 (by kernel_rfl) (by kernel_rfl) (by kernel_rfl)) ((hf).2 5 _ rfl) (hf).1 (agg_in), ?_⟩
  refine ⟨isVal (.pointer (some ⟨g, 6, none⟩)), step_field 23 (.tmp 1) 6 ⟨g, 0, none⟩ ⟨g, 6, none⟩ (by kernel_rfl) (wanted_some 56 75 true (by kernel_rfl) (by kernel_rfl) (by kernel_rfl) (by kernel_rfl)) (knows_old 1 (.pointer (some ⟨g, 0, none⟩)) (by kernel_rfl) e1) (f_cf (g) 6 (by omega)), ?_⟩
  refine ⟨isVal (.int .i64 C.queue), step_read 3 (.tmp 78) ⟨g, 6, none⟩ (.int .i64 C.queue) (by kernel_rfl) (wanted_some 56 75 true (by kernel_rfl) (by kernel_rfl) (by kernel_rfl) (by kernel_rfl)) (knows_new (V := isVal (.pointer (some ⟨g, 6, none⟩))) 78 59 (by kernel_rfl) (by kernel_rfl) (by kernel_rfl)) ((hc).2 6 _ rfl) (hc).1 (agg_in), ?_⟩
  refine ⟨isVal (.bool true), step_bin .eql 3 3 (.tmp 77) (.tmp 79) (.int .i64 C.queue) (.int .i64 C.queue) (.bool true) (by kernel_rfl) (wanted_some 56 75 true (by kernel_rfl) (by kernel_rfl) (by kernel_rfl) (by kernel_rfl)) (knows_new (V := isVal (.int .i64 C.queue)) 77 58 (by kernel_rfl) (by kernel_rfl) (by kernel_rfl)) (knows_new (V := isVal (.int .i64 C.queue)) 79 60 (by kernel_rfl) (by kernel_rfl) (by kernel_rfl)) (fun _ => rfl) (eql_t _ _ (by omega)), ?_⟩
  refine ⟨isVal (.bool true), step_pick (.tmp 75) (.tmp 80) (.const (.bool false)) true (by kernel_rfl) (wanted_none (by kernel_rfl)) (stable_val _) (knows_new (V := isVal (.bool true)) 75 56 (by kernel_rfl) (by kernel_rfl) (by kernel_rfl)) (knows_new (V := isVal (.bool true)) 80 61 (by kernel_rfl) (by kernel_rfl) (by kernel_rfl)), ?_⟩
  refine ⟨isVal (.bool true), step_move (.tmp 81) (by kernel_rfl) (wanted_none (by kernel_rfl)) (stable_val _) (knows_new (V := isVal (.bool true)) 81 62 (by kernel_rfl) (by kernel_rfl) (by kernel_rfl)), ?_⟩
  refine ⟨isVal (.pointer (some ⟨h, 5, none⟩)), step_at 29 3 (.tmp 4) 6 5 (h) (by kernel_rfl) (wanted_some 63 82 true (by kernel_rfl) (by kernel_rfl) (by kernel_rfl) (by kernel_rfl)) (knows_old 4 (.pointer (some ⟨h, 0, none⟩)) (by kernel_rfl) e4) Try.underlying29 (by kernel_rfl) (by kernel_rfl) (by omega), ?_⟩
  refine ⟨isVal (.int .i64 C.queue), step_read 3 (.tmp 83) ⟨h, 5, none⟩ (.int .i64 C.queue) (by kernel_rfl) (wanted_some 63 82 true (by kernel_rfl) (by kernel_rfl) (by kernel_rfl) (by kernel_rfl)) (knows_new (V := isVal (.pointer (some ⟨h, 5, none⟩))) 83 64 (by kernel_rfl) (by kernel_rfl) (by kernel_rfl)) ((hf).2 5 _ rfl) (hf).1 (agg_in), ?_⟩
  refine ⟨isVal (.bool true), step_bin .leq 3 3 (.tmp 84) (.const (.int .i64 8)) (.int .i64 C.queue) (.int .i64 8) (.bool true) (by kernel_rfl) (wanted_some 63 82 true (by kernel_rfl) (by kernel_rfl) (by kernel_rfl) (by kernel_rfl)) (knows_new (V := isVal (.int .i64 C.queue)) 84 65 (by kernel_rfl) (by kernel_rfl) (by kernel_rfl)) (knows_const _) (fun _ => rfl) (leq_t _ _ (by omega)), ?_⟩
  refine ⟨isVal (.bool true), step_pick (.tmp 82) (.tmp 85) (.const (.bool false)) true (by kernel_rfl) (wanted_none (by kernel_rfl)) (stable_val _) (knows_new (V := isVal (.bool true)) 82 63 (by kernel_rfl) (by kernel_rfl) (by kernel_rfl)) (knows_new (V := isVal (.bool true)) 85 66 (by kernel_rfl) (by kernel_rfl) (by kernel_rfl)), ?_⟩
  refine ⟨isVal (.bool true), step_assign (.tmp 86) (by kernel_rfl) (wanted_none (by kernel_rfl)) (stable_val _) (knows_new (V := isVal (.bool true)) 86 67 (by kernel_rfl) (by kernel_rfl) (by kernel_rfl)), ?_⟩
  intro a w hkp hb hd
  rw [kept_of hkp [some 19, some 20, some 21, some 22, some 23, some 24, some 25, some 26, some 27, some 28, some 29, some 30, some 31, some 32, some 33, some 34, some 35, some 36, some 37, some 38, some 39, some 40, some 41, some 42, some 43, some 44, some 45, some 46, some 47, some 48, some 49, some 50, some 51, some 52, some 53, some 54, some 55, some 56, some 57, some 58, some 59, some 60, some 61, some 62, some 63, some 64, some 65, some 66, some 67, some 68, some 69, some 70, some 71, some 72, some 73, some 74, some 75, some 76, some 77, some 78, some 79, some 80, some 81, some 82, some 83, some 84, some 85, some 86, some 2] [19, 20, 21, 22, 23, 24, 25, 26, 27, 28, 29, 30, 31, 32, 33, 34, 35, 36, 37, 38, 39, 40, 41, 42, 43, 44, 45, 46, 47, 48, 49, 50, 51, 52, 53, 54, 55, 56, 57, 58, 59, 60, 61, 62, 63, 64, 65, 66, 67, 68, 69, 70, 71, 72, 73, 74, 75, 76, 77, 78, 79, 80, 81, 82, 83, 84, 85, 86, 2] (by kernel_rfl) (by decide)]
  have d2 := fdone_of (hd 68 (by rw [show foOps.size = 69 by kernel_rfl]; decide)) (t := 2) (V := isVal (.bool true)) (by kernel_rfl) (by kernel_rfl)
  exact hQ (fun s => a.tmps.getD s undef) w d2 hb
set_option maxRecDepth 100000 in
set_option maxHeartbeats 2000000 in
theorem configFoot_walk (C : Cf) (v0 : Value) (w0 : CameC C) (w : World) (fl0 : isCf C v0 w) :
    Calls Try.prog 4 #[v0] w fun e w' => e = .returned (.bool true) ∧ Below w.heap.size w w' := by
  unfold isCf at fl0
  subst fl0
  obtain ⟨hB, HC⟩ := cbox w C w.heap.size rfl
  obtain ⟨hn, hn2⟩ : w.heap.size ≤ w.heap.size ∧ True := ⟨Nat.le_refl _, trivial⟩
  clear hn hn2
  go_enter Try.func4, Try.ntmps4
  go_wp2_with fail
  generalize w.alloc (.cells #[.int .i64 C.nodes, .int .i64 C.slots, .int .i64 C.pages, .int .i64 C.room, .int .i64 C.chunk, .int .i64 C.buffer, .int .i64 C.queue, .int .i64 C.wear] 23) = W0 at *
  refine (cfworks_any W0).mono ?_
  rintro e W1 ⟨rfl, hb⟩
  replace hB := Kept.mk (hB.out.trans (hb.mono hB.out.size))
  replace HC := Kept.mk (HC.out.keep hb)
  clear hb
  have kc0 := HC.out.cells.2 0 _ rfl
  have kc1 := HC.out.cells.2 1 _ rfl
  have kc2 := HC.out.cells.2 2 _ rfl
  have kc3 := HC.out.cells.2 3 _ rfl
  have kc4 := HC.out.cells.2 4 _ rfl
  have kc5 := HC.out.cells.2 5 _ rfl
  have kc6 := HC.out.cells.2 6 _ rfl
  have kc7 := HC.out.cells.2 7 _ rfl
  go_wp2_with fail
  clear kc0 kc1 kc2 kc3 kc4 kc5 kc6 kc7
  cases hok : okC C with
  | false =>
    have HOK := Kept.mk hok
    clear hok
    refine (gc_foot C _ W1 (footV_no HOK.out)).mono ?_
    rintro e W2 ⟨rfl, hb⟩
    replace hB := Kept.mk (hB.out.trans (hb.mono hB.out.size))
    replace HC := Kept.mk (HC.out.keep hb)
    clear hb
    have HF := Kept.mk (Hold.new W2 29 [.int .i64 0, .int .i64 0, .int .i64 0, .int .i64 0, .int .i64 0, .int .i64 0] W2.heap.size rfl)
    have hb : Below W2.heap.size W2 (W2.alloc (.cells #[.int .i64 0, .int .i64 0, .int .i64 0, .int .i64 0, .int .i64 0, .int .i64 0] 29)) := (Below.refl _ _).alloc (Nat.le_refl _) _
    have HC2 := Kept.mk (HC.out.alloc (.cells #[.int .i64 0, .int .i64 0, .int .i64 0, .int .i64 0, .int .i64 0, .int .i64 0] 29))
    have kc0 := HC2.out.cells.2 0 _ rfl
    have kc1 := HC2.out.cells.2 1 _ rfl
    have kc2 := HC2.out.cells.2 2 _ rfl
    have kc3 := HC2.out.cells.2 3 _ rfl
    have kc4 := HC2.out.cells.2 4 _ rfl
    have kc5 := HC2.out.cells.2 5 _ rfl
    have kc6 := HC2.out.cells.2 6 _ rfl
    have kc7 := HC2.out.cells.2 7 _ rfl
    go_wp2_with fail
    clear kc0 kc1 kc2 kc3 kc4 kc5 kc6 kc7
    clear HC2
    replace hB := Kept.mk (hB.out.trans (hb.mono hB.out.size))
    replace HC := Kept.mk (HC.out.keep hb)
    clear hb
    generalize W2.alloc (.cells #[.int .i64 0, .int .i64 0, .int .i64 0, .int .i64 0, .int .i64 0, .int .i64 0] 29) = W3 at *
    generalize W2.heap.size = h at *
    refine (gc_check C 1 W3 (chkC_no HOK.out)).mono ?_
    rintro e W4 ⟨rfl, hb⟩
    replace HF := Kept.mk (HF.out.keep hb)
    replace hB := Kept.mk (hB.out.trans (hb.mono hB.out.size))
    replace HC := Kept.mk (HC.out.keep hb)
    clear hb
    have kf0 := HF.out.cells.2 0 _ rfl
    have kf1 := HF.out.cells.2 1 _ rfl
    have kf2 := HF.out.cells.2 2 _ rfl
    have kf3 := HF.out.cells.2 3 _ rfl
    have kf4 := HF.out.cells.2 4 _ rfl
    have kf5 := HF.out.cells.2 5 _ rfl
    have hbz := fun ws : World => run_build (P := Try.prog) ws 29 #[] _ built_z6
    have he2 := fun ws : World => eql6_same 0 0 0 0 0 0 ws
    go_wp2
    go_ret
    exact ⟨rfl, hB.out⟩
  | true =>
    have HOK := Kept.mk hok
    clear hok
    refine (gc_foot C _ W1 (footV_yes HOK.out)).mono ?_
    rintro e W2 ⟨rfl, hb⟩
    replace hB := Kept.mk (hB.out.trans (hb.mono hB.out.size))
    replace HC := Kept.mk (HC.out.keep hb)
    clear hb
    have HF := Kept.mk (Hold.new W2 29 [.int .i64 C.pages, .int .i64 (sizeC C), .int .i64 C.slots, .int .i64 (2 * C.buffer), .int .i64 (2 * C.nodes), .int .i64 C.queue] W2.heap.size rfl)
    have hb : Below W2.heap.size W2 (W2.alloc (.cells #[.int .i64 C.pages, .int .i64 (sizeC C), .int .i64 C.slots, .int .i64 (2 * C.buffer), .int .i64 (2 * C.nodes), .int .i64 C.queue] 29)) := (Below.refl _ _).alloc (Nat.le_refl _) _
    have HC2 := Kept.mk (HC.out.alloc (.cells #[.int .i64 C.pages, .int .i64 (sizeC C), .int .i64 C.slots, .int .i64 (2 * C.buffer), .int .i64 (2 * C.nodes), .int .i64 C.queue] 29))
    have kc0 := HC2.out.cells.2 0 _ rfl
    have kc1 := HC2.out.cells.2 1 _ rfl
    have kc2 := HC2.out.cells.2 2 _ rfl
    have kc3 := HC2.out.cells.2 3 _ rfl
    have kc4 := HC2.out.cells.2 4 _ rfl
    have kc5 := HC2.out.cells.2 5 _ rfl
    have kc6 := HC2.out.cells.2 6 _ rfl
    have kc7 := HC2.out.cells.2 7 _ rfl
    go_wp2_with fail
    clear kc0 kc1 kc2 kc3 kc4 kc5 kc6 kc7
    clear HC2
    replace hB := Kept.mk (hB.out.trans (hb.mono hB.out.size))
    replace HC := Kept.mk (HC.out.keep hb)
    clear hb
    generalize W2.alloc (.cells #[.int .i64 C.pages, .int .i64 (sizeC C), .int .i64 C.slots, .int .i64 (2 * C.buffer), .int .i64 (2 * C.nodes), .int .i64 C.queue] 29) = W3 at *
    generalize W2.heap.size = h at *
    refine (gc_check C 0 W3 (chkC_yes HOK.out)).mono ?_
    rintro e W4 ⟨rfl, hb⟩
    replace HF := Kept.mk (HF.out.keep hb)
    replace hB := Kept.mk (hB.out.trans (hb.mono hB.out.size))
    replace HC := Kept.mk (HC.out.keep hb)
    clear hb
    go_wp2_with fail
    refine fo_region _ _ _ rfl w.heap.size C HC.out.cells rfl h HF.out.cells HOK.out rfl rfl ?_
    intro f9 W9 d2 hb9
    simp only [List.foldl_cons, List.foldl_nil, d2]
    generalize f9 19 = y19
    generalize f9 20 = y20
    generalize f9 21 = y21
    generalize f9 22 = y22
    generalize f9 23 = y23
    generalize f9 24 = y24
    generalize f9 25 = y25
    generalize f9 26 = y26
    generalize f9 27 = y27
    generalize f9 28 = y28
    generalize f9 29 = y29
    generalize f9 30 = y30
    generalize f9 31 = y31
    generalize f9 32 = y32
    generalize f9 33 = y33
    generalize f9 34 = y34
    generalize f9 35 = y35
    generalize f9 36 = y36
    generalize f9 37 = y37
    generalize f9 38 = y38
    generalize f9 39 = y39
    generalize f9 40 = y40
    generalize f9 41 = y41
    generalize f9 42 = y42
    generalize f9 43 = y43
    generalize f9 44 = y44
    generalize f9 45 = y45
    generalize f9 46 = y46
    generalize f9 47 = y47
    generalize f9 48 = y48
    generalize f9 49 = y49
    generalize f9 50 = y50
    generalize f9 51 = y51
    generalize f9 52 = y52
    generalize f9 53 = y53
    generalize f9 54 = y54
    generalize f9 55 = y55
    generalize f9 56 = y56
    generalize f9 57 = y57
    generalize f9 58 = y58
    generalize f9 59 = y59
    generalize f9 60 = y60
    generalize f9 61 = y61
    generalize f9 62 = y62
    generalize f9 63 = y63
    generalize f9 64 = y64
    generalize f9 65 = y65
    generalize f9 66 = y66
    generalize f9 67 = y67
    generalize f9 68 = y68
    generalize f9 69 = y69
    generalize f9 70 = y70
    generalize f9 71 = y71
    generalize f9 72 = y72
    generalize f9 73 = y73
    generalize f9 74 = y74
    generalize f9 75 = y75
    generalize f9 76 = y76
    generalize f9 77 = y77
    generalize f9 78 = y78
    generalize f9 79 = y79
    generalize f9 80 = y80
    generalize f9 81 = y81
    generalize f9 82 = y82
    generalize f9 83 = y83
    generalize f9 84 = y84
    generalize f9 85 = y85
    generalize f9 86 = y86
    clear d2
    simp only [List.setIfInBounds_toArray, List.set_cons_succ, List.set_cons_zero]
    replace hB := Kept.mk (hB.out.trans (hb9.mono hB.out.size))
    replace HC := Kept.mk (HC.out.keep hb9)
    clear hb9
    go_wp2
    go_ret
    exact ⟨rfl, hB.out⟩
set_option maxRecDepth 100000 in
theorem configFoot_lifted (os : Os) (started : os.Started) (H : Type) (enc : TypeId × Value → H) :
    ReturnsInHanded {} Try.checked os 4 .any (Rows.configFootSpec.pre6 enc Try.prog Try.f4 Rows.configFootRow.domain false) (Rows.configFootSpec.post enc Try.prog Try.f4 false true false false) := by
  refine returnsInHanded_of_change (C := Try.checked) (by kernel_rfl : ownKnob Try.prog.godebug = none) started (by kernel_rfl) Try.func4
    (ChangeSpec.witness6 (enc := enc) (C := Try.checked) false ⟨#[], #[.agg #[.int .i64 0, .int .i64 0, .int .i64 0, .int .i64 0, .int .i64 0, .int .i64 0, .int .i64 0, .int .i64 0]], []⟩ 8 (by kernel_rfl) (by kernel_rfl) (by kernel_rfl) (by kernel_rfl)) ?_
  intro W base args ds gs before hval0 hW hcnd _
  have hval : ∀ (j : Nat) t v, Try.f4.params[j]? = some t → args[j]? = some v → Value.okWide Try.prog W .any base t v := hval0
  have hW' := hW
  obtain ⟨p, q, hA0, hV, rfl, hfz, hnd⟩ := hW
  have hA : DataW.TrodAll enc Try.prog W 0 (fun _ => true) true Try.f4.params.toList args.toList ds p := hA0
  rw [Try.params4] at hA hval
  obtain ⟨v0, vs0, d0, ds0, p0, q0, hargs, rfl, rfl, h0, r0⟩ := trodAll_cons hA
  obtain ⟨rfl, rfl, rfl⟩ := trodAll_nil r0
  obtain rfl : args = #[v0] := by cases args; simp_all
  obtain ⟨rfl, rfl⟩ := trodVars_none hV
  obtain ⟨F0, fl0, w0⟩ := open_cf (hval 0 23 v0 rfl rfl) h0
  have lt0 : ∀ x ∈ p0, x.block < W.heap.size := fun x hx => by obtain ⟨fuel, hf⟩ := h0; exact DataW.trod_lt fuel _ _ _ hf x hx
  clear hA0 hval0
  simp only [List.append_nil] at hW'
  refine (configFoot_walk F0 v0 w0 W fl0).mono fun e W' ⟨he, bel⟩ => ?_
  subst he
  exact ⟨_, rfl, _, _, _, [], _, [], hW', trodAll_mk1 (shut_bool Try.underlying4 _), (trodAll_cons_mk (Below.trod (by kernel_rfl) (by kernel_rfl) (of_decide_eq_true (by kernel_rfl)) h0 bel lt0) trodAll_mk0), rfl, bel.frame _, fun h => by cases h⟩
/-- THE STATEMENT. -/
theorem configFoot_proved : Rows.ConfigFootSaid :=
  OpenClaim.holds_of_wide 4 Try.f4 rfl rfl rfl rfl rfl rfl rfl ⟨rfl, rfl, rfl, rfl, rfl⟩ rfl rfl rfl rfl rfl (by kernel_rfl) Try.func4 (by kernel_rfl)
    (of_decide_eq_true (by kernel_rfl)) (by unfold Func.isWrapper; first | (rw [if_pos (by decide +kernel)]; kernel_rfl) | (rw [if_neg (by decide +kernel)]; exact ⟨rfl, rfl⟩))
    (fun os started H enc _ => configFoot_lifted os started H enc)
#print axioms configFoot_proved
end Go.Proofs.Ytpjafjnokgeifab
