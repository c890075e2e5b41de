/- Whether any config may be, and all that is told of it, are just what the document says (config.Check, Size, Chunks, Rounds, Work, Footprint). No condition. -/
import Derived.Test.YtpjafjnokgeifaaPartB
import Derived.SizedLaws
import Derived.ProofKit
import Derived.OpenShut
import Derived.ShutString
import Derived.ChangeOld
import Derived.Below
namespace Go.Proofs.Ytpjafjnokgeifaa
open Go.RowKit
open Go.ChangeShapes Go.WideShapes Go.ChangeAt Go.RowKit
open Go.ChangeMaps (open_string shut_string)
set_option linter.unusedVariables false
set_option linter.unusedSimpArgs false
attribute [local irreducible] setN

noncomputable def tlyOps : Array Oper := regionOf Try.f4 10
set_option maxRecDepth 100000 in
set_option maxHeartbeats 2000000 in
theorem tly_region (Q : Exit → Act → World → Prop) (a0 : Act) (w0 : World) (hsz : a0.tmps.size = 63) (g : Nat) (C : Cf) (hc : CellsN w0 g [.int .i64 C.nodes, .int .i64 C.slots, .int .i64 C.pages, .int .i64 C.room, .int .i64 C.chunk, .int .i64 C.buffer, .int .i64 C.queue, .int .i64 C.wear]) (e1 : a0.tmps.getD 1 undef = .pointer (some ⟨g, 0, none⟩)) (h : Nat) (f0 f1 f2 f3 f4 f5 : Int) (hf : CellsN w0 h [.int .i64 f0, .int .i64 f1, .int .i64 f2, .int .i64 f3, .int .i64 f4, .int .i64 f5]) (hok : okC C = true) (hfv : footV C = (.agg #[.int .i64 f0, .int .i64 f1, .int .i64 f2, .int .i64 f3, .int .i64 f4, .int .i64 f5])) (e3 : a0.tmps.getD 3 undef = .bool true) (e4 : a0.tmps.getD 4 undef = .bool true) (e5 : a0.tmps.getD 5 undef = .int .i64 (sizeC C)) (e6 : a0.tmps.getD 6 undef = .int .i64 (chunksC C)) (e7 : a0.tmps.getD 7 undef = .int .i64 (roundsC C)) (e8 : a0.tmps.getD 8 undef = .int .i64 (workC C)) (e9 : a0.tmps.getD 9 undef = .pointer (some ⟨h, 0, none⟩))
    (hQ : ∀ (g : Nat → Value) (w : World), g 2 = .bool true → Below w0.heap.size w0 w → Q .normal { tmps := [25, 26, 27, 28, 29, 30, 31, 32, 33, 34, 35, 36, 37, 38, 39, 40, 41, 42, 43, 44, 45, 46, 47, 48, 49, 50, 51, 52, 53, 54, 55, 56, 57, 58, 59, 60, 61, 62, 2].foldl (fun t s => t.setIfInBounds s (g s)) a0.tmps, defers := a0.defers } w) :
    (Code.region 10 tlyOps true).wp Try.prog Q a0 w0 := by
  refine wp_region_flow mixed (by rw [hsz]; kernel_rfl) ?_
  rw [show tlyOps.size = 39 by kernel_rfl]
  refine ⟨isVal (.bool true), step_move (.tmp 3) (by kernel_rfl) (wanted_none (by kernel_rfl)) (stable_val _) (knows_old 3 (.bool true) (by kernel_rfl) e3), ?_⟩
  refine ⟨isVal (.bool true), step_move (.tmp 25) (by kernel_rfl) (wanted_none (by kernel_rfl)) (stable_val _) (knows_new (V := isVal (.bool true)) 25 0 (by kernel_rfl) (by kernel_rfl) (by kernel_rfl)), ?_⟩
  refine ⟨isVal (.agg #[.int .i64 C.nodes, .int .i64 C.slots, .int .i64 C.pages, .int .i64 C.room, .int .i64 C.chunk, .int .i64 C.buffer, .int .i64 C.queue, .int .i64 C.wear]), step_loadN 38 (.tmp 1) (g) [.int .i64 C.nodes, .int .i64 C.slots, .int .i64 C.pages, .int .i64 C.room, .int .i64 C.chunk, .int .i64 C.buffer, .int .i64 C.queue, .int .i64 C.wear] (by kernel_rfl) (wanted_some 1 26 true (by kernel_rfl) (by kernel_rfl) (by kernel_rfl) (by kernel_rfl)) (knows_old 1 (.pointer (some ⟨g, 0, none⟩)) (by kernel_rfl) e1) size_cf agg_cf (hc), ?_⟩
  refine ⟨isVal (.int .i64 0), step_call 29 #[.tmp 27] #[38] #[.agg #[.int .i64 C.nodes, .int .i64 C.slots, .int .i64 C.pages, .int .i64 C.room, .int .i64 C.chunk, .int .i64 C.buffer, .int .i64 C.queue, .int .i64 C.wear]] (by kernel_rfl) (wanted_some 1 26 true (by kernel_rfl) (by kernel_rfl) (by kernel_rfl) (by kernel_rfl)) (stable_val _) (args1 (.tmp 27) (.agg #[.int .i64 C.nodes, .int .i64 C.slots, .int .i64 C.pages, .int .i64 C.room, .int .i64 C.chunk, .int .i64 C.buffer, .int .i64 C.queue, .int .i64 C.wear]) (knows_new (V := isVal (.agg #[.int .i64 C.nodes, .int .i64 C.slots, .int .i64 C.pages, .int .i64 C.room, .int .i64 C.chunk, .int .i64 C.buffer, .int .i64 C.queue, .int .i64 C.wear])) 27 2 (by kernel_rfl) (by kernel_rfl) (by kernel_rfl))) (enters_of Try.func29 (by kernel_rfl) rfl) (by intro w' hb; exact cv1 (gc_check C 0 w' (chkC_yes hok))), ?_⟩
  refine ⟨isVal (.bool true), step_bin .eql 28 28 (.tmp 28) (.const (.int .i64 0)) (.int .i64 0) (.int .i64 0) (.bool true) (by kernel_rfl) (wanted_some 1 26 true (by kernel_rfl) (by kernel_rfl) (by kernel_rfl) (by kernel_rfl)) (knows_new (V := isVal (.int .i64 0)) 28 3 (by kernel_rfl) (by kernel_rfl) (by kernel_rfl)) (knows_const _) (fun _ => rfl) (eql_t _ _ (by omega)), ?_⟩
  refine ⟨isVal (.bool true), step_move (.tmp 4) (by kernel_rfl) (wanted_some 1 26 true (by kernel_rfl) (by kernel_rfl) (by kernel_rfl) (by kernel_rfl)) (stable_val _) (knows_old 4 (.bool true) (by kernel_rfl) e4), ?_⟩
  refine ⟨isVal (.bool true), step_bin .eql 4 4 (.tmp 29) (.tmp 30) (.bool true) (.bool true) (.bool true) (by kernel_rfl) (wanted_some 1 26 true (by kernel_rfl) (by kernel_rfl) (by kernel_rfl) (by kernel_rfl)) (knows_new (V := isVal (.bool true)) 29 4 (by kernel_rfl) (by kernel_rfl) (by kernel_rfl)) (knows_new (V := isVal (.bool true)) 30 5 (by kernel_rfl) (by kernel_rfl) (by kernel_rfl)) (fun _ => rfl) (by intro w; rfl), ?_⟩
  refine ⟨isVal (.bool true), step_pick (.tmp 26) (.tmp 31) (.const (.bool false)) true (by kernel_rfl) (wanted_none (by kernel_rfl)) (stable_val _) (knows_new (V := isVal (.bool true)) 26 1 (by kernel_rfl) (by kernel_rfl) (by kernel_rfl)) (knows_new (V := isVal (.bool true)) 31 6 (by kernel_rfl) (by kernel_rfl) (by kernel_rfl)), ?_⟩
  refine ⟨isVal (.bool true), step_move (.tmp 32) (by kernel_rfl) (wanted_none (by kernel_rfl)) (stable_val _) (knows_new (V := isVal (.bool true)) 32 7 (by kernel_rfl) (by kernel_rfl) (by kernel_rfl)), ?_⟩
  refine ⟨isVal (.agg #[.int .i64 C.nodes, .int .i64 C.slots, .int .i64 C.pages, .int .i64 C.room, .int .i64 C.chunk, .int .i64 C.buffer, .int .i64 C.queue, .int .i64 C.wear]), step_loadN 38 (.tmp 1) (g) [.int .i64 C.nodes, .int .i64 C.slots, .int .i64 C.pages, .int .i64 C.room, .int .i64 C.chunk, .int .i64 C.buffer, .int .i64 C.queue, .int .i64 C.wear] (by kernel_rfl) (wanted_some 8 33 true (by kernel_rfl) (by kernel_rfl) (by kernel_rfl) (by kernel_rfl)) (knows_old 1 (.pointer (some ⟨g, 0, none⟩)) (by kernel_rfl) e1) size_cf agg_cf (hc), ?_⟩
  refine ⟨isVal (.int .i64 (sizeC C)), step_call 30 #[.tmp 34] #[38] #[.agg #[.int .i64 C.nodes, .int .i64 C.slots, .int .i64 C.pages, .int .i64 C.room, .int .i64 C.chunk, .int .i64 C.buffer, .int .i64 C.queue, .int .i64 C.wear]] (by kernel_rfl) (wanted_some 8 33 true (by kernel_rfl) (by kernel_rfl) (by kernel_rfl) (by kernel_rfl)) (stable_val _) (args1 (.tmp 34) (.agg #[.int .i64 C.nodes, .int .i64 C.slots, .int .i64 C.pages, .int .i64 C.room, .int .i64 C.chunk, .int .i64 C.buffer, .int .i64 C.queue, .int .i64 C.wear]) (knows_new (V := isVal (.agg #[.int .i64 C.nodes, .int .i64 C.slots, .int .i64 C.pages, .int .i64 C.room, .int .i64 C.chunk, .int .i64 C.buffer, .int .i64 C.queue, .int .i64 C.wear])) 34 9 (by kernel_rfl) (by kernel_rfl) (by kernel_rfl))) (enters_of Try.func30 (by kernel_rfl) rfl) (by intro w' hb; exact cv1 (csize_any C w')), ?_⟩
  refine ⟨isVal (.int .i64 (sizeC C)), step_move (.tmp 5) (by kernel_rfl) (wanted_some 8 33 true (by kernel_rfl) (by kernel_rfl) (by kernel_rfl) (by kernel_rfl)) (stable_val _) (knows_old 5 (.int .i64 (sizeC C)) (by kernel_rfl) e5), ?_⟩
  refine ⟨isVal (.bool true), step_bin .eql 3 3 (.tmp 35) (.tmp 36) (.int .i64 (sizeC C)) (.int .i64 (sizeC C)) (.bool true) (by kernel_rfl) (wanted_some 8 33 true (by kernel_rfl) (by kernel_rfl) (by kernel_rfl) (by kernel_rfl)) (knows_new (V := isVal (.int .i64 (sizeC C))) 35 10 (by kernel_rfl) (by kernel_rfl) (by kernel_rfl)) (knows_new (V := isVal (.int .i64 (sizeC C))) 36 11 (by kernel_rfl) (by kernel_rfl) (by kernel_rfl)) (fun _ => rfl) (eql_t _ _ (by omega)), ?_⟩
  refine ⟨isVal (.bool true), step_pick (.tmp 33) (.tmp 37) (.const (.bool false)) true (by kernel_rfl) (wanted_none (by kernel_rfl)) (stable_val _) (knows_new (V := isVal (.bool true)) 33 8 (by kernel_rfl) (by kernel_rfl) (by kernel_rfl)) (knows_new (V := isVal (.bool true)) 37 12 (by kernel_rfl) (by kernel_rfl) (by kernel_rfl)), ?_⟩
  refine ⟨isVal (.bool true), step_move (.tmp 38) (by kernel_rfl) (wanted_none (by kernel_rfl)) (stable_val _) (knows_new (V := isVal (.bool true)) 38 13 (by kernel_rfl) (by kernel_rfl) (by kernel_rfl)), ?_⟩
  refine ⟨isVal (.agg #[.int .i64 C.nodes, .int .i64 C.slots, .int .i64 C.pages, .int .i64 C.room, .int .i64 C.chunk, .int .i64 C.buffer, .int .i64 C.queue, .int .i64 C.wear]), step_loadN 38 (.tmp 1) (g) [.int .i64 C.nodes, .int .i64 C.slots, .int .i64 C.pages, .int .i64 C.room, .int .i64 C.chunk, .int .i64 C.buffer, .int .i64 C.queue, .int .i64 C.wear] (by kernel_rfl) (wanted_some 14 39 true (by kernel_rfl) (by kernel_rfl) (by kernel_rfl) (by kernel_rfl)) (knows_old 1 (.pointer (some ⟨g, 0, none⟩)) (by kernel_rfl) e1) size_cf agg_cf (hc), ?_⟩
  refine ⟨isVal (.int .i64 (chunksC C)), step_call 31 #[.tmp 40] #[38] #[.agg #[.int .i64 C.nodes, .int .i64 C.slots, .int .i64 C.pages, .int .i64 C.room, .int .i64 C.chunk, .int .i64 C.buffer, .int .i64 C.queue, .int .i64 C.wear]] (by kernel_rfl) (wanted_some 14 39 true (by kernel_rfl) (by kernel_rfl) (by kernel_rfl) (by kernel_rfl)) (stable_val _) (args1 (.tmp 40) (.agg #[.int .i64 C.nodes, .int .i64 C.slots, .int .i64 C.pages, .int .i64 C.room, .int .i64 C.chunk, .int .i64 C.buffer, .int .i64 C.queue, .int .i64 C.wear]) (knows_new (V := isVal (.agg #[.int .i64 C.nodes, .int .i64 C.slots, .int .i64 C.pages, .int .i64 C.room, .int .i64 C.chunk, .int .i64 C.buffer, .int .i64 C.queue, .int .i64 C.wear])) 40 15 (by kernel_rfl) (by kernel_rfl) (by kernel_rfl))) (enters_of Try.func31 (by kernel_rfl) rfl) (by intro w' hb; exact cv1 (cchunks_any C w')), ?_⟩
  refine ⟨isVal (.int .i64 (chunksC C)), step_move (.tmp 6) (by kernel_rfl) (wanted_some 14 39 true (by kernel_rfl) (by kernel_rfl) (by kernel_rfl) (by kernel_rfl)) (stable_val _) (knows_old 6 (.int .i64 (chunksC C)) (by kernel_rfl) e6), ?_⟩
  refine ⟨isVal (.bool true), step_bin .eql 3 3 (.tmp 41) (.tmp 42) (.int .i64 (chunksC C)) (.int .i64 (chunksC C)) (.bool true) (by kernel_rfl) (wanted_some 14 39 true (by kernel_rfl) (by kernel_rfl) (by kernel_rfl) (by kernel_rfl)) (knows_new (V := isVal (.int .i64 (chunksC C))) 41 16 (by kernel_rfl) (by kernel_rfl) (by kernel_rfl)) (knows_new (V := isVal (.int .i64 (chunksC C))) 42 17 (by kernel_rfl) (by kernel_rfl) (by kernel_rfl)) (fun _ => rfl) (eql_t _ _ (by omega)), ?_⟩
  refine ⟨isVal (.bool true), step_pick (.tmp 39) (.tmp 43) (.const (.bool false)) true (by kernel_rfl) (wanted_none (by kernel_rfl)) (stable_val _) (knows_new (V := isVal (.bool true)) 39 14 (by kernel_rfl) (by kernel_rfl) (by kernel_rfl)) (knows_new (V := isVal (.bool true)) 43 18 (by kernel_rfl) (by kernel_rfl) (by kernel_rfl)), ?_⟩
  refine ⟨isVal (.bool true), step_move (.tmp 44) (by kernel_rfl) (wanted_none (by kernel_rfl)) (stable_val _) (knows_new (V := isVal (.bool true)) 44 19 (by kernel_rfl) (by kernel_rfl) (by kernel_rfl)), ?_⟩
  refine ⟨isVal (.agg #[.int .i64 C.nodes, .int .i64 C.slots, .int .i64 C.pages, .int .i64 C.room, .int .i64 C.chunk, .int .i64 C.buffer, .int .i64 C.queue, .int .i64 C.wear]), step_loadN 38 (.tmp 1) (g) [.int .i64 C.nodes, .int .i64 C.slots, .int .i64 C.pages, .int .i64 C.room, .int .i64 C.chunk, .int .i64 C.buffer, .int .i64 C.queue, .int .i64 C.wear] (by kernel_rfl) (wanted_some 20 45 true (by kernel_rfl) (by kernel_rfl) (by kernel_rfl) (by kernel_rfl)) (knows_old 1 (.pointer (some ⟨g, 0, none⟩)) (by kernel_rfl) e1) size_cf agg_cf (hc), ?_⟩
  refine ⟨isVal (.int .i64 (roundsC C)), step_call 32 #[.tmp 46] #[38] #[.agg #[.int .i64 C.nodes, .int .i64 C.slots, .int .i64 C.pages, .int .i64 C.room, .int .i64 C.chunk, .int .i64 C.buffer, .int .i64 C.queue, .int .i64 C.wear]] (by kernel_rfl) (wanted_some 20 45 true (by kernel_rfl) (by kernel_rfl) (by kernel_rfl) (by kernel_rfl)) (stable_val _) (args1 (.tmp 46) (.agg #[.int .i64 C.nodes, .int .i64 C.slots, .int .i64 C.pages, .int .i64 C.room, .int .i64 C.chunk, .int .i64 C.buffer, .int .i64 C.queue, .int .i64 C.wear]) (knows_new (V := isVal (.agg #[.int .i64 C.nodes, .int .i64 C.slots, .int .i64 C.pages, .int .i64 C.room, .int .i64 C.chunk, .int .i64 C.buffer, .int .i64 C.queue, .int .i64 C.wear])) 46 21 (by kernel_rfl) (by kernel_rfl) (by kernel_rfl))) (enters_of Try.func32 (by kernel_rfl) rfl) (by intro w' hb; exact cv1 (crounds_any C w')), ?_⟩
  refine ⟨isVal (.int .i64 (roundsC C)), step_move (.tmp 7) (by kernel_rfl) (wanted_some 20 45 true (by kernel_rfl) (by kernel_rfl) (by kernel_rfl) (by kernel_rfl)) (stable_val _) (knows_old 7 (.int .i64 (roundsC C)) (by kernel_rfl) e7), ?_⟩
  refine ⟨isVal (.bool true), step_bin .eql 3 3 (.tmp 47) (.tmp 48) (.int .i64 (roundsC C)) (.int .i64 (roundsC C)) (.bool true) (by kernel_rfl) (wanted_some 20 45 true (by kernel_rfl) (by kernel_rfl) (by kernel_rfl) (by kernel_rfl)) (knows_new (V := isVal (.int .i64 (roundsC C))) 47 22 (by kernel_rfl) (by kernel_rfl) (by kernel_rfl)) (knows_new (V := isVal (.int .i64 (roundsC C))) 48 23 (by kernel_rfl) (by kernel_rfl) (by kernel_rfl)) (fun _ => rfl) (eql_t _ _ (by omega)), ?_⟩
  refine ⟨isVal (.bool true), step_pick (.tmp 45) (.tmp 49) (.const (.bool false)) true (by kernel_rfl) (wanted_none (by kernel_rfl)) (stable_val _) (knows_new (V := isVal (.bool true)) 45 20 (by kernel_rfl) (by kernel_rfl) (by kernel_rfl)) (knows_new (V := isVal (.bool true)) 49 24 (by kernel_rfl) (by kernel_rfl) (by kernel_rfl)), ?_⟩
  refine ⟨isVal (.bool true), step_move (.tmp 50) (by kernel_rfl) (wanted_none (by kernel_rfl)) (stable_val _) (knows_new (V := isVal (.bool true)) 50 25 (by kernel_rfl) (by kernel_rfl) (by kernel_rfl)), ?_⟩
  refine ⟨isVal (.agg #[.int .i64 C.nodes, .int .i64 C.slots, .int .i64 C.pages, .int .i64 C.room, .int .i64 C.chunk, .int .i64 C.buffer, .int .i64 C.queue, .int .i64 C.wear]), step_loadN 38 (.tmp 1) (g) [.int .i64 C.nodes, .int .i64 C.slots, .int .i64 C.pages, .int .i64 C.room, .int .i64 C.chunk, .int .i64 C.buffer, .int .i64 C.queue, .int .i64 C.wear] (by kernel_rfl) (wanted_some 26 51 true (by kernel_rfl) (by kernel_rfl) (by kernel_rfl) (by kernel_rfl)) (knows_old 1 (.pointer (some ⟨g, 0, none⟩)) (by kernel_rfl) e1) size_cf agg_cf (hc), ?_⟩
  refine ⟨isVal (.int .i64 (workC C)), step_call 33 #[.tmp 52] #[38] #[.agg #[.int .i64 C.nodes, .int .i64 C.slots, .int .i64 C.pages, .int .i64 C.room, .int .i64 C.chunk, .int .i64 C.buffer, .int .i64 C.queue, .int .i64 C.wear]] (by kernel_rfl) (wanted_some 26 51 true (by kernel_rfl) (by kernel_rfl) (by kernel_rfl) (by kernel_rfl)) (stable_val _) (args1 (.tmp 52) (.agg #[.int .i64 C.nodes, .int .i64 C.slots, .int .i64 C.pages, .int .i64 C.room, .int .i64 C.chunk, .int .i64 C.buffer, .int .i64 C.queue, .int .i64 C.wear]) (knows_new (V := isVal (.agg #[.int .i64 C.nodes, .int .i64 C.slots, .int .i64 C.pages, .int .i64 C.room, .int .i64 C.chunk, .int .i64 C.buffer, .int .i64 C.queue, .int .i64 C.wear])) 52 27 (by kernel_rfl) (by kernel_rfl) (by kernel_rfl))) (enters_of Try.func33 (by kernel_rfl) rfl) (by intro w' hb; exact cv1 (cwork_any C w')), ?_⟩
  refine ⟨isVal (.int .i64 (workC C)), step_move (.tmp 8) (by kernel_rfl) (wanted_some 26 51 true (by kernel_rfl) (by kernel_rfl) (by kernel_rfl) (by kernel_rfl)) (stable_val _) (knows_old 8 (.int .i64 (workC C)) (by kernel_rfl) e8), ?_⟩
  refine ⟨isVal (.bool true), step_bin .eql 3 3 (.tmp 53) (.tmp 54) (.int .i64 (workC C)) (.int .i64 (workC C)) (.bool true) (by kernel_rfl) (wanted_some 26 51 true (by kernel_rfl) (by kernel_rfl) (by kernel_rfl) (by kernel_rfl)) (knows_new (V := isVal (.int .i64 (workC C))) 53 28 (by kernel_rfl) (by kernel_rfl) (by kernel_rfl)) (knows_new (V := isVal (.int .i64 (workC C))) 54 29 (by kernel_rfl) (by kernel_rfl) (by kernel_rfl)) (fun _ => rfl) (eql_t _ _ (by omega)), ?_⟩
  refine ⟨isVal (.bool true), step_pick (.tmp 51) (.tmp 55) (.const (.bool false)) true (by kernel_rfl) (wanted_none (by kernel_rfl)) (stable_val _) (knows_new (V := isVal (.bool true)) 51 26 (by kernel_rfl) (by kernel_rfl) (by kernel_rfl)) (knows_new (V := isVal (.bool true)) 55 30 (by kernel_rfl) (by kernel_rfl) (by kernel_rfl)), ?_⟩
  refine ⟨isVal (.bool true), step_move (.tmp 56) (by kernel_rfl) (wanted_none (by kernel_rfl)) (stable_val _) (knows_new (V := isVal (.bool true)) 56 31 (by kernel_rfl) (by kernel_rfl) (by kernel_rfl)), ?_⟩
  refine ⟨isVal (.agg #[.int .i64 C.nodes, .int .i64 C.slots, .int .i64 C.pages, .int .i64 C.room, .int .i64 C.chunk, .int .i64 C.buffer, .int .i64 C.queue, .int .i64 C.wear]), step_loadN 38 (.tmp 1) (g) [.int .i64 C.nodes, .int .i64 C.slots, .int .i64 C.pages, .int .i64 C.room, .int .i64 C.chunk, .int .i64 C.buffer, .int .i64 C.queue, .int .i64 C.wear] (by kernel_rfl) (wanted_some 32 57 true (by kernel_rfl) (by kernel_rfl) (by kernel_rfl) (by kernel_rfl)) (knows_old 1 (.pointer (some ⟨g, 0, none⟩)) (by kernel_rfl) e1) size_cf agg_cf (hc), ?_⟩
  refine ⟨isVal (.agg #[.int .i64 f0, .int .i64 f1, .int .i64 f2, .int .i64 f3, .int .i64 f4, .int .i64 f5]), step_call 34 #[.tmp 58] #[38] #[.agg #[.int .i64 C.nodes, .int .i64 C.slots, .int .i64 C.pages, .int .i64 C.room, .int .i64 C.chunk, .int .i64 C.buffer, .int .i64 C.queue, .int .i64 C.wear]] (by kernel_rfl) (wanted_some 32 57 true (by kernel_rfl) (by kernel_rfl) (by kernel_rfl) (by kernel_rfl)) (stable_val _) (args1 (.tmp 58) (.agg #[.int .i64 C.nodes, .int .i64 C.slots, .int .i64 C.pages, .int .i64 C.room, .int .i64 C.chunk, .int .i64 C.buffer, .int .i64 C.queue, .int .i64 C.wear]) (knows_new (V := isVal (.agg #[.int .i64 C.nodes, .int .i64 C.slots, .int .i64 C.pages, .int .i64 C.room, .int .i64 C.chunk, .int .i64 C.buffer, .int .i64 C.queue, .int .i64 C.wear])) 58 33 (by kernel_rfl) (by kernel_rfl) (by kernel_rfl))) (enters_of Try.func34 (by kernel_rfl) rfl) (by intro w' hb; exact cv1 (gc_foot C _ w' hfv)), ?_⟩
  refine ⟨isVal (.agg #[.int .i64 f0, .int .i64 f1, .int .i64 f2, .int .i64 f3, .int .i64 f4, .int .i64 f5]), step_loadN 41 (.tmp 9) (h) [.int .i64 f0, .int .i64 f1, .int .i64 f2, .int .i64 f3, .int .i64 f4, .int .i64 f5] (by kernel_rfl) (wanted_some 32 57 true (by kernel_rfl) (by kernel_rfl) (by kernel_rfl) (by kernel_rfl)) (knows_old 9 (.pointer (some ⟨h, 0, none⟩)) (by kernel_rfl) e9) size_i6 agg_i6 (hf), ?_⟩
  refine ⟨isVal (.bool true), step_bin .eql 41 41 (.tmp 59) (.tmp 60) (.agg #[.int .i64 f0, .int .i64 f1, .int .i64 f2, .int .i64 f3, .int .i64 f4, .int .i64 f5]) (.agg #[.int .i64 f0, .int .i64 f1, .int .i64 f2, .int .i64 f3, .int .i64 f4, .int .i64 f5]) (.bool true) (by kernel_rfl) (wanted_some 32 57 true (by kernel_rfl) (by kernel_rfl) (by kernel_rfl) (by kernel_rfl)) (knows_new (V := isVal (.agg #[.int .i64 f0, .int .i64 f1, .int .i64 f2, .int .i64 f3, .int .i64 f4, .int .i64 f5])) 59 34 (by kernel_rfl) (by kernel_rfl) (by kernel_rfl)) (knows_new (V := isVal (.agg #[.int .i64 f0, .int .i64 f1, .int .i64 f2, .int .i64 f3, .int .i64 f4, .int .i64 f5])) 60 35 (by kernel_rfl) (by kernel_rfl) (by kernel_rfl)) (fun _ => rfl) (eql6_same f0 f1 f2 f3 f4 f5), ?_⟩
  refine ⟨isVal (.bool true), step_pick (.tmp 57) (.tmp 61) (.const (.bool false)) true (by kernel_rfl) (wanted_none (by kernel_rfl)) (stable_val _) (knows_new (V := isVal (.bool true)) 57 32 (by kernel_rfl) (by kernel_rfl) (by kernel_rfl)) (knows_new (V := isVal (.bool true)) 61 36 (by kernel_rfl) (by kernel_rfl) (by kernel_rfl)), ?_⟩
  refine ⟨isVal (.bool true), step_assign (.tmp 62) (by kernel_rfl) (wanted_none (by kernel_rfl)) (stable_val _) (knows_new (V := isVal (.bool true)) 62 37 (by kernel_rfl) (by kernel_rfl) (by kernel_rfl)), ?_⟩
  intro a w hkp hb hd
  rw [kept_of hkp [some 25, some 26, some 27, some 28, some 29, some 30, some 31, some 32, some 33, some 34, some 35, some 36, some 37, some 38, some 39, some 40, some 41, some 42, some 43, some 44, some 45, some 46, some 47, some 48, some 49, some 50, some 51, some 52, some 53, some 54, some 55, some 56, some 57, some 58, some 59, some 60, some 61, some 62, some 2] [25, 26, 27, 28, 29, 30, 31, 32, 33, 34, 35, 36, 37, 38, 39, 40, 41, 42, 43, 44, 45, 46, 47, 48, 49, 50, 51, 52, 53, 54, 55, 56, 57, 58, 59, 60, 61, 62, 2] (by kernel_rfl) (by decide)]
  have d2 := fdone_of (hd 38 (by rw [show tlyOps.size = 39 by kernel_rfl]; decide)) (t := 2) (V := isVal (.bool true)) (by kernel_rfl) (by kernel_rfl)
  exact hQ (fun s => a.tmps.getD s undef) w d2 hb
noncomputable def tlnOps : Array Oper := regionOf Try.f4 10
set_option maxRecDepth 100000 in
set_option maxHeartbeats 2000000 in
theorem tln_region (Q : Exit → Act → World → Prop) (a0 : Act) (w0 : World) (hsz : a0.tmps.size = 63) (g : Nat) (C : Cf) (hc : CellsN w0 g [.int .i64 C.nodes, .int .i64 C.slots, .int .i64 C.pages, .int .i64 C.room, .int .i64 C.chunk, .int .i64 C.buffer, .int .i64 C.queue, .int .i64 C.wear]) (e1 : a0.tmps.getD 1 undef = .pointer (some ⟨g, 0, none⟩)) (h : Nat) (f0 f1 f2 f3 f4 f5 : Int) (hf : CellsN w0 h [.int .i64 f0, .int .i64 f1, .int .i64 f2, .int .i64 f3, .int .i64 f4, .int .i64 f5]) (hok : okC C = false) (hfv : footV C = (.agg #[.int .i64 f0, .int .i64 f1, .int .i64 f2, .int .i64 f3, .int .i64 f4, .int .i64 f5])) (e3 : a0.tmps.getD 3 undef = .bool true) (e4 : a0.tmps.getD 4 undef = .bool false) (e5 : a0.tmps.getD 5 undef = .int .i64 (sizeC C)) (e6 : a0.tmps.getD 6 undef = .int .i64 (chunksC C)) (e7 : a0.tmps.getD 7 undef = .int .i64 (roundsC C)) (e8 : a0.tmps.getD 8 undef = .int .i64 (workC C)) (e9 : a0.tmps.getD 9 undef = .pointer (some ⟨h, 0, none⟩))
    (hQ : ∀ (g : Nat → Value) (w : World), g 2 = .bool true → Below w0.heap.size w0 w → Q .normal { tmps := [25, 26, 27, 28, 29, 30, 31, 32, 33, 34, 35, 36, 37, 38, 39, 40, 41, 42, 43, 44, 45, 46, 47, 48, 49, 50, 51, 52, 53, 54, 55, 56, 57, 58, 59, 60, 61, 62, 2].foldl (fun t s => t.setIfInBounds s (g s)) a0.tmps, defers := a0.defers } w) :
    (Code.region 10 tlnOps true).wp Try.prog Q a0 w0 := by
  refine wp_region_flow mixed (by rw [hsz]; kernel_rfl) ?_
  rw [show tlnOps.size = 39 by kernel_rfl]
  refine ⟨isVal (.bool true), step_move (.tmp 3) (by kernel_rfl) (wanted_none (by kernel_rfl)) (stable_val _) (knows_old 3 (.bool true) (by kernel_rfl) e3), ?_⟩
  refine ⟨isVal (.bool true), step_move (.tmp 25) (by kernel_rfl) (wanted_none (by kernel_rfl)) (stable_val _) (knows_new (V := isVal (.bool true)) 25 0 (by kernel_rfl) (by kernel_rfl) (by kernel_rfl)), ?_⟩
  refine ⟨isVal (.agg #[.int .i64 C.nodes, .int .i64 C.slots, .int .i64 C.pages, .int .i64 C.room, .int .i64 C.chunk, .int .i64 C.buffer, .int .i64 C.queue, .int .i64 C.wear]), step_loadN 38 (.tmp 1) (g) [.int .i64 C.nodes, .int .i64 C.slots, .int .i64 C.pages, .int .i64 C.room, .int .i64 C.chunk, .int .i64 C.buffer, .int .i64 C.queue, .int .i64 C.wear] (by kernel_rfl) (wanted_some 1 26 true (by kernel_rfl) (by kernel_rfl) (by kernel_rfl) (by kernel_rfl)) (knows_old 1 (.pointer (some ⟨g, 0, none⟩)) (by kernel_rfl) e1) size_cf agg_cf (hc), ?_⟩
  refine ⟨isVal (.int .i64 1), step_call 29 #[.tmp 27] #[38] #[.agg #[.int .i64 C.nodes, .int .i64 C.slots, .int .i64 C.pages, .int .i64 C.room, .int .i64 C.chunk, .int .i64 C.buffer, .int .i64 C.queue, .int .i64 C.wear]] (by kernel_rfl) (wanted_some 1 26 true (by kernel_rfl) (by kernel_rfl) (by kernel_rfl) (by kernel_rfl)) (stable_val _) (args1 (.tmp 27) (.agg #[.int .i64 C.nodes, .int .i64 C.slots, .int .i64 C.pages, .int .i64 C.room, .int .i64 C.chunk, .int .i64 C.buffer, .int .i64 C.queue, .int .i64 C.wear]) (knows_new (V := isVal (.agg #[.int .i64 C.nodes, .int .i64 C.slots, .int .i64 C.pages, .int .i64 C.room, .int .i64 C.chunk, .int .i64 C.buffer, .int .i64 C.queue, .int .i64 C.wear])) 27 2 (by kernel_rfl) (by kernel_rfl) (by kernel_rfl))) (enters_of Try.func29 (by kernel_rfl) rfl) (by intro w' hb; exact cv1 (gc_check C 1 w' (chkC_no hok))), ?_⟩
  refine ⟨isVal (.bool false), step_bin .eql 28 28 (.tmp 28) (.const (.int .i64 0)) (.int .i64 1) (.int .i64 0) (.bool false) (by kernel_rfl) (wanted_some 1 26 true (by kernel_rfl) (by kernel_rfl) (by kernel_rfl) (by kernel_rfl)) (knows_new (V := isVal (.int .i64 1)) 28 3 (by kernel_rfl) (by kernel_rfl) (by kernel_rfl)) (knows_const _) (fun _ => rfl) (eql_f _ _ (by omega)), ?_⟩
  refine ⟨isVal (.bool false), step_move (.tmp 4) (by kernel_rfl) (wanted_some 1 26 true (by kernel_rfl) (by kernel_rfl) (by kernel_rfl) (by kernel_rfl)) (stable_val _) (knows_old 4 (.bool false) (by kernel_rfl) e4), ?_⟩
  refine ⟨isVal (.bool true), step_bin .eql 4 4 (.tmp 29) (.tmp 30) (.bool false) (.bool false) (.bool true) (by kernel_rfl) (wanted_some 1 26 true (by kernel_rfl) (by kernel_rfl) (by kernel_rfl) (by kernel_rfl)) (knows_new (V := isVal (.bool false)) 29 4 (by kernel_rfl) (by kernel_rfl) (by kernel_rfl)) (knows_new (V := isVal (.bool false)) 30 5 (by kernel_rfl) (by kernel_rfl) (by kernel_rfl)) (fun _ => rfl) (by intro w; rfl), ?_⟩
  refine ⟨isVal (.bool true), step_pick (.tmp 26) (.tmp 31) (.const (.bool false)) true (by kernel_rfl) (wanted_none (by kernel_rfl)) (stable_val _) (knows_new (V := isVal (.bool true)) 26 1 (by kernel_rfl) (by kernel_rfl) (by kernel_rfl)) (knows_new (V := isVal (.bool true)) 31 6 (by kernel_rfl) (by kernel_rfl) (by kernel_rfl)), ?_⟩
  refine ⟨isVal (.bool true), step_move (.tmp 32) (by kernel_rfl) (wanted_none (by kernel_rfl)) (stable_val _) (knows_new (V := isVal (.bool true)) 32 7 (by kernel_rfl) (by kernel_rfl) (by kernel_rfl)), ?_⟩
  refine ⟨isVal (.agg #[.int .i64 C.nodes, .int .i64 C.slots, .int .i64 C.pages, .int .i64 C.room, .int .i64 C.chunk, .int .i64 C.buffer, .int .i64 C.queue, .int .i64 C.wear]), step_loadN 38 (.tmp 1) (g) [.int .i64 C.nodes, .int .i64 C.slots, .int .i64 C.pages, .int .i64 C.room, .int .i64 C.chunk, .int .i64 C.buffer, .int .i64 C.queue, .int .i64 C.wear] (by kernel_rfl) (wanted_some 8 33 true (by kernel_rfl) (by kernel_rfl) (by kernel_rfl) (by kernel_rfl)) (knows_old 1 (.pointer (some ⟨g, 0, none⟩)) (by kernel_rfl) e1) size_cf agg_cf (hc), ?_⟩
  refine ⟨isVal (.int .i64 (sizeC C)), step_call 30 #[.tmp 34] #[38] #[.agg #[.int .i64 C.nodes, .int .i64 C.slots, .int .i64 C.pages, .int .i64 C.room, .int .i64 C.chunk, .int .i64 C.buffer, .int .i64 C.queue, .int .i64 C.wear]] (by kernel_rfl) (wanted_some 8 33 true (by kernel_rfl) (by kernel_rfl) (by kernel_rfl) (by kernel_rfl)) (stable_val _) (args1 (.tmp 34) (.agg #[.int .i64 C.nodes, .int .i64 C.slots, .int .i64 C.pages, .int .i64 C.room, .int .i64 C.chunk, .int .i64 C.buffer, .int .i64 C.queue, .int .i64 C.wear]) (knows_new (V := isVal (.agg #[.int .i64 C.nodes, .int .i64 C.slots, .int .i64 C.pages, .int .i64 C.room, .int .i64 C.chunk, .int .i64 C.buffer, .int .i64 C.queue, .int .i64 C.wear])) 34 9 (by kernel_rfl) (by kernel_rfl) (by kernel_rfl))) (enters_of Try.func30 (by kernel_rfl) rfl) (by intro w' hb; exact cv1 (csize_any C w')), ?_⟩
  refine ⟨isVal (.int .i64 (sizeC C)), step_move (.tmp 5) (by kernel_rfl) (wanted_some 8 33 true (by kernel_rfl) (by kernel_rfl) (by kernel_rfl) (by kernel_rfl)) (stable_val _) (knows_old 5 (.int .i64 (sizeC C)) (by kernel_rfl) e5), ?_⟩
  refine ⟨isVal (.bool true), step_bin .eql 3 3 (.tmp 35) (.tmp 36) (.int .i64 (sizeC C)) (.int .i64 (sizeC C)) (.bool true) (by kernel_rfl) (wanted_some 8 33 true (by kernel_rfl) (by kernel_rfl) (by kernel_rfl) (by kernel_rfl)) (knows_new (V := isVal (.int .i64 (sizeC C))) 35 10 (by kernel_rfl) (by kernel_rfl) (by kernel_rfl)) (knows_new (V := isVal (.int .i64 (sizeC C))) 36 11 (by kernel_rfl) (by kernel_rfl) (by kernel_rfl)) (fun _ => rfl) (eql_t _ _ (by omega)), ?_⟩
  refine ⟨isVal (.bool true), step_pick (.tmp 33) (.tmp 37) (.const (.bool false)) true (by kernel_rfl) (wanted_none (by kernel_rfl)) (stable_val _) (knows_new (V := isVal (.bool true)) 33 8 (by kernel_rfl) (by kernel_rfl) (by kernel_rfl)) (knows_new (V := isVal (.bool true)) 37 12 (by kernel_rfl) (by kernel_rfl) (by kernel_rfl)), ?_⟩
  refine ⟨isVal (.bool true), step_move (.tmp 38) (by kernel_rfl) (wanted_none (by kernel_rfl)) (stable_val _) (knows_new (V := isVal (.bool true)) 38 13 (by kernel_rfl) (by kernel_rfl) (by kernel_rfl)), ?_⟩
  refine ⟨isVal (.agg #[.int .i64 C.nodes, .int .i64 C.slots, .int .i64 C.pages, .int .i64 C.room, .int .i64 C.chunk, .int .i64 C.buffer, .int .i64 C.queue, .int .i64 C.wear]), step_loadN 38 (.tmp 1) (g) [.int .i64 C.nodes, .int .i64 C.slots, .int .i64 C.pages, .int .i64 C.room, .int .i64 C.chunk, .int .i64 C.buffer, .int .i64 C.queue, .int .i64 C.wear] (by kernel_rfl) (wanted_some 14 39 true (by kernel_rfl) (by kernel_rfl) (by kernel_rfl) (by kernel_rfl)) (knows_old 1 (.pointer (some ⟨g, 0, none⟩)) (by kernel_rfl) e1) size_cf agg_cf (hc), ?_⟩
  refine ⟨isVal (.int .i64 (chunksC C)), step_call 31 #[.tmp 40] #[38] #[.agg #[.int .i64 C.nodes, .int .i64 C.slots, .int .i64 C.pages, .int .i64 C.room, .int .i64 C.chunk, .int .i64 C.buffer, .int .i64 C.queue, .int .i64 C.wear]] (by kernel_rfl) (wanted_some 14 39 true (by kernel_rfl) (by kernel_rfl) (by kernel_rfl) (by kernel_rfl)) (stable_val _) (args1 (.tmp 40) (.agg #[.int .i64 C.nodes, .int .i64 C.slots, .int .i64 C.pages, .int .i64 C.room, .int .i64 C.chunk, .int .i64 C.buffer, .int .i64 C.queue, .int .i64 C.wear]) (knows_new (V := isVal (.agg #[.int .i64 C.nodes, .int .i64 C.slots, .int .i64 C.pages, .int .i64 C.room, .int .i64 C.chunk, .int .i64 C.buffer, .int .i64 C.queue, .int .i64 C.wear])) 40 15 (by kernel_rfl) (by kernel_rfl) (by kernel_rfl))) (enters_of Try.func31 (by kernel_rfl) rfl) (by intro w' hb; exact cv1 (cchunks_any C w')), ?_⟩
  refine ⟨isVal (.int .i64 (chunksC C)), step_move (.tmp 6) (by kernel_rfl) (wanted_some 14 39 true (by kernel_rfl) (by kernel_rfl) (by kernel_rfl) (by kernel_rfl)) (stable_val _) (knows_old 6 (.int .i64 (chunksC C)) (by kernel_rfl) e6), ?_⟩
  refine ⟨isVal (.bool true), step_bin .eql 3 3 (.tmp 41) (.tmp 42) (.int .i64 (chunksC C)) (.int .i64 (chunksC C)) (.bool true) (by kernel_rfl) (wanted_some 14 39 true (by kernel_rfl) (by kernel_rfl) (by kernel_rfl) (by kernel_rfl)) (knows_new (V := isVal (.int .i64 (chunksC C))) 41 16 (by kernel_rfl) (by kernel_rfl) (by kernel_rfl)) (knows_new (V := isVal (.int .i64 (chunksC C))) 42 17 (by kernel_rfl) (by kernel_rfl) (by kernel_rfl)) (fun _ => rfl) (eql_t _ _ (by omega)), ?_⟩
  refine ⟨isVal (.bool true), step_pick (.tmp 39) (.tmp 43) (.const (.bool false)) true (by kernel_rfl) (wanted_none (by kernel_rfl)) (stable_val _) (knows_new (V := isVal (.bool true)) 39 14 (by kernel_rfl) (by kernel_rfl) (by kernel_rfl)) (knows_new (V := isVal (.bool true)) 43 18 (by kernel_rfl) (by kernel_rfl) (by kernel_rfl)), ?_⟩
  refine ⟨isVal (.bool true), step_move (.tmp 44) (by kernel_rfl) (wanted_none (by kernel_rfl)) (stable_val _) (knows_new (V := isVal (.bool true)) 44 19 (by kernel_rfl) (by kernel_rfl) (by kernel_rfl)), ?_⟩
  refine ⟨isVal (.agg #[.int .i64 C.nodes, .int .i64 C.slots, .int .i64 C.pages, .int .i64 C.room, .int .i64 C.chunk, .int .i64 C.buffer, .int .i64 C.queue, .int .i64 C.wear]), step_loadN 38 (.tmp 1) (g) [.int .i64 C.nodes, .int .i64 C.slots, .int .i64 C.pages, .int .i64 C.room, .int .i64 C.chunk, .int .i64 C.buffer, .int .i64 C.queue, .int .i64 C.wear] (by kernel_rfl) (wanted_some 20 45 true (by kernel_rfl) (by kernel_rfl) (by kernel_rfl) (by kernel_rfl)) (knows_old 1 (.pointer (some ⟨g, 0, none⟩)) (by kernel_rfl) e1) size_cf agg_cf (hc), ?_⟩
  refine ⟨isVal (.int .i64 (roundsC C)), step_call 32 #[.tmp 46] #[38] #[.agg #[.int .i64 C.nodes, .int .i64 C.slots, .int .i64 C.pages, .int .i64 C.room, .int .i64 C.chunk, .int .i64 C.buffer, .int .i64 C.queue, .int .i64 C.wear]] (by kernel_rfl) (wanted_some 20 45 true (by kernel_rfl) (by kernel_rfl) (by kernel_rfl) (by kernel_rfl)) (stable_val _) (args1 (.tmp 46) (.agg #[.int .i64 C.nodes, .int .i64 C.slots, .int .i64 C.pages, .int .i64 C.room, .int .i64 C.chunk, .int .i64 C.buffer, .int .i64 C.queue, .int .i64 C.wear]) (knows_new (V := isVal (.agg #[.int .i64 C.nodes, .int .i64 C.slots, .int .i64 C.pages, .int .i64 C.room, .int .i64 C.chunk, .int .i64 C.buffer, .int .i64 C.queue, .int .i64 C.wear])) 46 21 (by kernel_rfl) (by kernel_rfl) (by kernel_rfl))) (enters_of Try.func32 (by kernel_rfl) rfl) (by intro w' hb; exact cv1 (crounds_any C w')), ?_⟩
  refine ⟨isVal (.int .i64 (roundsC C)), step_move (.tmp 7) (by kernel_rfl) (wanted_some 20 45 true (by kernel_rfl) (by kernel_rfl) (by kernel_rfl) (by kernel_rfl)) (stable_val _) (knows_old 7 (.int .i64 (roundsC C)) (by kernel_rfl) e7), ?_⟩
  refine ⟨isVal (.bool true), step_bin .eql 3 3 (.tmp 47) (.tmp 48) (.int .i64 (roundsC C)) (.int .i64 (roundsC C)) (.bool true) (by kernel_rfl) (wanted_some 20 45 true (by kernel_rfl) (by kernel_rfl) (by kernel_rfl) (by kernel_rfl)) (knows_new (V := isVal (.int .i64 (roundsC C))) 47 22 (by kernel_rfl) (by kernel_rfl) (by kernel_rfl)) (knows_new (V := isVal (.int .i64 (roundsC C))) 48 23 (by kernel_rfl) (by kernel_rfl) (by kernel_rfl)) (fun _ => rfl) (eql_t _ _ (by omega)), ?_⟩
  refine ⟨isVal (.bool true), step_pick (.tmp 45) (.tmp 49) (.const (.bool false)) true (by kernel_rfl) (wanted_none (by kernel_rfl)) (stable_val _) (knows_new (V := isVal (.bool true)) 45 20 (by kernel_rfl) (by kernel_rfl) (by kernel_rfl)) (knows_new (V := isVal (.bool true)) 49 24 (by kernel_rfl) (by kernel_rfl) (by kernel_rfl)), ?_⟩
  refine ⟨isVal (.bool true), step_move (.tmp 50) (by kernel_rfl) (wanted_none (by kernel_rfl)) (stable_val _) (knows_new (V := isVal (.bool true)) 50 25 (by kernel_rfl) (by kernel_rfl) (by kernel_rfl)), ?_⟩
  refine ⟨isVal (.agg #[.int .i64 C.nodes, .int .i64 C.slots, .int .i64 C.pages, .int .i64 C.room, .int .i64 C.chunk, .int .i64 C.buffer, .int .i64 C.queue, .int .i64 C.wear]), step_loadN 38 (.tmp 1) (g) [.int .i64 C.nodes, .int .i64 C.slots, .int .i64 C.pages, .int .i64 C.room, .int .i64 C.chunk, .int .i64 C.buffer, .int .i64 C.queue, .int .i64 C.wear] (by kernel_rfl) (wanted_some 26 51 true (by kernel_rfl) (by kernel_rfl) (by kernel_rfl) (by kernel_rfl)) (knows_old 1 (.pointer (some ⟨g, 0, none⟩)) (by kernel_rfl) e1) size_cf agg_cf (hc), ?_⟩
  refine ⟨isVal (.int .i64 (workC C)), step_call 33 #[.tmp 52] #[38] #[.agg #[.int .i64 C.nodes, .int .i64 C.slots, .int .i64 C.pages, .int .i64 C.room, .int .i64 C.chunk, .int .i64 C.buffer, .int .i64 C.queue, .int .i64 C.wear]] (by kernel_rfl) (wanted_some 26 51 true (by kernel_rfl) (by kernel_rfl) (by kernel_rfl) (by kernel_rfl)) (stable_val _) (args1 (.tmp 52) (.agg #[.int .i64 C.nodes, .int .i64 C.slots, .int .i64 C.pages, .int .i64 C.room, .int .i64 C.chunk, .int .i64 C.buffer, .int .i64 C.queue, .int .i64 C.wear]) (knows_new (V := isVal (.agg #[.int .i64 C.nodes, .int .i64 C.slots, .int .i64 C.pages, .int .i64 C.room, .int .i64 C.chunk, .int .i64 C.buffer, .int .i64 C.queue, .int .i64 C.wear])) 52 27 (by kernel_rfl) (by kernel_rfl) (by kernel_rfl))) (enters_of Try.func33 (by kernel_rfl) rfl) (by intro w' hb; exact cv1 (cwork_any C w')), ?_⟩
  refine ⟨isVal (.int .i64 (workC C)), step_move (.tmp 8) (by kernel_rfl) (wanted_some 26 51 true (by kernel_rfl) (by kernel_rfl) (by kernel_rfl) (by kernel_rfl)) (stable_val _) (knows_old 8 (.int .i64 (workC C)) (by kernel_rfl) e8), ?_⟩
  refine ⟨isVal (.bool true), step_bin .eql 3 3 (.tmp 53) (.tmp 54) (.int .i64 (workC C)) (.int .i64 (workC C)) (.bool true) (by kernel_rfl) (wanted_some 26 51 true (by kernel_rfl) (by kernel_rfl) (by kernel_rfl) (by kernel_rfl)) (knows_new (V := isVal (.int .i64 (workC C))) 53 28 (by kernel_rfl) (by kernel_rfl) (by kernel_rfl)) (knows_new (V := isVal (.int .i64 (workC C))) 54 29 (by kernel_rfl) (by kernel_rfl) (by kernel_rfl)) (fun _ => rfl) (eql_t _ _ (by omega)), ?_⟩
  refine ⟨isVal (.bool true), step_pick (.tmp 51) (.tmp 55) (.const (.bool false)) true (by kernel_rfl) (wanted_none (by kernel_rfl)) (stable_val _) (knows_new (V := isVal (.bool true)) 51 26 (by kernel_rfl) (by kernel_rfl) (by kernel_rfl)) (knows_new (V := isVal (.bool true)) 55 30 (by kernel_rfl) (by kernel_rfl) (by kernel_rfl)), ?_⟩
  refine ⟨isVal (.bool true), step_move (.tmp 56) (by kernel_rfl) (wanted_none (by kernel_rfl)) (stable_val _) (knows_new (V := isVal (.bool true)) 56 31 (by kernel_rfl) (by kernel_rfl) (by kernel_rfl)), ?_⟩
  refine ⟨isVal (.agg #[.int .i64 C.nodes, .int .i64 C.slots, .int .i64 C.pages, .int .i64 C.room, .int .i64 C.chunk, .int .i64 C.buffer, .int .i64 C.queue, .int .i64 C.wear]), step_loadN 38 (.tmp 1) (g) [.int .i64 C.nodes, .int .i64 C.slots, .int .i64 C.pages, .int .i64 C.room, .int .i64 C.chunk, .int .i64 C.buffer, .int .i64 C.queue, .int .i64 C.wear] (by kernel_rfl) (wanted_some 32 57 true (by kernel_rfl) (by kernel_rfl) (by kernel_rfl) (by kernel_rfl)) (knows_old 1 (.pointer (some ⟨g, 0, none⟩)) (by kernel_rfl) e1) size_cf agg_cf (hc), ?_⟩
  refine ⟨isVal (.agg #[.int .i64 f0, .int .i64 f1, .int .i64 f2, .int .i64 f3, .int .i64 f4, .int .i64 f5]), step_call 34 #[.tmp 58] #[38] #[.agg #[.int .i64 C.nodes, .int .i64 C.slots, .int .i64 C.pages, .int .i64 C.room, .int .i64 C.chunk, .int .i64 C.buffer, .int .i64 C.queue, .int .i64 C.wear]] (by kernel_rfl) (wanted_some 32 57 true (by kernel_rfl) (by kernel_rfl) (by kernel_rfl) (by kernel_rfl)) (stable_val _) (args1 (.tmp 58) (.agg #[.int .i64 C.nodes, .int .i64 C.slots, .int .i64 C.pages, .int .i64 C.room, .int .i64 C.chunk, .int .i64 C.buffer, .int .i64 C.queue, .int .i64 C.wear]) (knows_new (V := isVal (.agg #[.int .i64 C.nodes, .int .i64 C.slots, .int .i64 C.pages, .int .i64 C.room, .int .i64 C.chunk, .int .i64 C.buffer, .int .i64 C.queue, .int .i64 C.wear])) 58 33 (by kernel_rfl) (by kernel_rfl) (by kernel_rfl))) (enters_of Try.func34 (by kernel_rfl) rfl) (by intro w' hb; exact cv1 (gc_foot C _ w' hfv)), ?_⟩
  refine ⟨isVal (.agg #[.int .i64 f0, .int .i64 f1, .int .i64 f2, .int .i64 f3, .int .i64 f4, .int .i64 f5]), step_loadN 41 (.tmp 9) (h) [.int .i64 f0, .int .i64 f1, .int .i64 f2, .int .i64 f3, .int .i64 f4, .int .i64 f5] (by kernel_rfl) (wanted_some 32 57 true (by kernel_rfl) (by kernel_rfl) (by kernel_rfl) (by kernel_rfl)) (knows_old 9 (.pointer (some ⟨h, 0, none⟩)) (by kernel_rfl) e9) size_i6 agg_i6 (hf), ?_⟩
  refine ⟨isVal (.bool true), step_bin .eql 41 41 (.tmp 59) (.tmp 60) (.agg #[.int .i64 f0, .int .i64 f1, .int .i64 f2, .int .i64 f3, .int .i64 f4, .int .i64 f5]) (.agg #[.int .i64 f0, .int .i64 f1, .int .i64 f2, .int .i64 f3, .int .i64 f4, .int .i64 f5]) (.bool true) (by kernel_rfl) (wanted_some 32 57 true (by kernel_rfl) (by kernel_rfl) (by kernel_rfl) (by kernel_rfl)) (knows_new (V := isVal (.agg #[.int .i64 f0, .int .i64 f1, .int .i64 f2, .int .i64 f3, .int .i64 f4, .int .i64 f5])) 59 34 (by kernel_rfl) (by kernel_rfl) (by kernel_rfl)) (knows_new (V := isVal (.agg #[.int .i64 f0, .int .i64 f1, .int .i64 f2, .int .i64 f3, .int .i64 f4, .int .i64 f5])) 60 35 (by kernel_rfl) (by kernel_rfl) (by kernel_rfl)) (fun _ => rfl) (eql6_same f0 f1 f2 f3 f4 f5), ?_⟩
  refine ⟨isVal (.bool true), step_pick (.tmp 57) (.tmp 61) (.const (.bool false)) true (by kernel_rfl) (wanted_none (by kernel_rfl)) (stable_val _) (knows_new (V := isVal (.bool true)) 57 32 (by kernel_rfl) (by kernel_rfl) (by kernel_rfl)) (knows_new (V := isVal (.bool true)) 61 36 (by kernel_rfl) (by kernel_rfl) (by kernel_rfl)), ?_⟩
  refine ⟨isVal (.bool true), step_assign (.tmp 62) (by kernel_rfl) (wanted_none (by kernel_rfl)) (stable_val _) (knows_new (V := isVal (.bool true)) 62 37 (by kernel_rfl) (by kernel_rfl) (by kernel_rfl)), ?_⟩
  intro a w hkp hb hd
  rw [kept_of hkp [some 25, some 26, some 27, some 28, some 29, some 30, some 31, some 32, some 33, some 34, some 35, some 36, some 37, some 38, some 39, some 40, some 41, some 42, some 43, some 44, some 45, some 46, some 47, some 48, some 49, some 50, some 51, some 52, some 53, some 54, some 55, some 56, some 57, some 58, some 59, some 60, some 61, some 62, some 2] [25, 26, 27, 28, 29, 30, 31, 32, 33, 34, 35, 36, 37, 38, 39, 40, 41, 42, 43, 44, 45, 46, 47, 48, 49, 50, 51, 52, 53, 54, 55, 56, 57, 58, 59, 60, 61, 62, 2] (by kernel_rfl) (by decide)]
  have d2 := fdone_of (hd 38 (by rw [show tlnOps.size = 39 by kernel_rfl]; decide)) (t := 2) (V := isVal (.bool true)) (by kernel_rfl) (by kernel_rfl)
  exact hQ (fun s => a.tmps.getD s undef) w d2 hb
set_option maxRecDepth 100000 in
set_option maxHeartbeats 2000000 in
theorem configTells_walk (C : Cf) (v0 : Value) (w0 : CameC C) (w : World) (fl0 : isCf C v0 w) :
    Calls Try.prog 4 #[v0] w fun e w' => e = .returned (.bool true) ∧ Below w.heap.size w w' := by
  unfold isCf at fl0
  subst fl0
  obtain ⟨hB, HC⟩ := cbox w C w.heap.size rfl
  obtain ⟨hn, hn2⟩ : w.heap.size ≤ w.heap.size ∧ True := ⟨Nat.le_refl _, trivial⟩
  clear hn hn2
  go_enter Try.func4, Try.ntmps4
  go_wp2_with fail
  generalize w.alloc (.cells #[.int .i64 C.nodes, .int .i64 C.slots, .int .i64 C.pages, .int .i64 C.room, .int .i64 C.chunk, .int .i64 C.buffer, .int .i64 C.queue, .int .i64 C.wear] 38) = W0 at *
  refine (cfworks_any W0).mono ?_
  rintro e W1 ⟨rfl, hb⟩
  replace hB := Kept.mk (hB.out.trans (hb.mono hB.out.size))
  replace HC := Kept.mk (HC.out.keep hb)
  clear hb
  have kc0 := HC.out.cells.2 0 _ rfl
  have kc1 := HC.out.cells.2 1 _ rfl
  have kc2 := HC.out.cells.2 2 _ rfl
  have kc3 := HC.out.cells.2 3 _ rfl
  have kc4 := HC.out.cells.2 4 _ rfl
  have kc5 := HC.out.cells.2 5 _ rfl
  have kc6 := HC.out.cells.2 6 _ rfl
  have kc7 := HC.out.cells.2 7 _ rfl
  go_wp2_with fail
  clear kc0 kc1 kc2 kc3 kc4 kc5 kc6 kc7
  cases hok : okC C
  · have HOK := Kept.mk hok
    clear hok
    refine (rfcheck_C C W1).mono ?_
    rintro e W2 ⟨rfl, hb⟩
    rw [HOK.out]
    replace hB := Kept.mk (hB.out.trans (hb.mono hB.out.size))
    replace HC := Kept.mk (HC.out.keep hb)
    clear hb
    have kc0 := HC.out.cells.2 0 _ rfl
    have kc1 := HC.out.cells.2 1 _ rfl
    have kc2 := HC.out.cells.2 2 _ rfl
    have kc3 := HC.out.cells.2 3 _ rfl
    have kc4 := HC.out.cells.2 4 _ rfl
    have kc5 := HC.out.cells.2 5 _ rfl
    have kc6 := HC.out.cells.2 6 _ rfl
    have kc7 := HC.out.cells.2 7 _ rfl
    go_wp2_with fail
    clear kc0 kc1 kc2 kc3 kc4 kc5 kc6 kc7
    refine (rfsize_any C W2).mono ?_
    rintro e W3 ⟨rfl, hb⟩
    replace hB := Kept.mk (hB.out.trans (hb.mono hB.out.size))
    replace HC := Kept.mk (HC.out.keep hb)
    clear hb
    have kc0 := HC.out.cells.2 0 _ rfl
    have kc1 := HC.out.cells.2 1 _ rfl
    have kc2 := HC.out.cells.2 2 _ rfl
    have kc3 := HC.out.cells.2 3 _ rfl
    have kc4 := HC.out.cells.2 4 _ rfl
    have kc5 := HC.out.cells.2 5 _ rfl
    have kc6 := HC.out.cells.2 6 _ rfl
    have kc7 := HC.out.cells.2 7 _ rfl
    go_wp2_with fail
    clear kc0 kc1 kc2 kc3 kc4 kc5 kc6 kc7
    refine (rfchunks_any C W3).mono ?_
    rintro e W4 ⟨rfl, hb⟩
    replace hB := Kept.mk (hB.out.trans (hb.mono hB.out.size))
    replace HC := Kept.mk (HC.out.keep hb)
    clear hb
    have kc0 := HC.out.cells.2 0 _ rfl
    have kc1 := HC.out.cells.2 1 _ rfl
    have kc2 := HC.out.cells.2 2 _ rfl
    have kc3 := HC.out.cells.2 3 _ rfl
    have kc4 := HC.out.cells.2 4 _ rfl
    have kc5 := HC.out.cells.2 5 _ rfl
    have kc6 := HC.out.cells.2 6 _ rfl
    have kc7 := HC.out.cells.2 7 _ rfl
    go_wp2_with fail
    clear kc0 kc1 kc2 kc3 kc4 kc5 kc6 kc7
    refine (rfrounds_any C W4).mono ?_
    rintro e W5 ⟨rfl, hb⟩
    replace hB := Kept.mk (hB.out.trans (hb.mono hB.out.size))
    replace HC := Kept.mk (HC.out.keep hb)
    clear hb
    have kc0 := HC.out.cells.2 0 _ rfl
    have kc1 := HC.out.cells.2 1 _ rfl
    have kc2 := HC.out.cells.2 2 _ rfl
    have kc3 := HC.out.cells.2 3 _ rfl
    have kc4 := HC.out.cells.2 4 _ rfl
    have kc5 := HC.out.cells.2 5 _ rfl
    have kc6 := HC.out.cells.2 6 _ rfl
    have kc7 := HC.out.cells.2 7 _ rfl
    go_wp2_with fail
    clear kc0 kc1 kc2 kc3 kc4 kc5 kc6 kc7
    refine (rfwork_any C W5).mono ?_
    rintro e W6 ⟨rfl, hb⟩
    replace hB := Kept.mk (hB.out.trans (hb.mono hB.out.size))
    replace HC := Kept.mk (HC.out.keep hb)
    clear hb
    have kc0 := HC.out.cells.2 0 _ rfl
    have kc1 := HC.out.cells.2 1 _ rfl
    have kc2 := HC.out.cells.2 2 _ rfl
    have kc3 := HC.out.cells.2 3 _ rfl
    have kc4 := HC.out.cells.2 4 _ rfl
    have kc5 := HC.out.cells.2 5 _ rfl
    have kc6 := HC.out.cells.2 6 _ rfl
    have kc7 := HC.out.cells.2 7 _ rfl
    go_wp2_with fail
    clear kc0 kc1 kc2 kc3 kc4 kc5 kc6 kc7
    refine (rft_any C W6).mono ?_
    rintro e W7 ⟨rfl, hb⟩
    replace hB := Kept.mk (hB.out.trans (hb.mono hB.out.size))
    replace HC := Kept.mk (HC.out.keep hb)
    clear hb
    obtain ⟨f0, f1, f2, f3, f4, f5, hfv⟩ := foot_six C
    rw [hfv]
    have HFV := Kept.mk hfv
    clear hfv
    have HF := Kept.mk (Hold.new W7 41 [.int .i64 f0, .int .i64 f1, .int .i64 f2, .int .i64 f3, .int .i64 f4, .int .i64 f5] W7.heap.size rfl)
    have hb : Below W7.heap.size W7 (W7.alloc (.cells #[.int .i64 f0, .int .i64 f1, .int .i64 f2, .int .i64 f3, .int .i64 f4, .int .i64 f5] 41)) := (Below.refl _ _).alloc (Nat.le_refl _) _
    replace hB := Kept.mk (hB.out.trans (hb.mono hB.out.size))
    replace HC := Kept.mk (HC.out.keep hb)
    clear hb
    go_wp2_with fail
    generalize W7.alloc (.cells #[.int .i64 f0, .int .i64 f1, .int .i64 f2, .int .i64 f3, .int .i64 f4, .int .i64 f5] 41) = W8 at *
    generalize W7.heap.size = h at *
    refine tln_region _ _ _ rfl w.heap.size C HC.out.cells rfl h f0 f1 f2 f3 f4 f5 HF.out.cells HOK.out HFV.out rfl rfl rfl rfl rfl rfl rfl ?_
    intro f9 W9 d2 hb9
    simp only [List.foldl_cons, List.foldl_nil, d2]
    generalize f9 25 = y25
    generalize f9 26 = y26
    generalize f9 27 = y27
    generalize f9 28 = y28
    generalize f9 29 = y29
    generalize f9 30 = y30
    generalize f9 31 = y31
    generalize f9 32 = y32
    generalize f9 33 = y33
    generalize f9 34 = y34
    generalize f9 35 = y35
    generalize f9 36 = y36
    generalize f9 37 = y37
    generalize f9 38 = y38
    generalize f9 39 = y39
    generalize f9 40 = y40
    generalize f9 41 = y41
    generalize f9 42 = y42
    generalize f9 43 = y43
    generalize f9 44 = y44
    generalize f9 45 = y45
    generalize f9 46 = y46
    generalize f9 47 = y47
    generalize f9 48 = y48
    generalize f9 49 = y49
    generalize f9 50 = y50
    generalize f9 51 = y51
    generalize f9 52 = y52
    generalize f9 53 = y53
    generalize f9 54 = y54
    generalize f9 55 = y55
    generalize f9 56 = y56
    generalize f9 57 = y57
    generalize f9 58 = y58
    generalize f9 59 = y59
    generalize f9 60 = y60
    generalize f9 61 = y61
    generalize f9 62 = y62
    clear d2
    simp only [List.setIfInBounds_toArray, List.set_cons_succ, List.set_cons_zero]
    replace hB := Kept.mk (hB.out.trans (hb9.mono hB.out.size))
    replace HC := Kept.mk (HC.out.keep hb9)
    clear hb9
    go_wp2
    go_ret
    exact ⟨rfl, hB.out⟩
  · have HOK := Kept.mk hok
    clear hok
    refine (rfcheck_C C W1).mono ?_
    rintro e W2 ⟨rfl, hb⟩
    rw [HOK.out]
    replace hB := Kept.mk (hB.out.trans (hb.mono hB.out.size))
    replace HC := Kept.mk (HC.out.keep hb)
    clear hb
    have kc0 := HC.out.cells.2 0 _ rfl
    have kc1 := HC.out.cells.2 1 _ rfl
    have kc2 := HC.out.cells.2 2 _ rfl
    have kc3 := HC.out.cells.2 3 _ rfl
    have kc4 := HC.out.cells.2 4 _ rfl
    have kc5 := HC.out.cells.2 5 _ rfl
    have kc6 := HC.out.cells.2 6 _ rfl
    have kc7 := HC.out.cells.2 7 _ rfl
    go_wp2_with fail
    clear kc0 kc1 kc2 kc3 kc4 kc5 kc6 kc7
    refine (rfsize_any C W2).mono ?_
    rintro e W3 ⟨rfl, hb⟩
    replace hB := Kept.mk (hB.out.trans (hb.mono hB.out.size))
    replace HC := Kept.mk (HC.out.keep hb)
    clear hb
    have kc0 := HC.out.cells.2 0 _ rfl
    have kc1 := HC.out.cells.2 1 _ rfl
    have kc2 := HC.out.cells.2 2 _ rfl
    have kc3 := HC.out.cells.2 3 _ rfl
    have kc4 := HC.out.cells.2 4 _ rfl
    have kc5 := HC.out.cells.2 5 _ rfl
    have kc6 := HC.out.cells.2 6 _ rfl
    have kc7 := HC.out.cells.2 7 _ rfl
    go_wp2_with fail
    clear kc0 kc1 kc2 kc3 kc4 kc5 kc6 kc7
    refine (rfchunks_any C W3).mono ?_
    rintro e W4 ⟨rfl, hb⟩
    replace hB := Kept.mk (hB.out.trans (hb.mono hB.out.size))
    replace HC := Kept.mk (HC.out.keep hb)
    clear hb
    have kc0 := HC.out.cells.2 0 _ rfl
    have kc1 := HC.out.cells.2 1 _ rfl
    have kc2 := HC.out.cells.2 2 _ rfl
    have kc3 := HC.out.cells.2 3 _ rfl
    have kc4 := HC.out.cells.2 4 _ rfl
    have kc5 := HC.out.cells.2 5 _ rfl
    have kc6 := HC.out.cells.2 6 _ rfl
    have kc7 := HC.out.cells.2 7 _ rfl
    go_wp2_with fail
    clear kc0 kc1 kc2 kc3 kc4 kc5 kc6 kc7
    refine (rfrounds_any C W4).mono ?_
    rintro e W5 ⟨rfl, hb⟩
    replace hB := Kept.mk (hB.out.trans (hb.mono hB.out.size))
    replace HC := Kept.mk (HC.out.keep hb)
    clear hb
    have kc0 := HC.out.cells.2 0 _ rfl
    have kc1 := HC.out.cells.2 1 _ rfl
    have kc2 := HC.out.cells.2 2 _ rfl
    have kc3 := HC.out.cells.2 3 _ rfl
    have kc4 := HC.out.cells.2 4 _ rfl
    have kc5 := HC.out.cells.2 5 _ rfl
    have kc6 := HC.out.cells.2 6 _ rfl
    have kc7 := HC.out.cells.2 7 _ rfl
    go_wp2_with fail
    clear kc0 kc1 kc2 kc3 kc4 kc5 kc6 kc7
    refine (rfwork_any C W5).mono ?_
    rintro e W6 ⟨rfl, hb⟩
    replace hB := Kept.mk (hB.out.trans (hb.mono hB.out.size))
    replace HC := Kept.mk (HC.out.keep hb)
    clear hb
    have kc0 := HC.out.cells.2 0 _ rfl
    have kc1 := HC.out.cells.2 1 _ rfl
    have kc2 := HC.out.cells.2 2 _ rfl
    have kc3 := HC.out.cells.2 3 _ rfl
    have kc4 := HC.out.cells.2 4 _ rfl
    have kc5 := HC.out.cells.2 5 _ rfl
    have kc6 := HC.out.cells.2 6 _ rfl
    have kc7 := HC.out.cells.2 7 _ rfl
    go_wp2_with fail
    clear kc0 kc1 kc2 kc3 kc4 kc5 kc6 kc7
    refine (rft_any C W6).mono ?_
    rintro e W7 ⟨rfl, hb⟩
    replace hB := Kept.mk (hB.out.trans (hb.mono hB.out.size))
    replace HC := Kept.mk (HC.out.keep hb)
    clear hb
    obtain ⟨f0, f1, f2, f3, f4, f5, hfv⟩ := foot_six C
    rw [hfv]
    have HFV := Kept.mk hfv
    clear hfv
    have HF := Kept.mk (Hold.new W7 41 [.int .i64 f0, .int .i64 f1, .int .i64 f2, .int .i64 f3, .int .i64 f4, .int .i64 f5] W7.heap.size rfl)
    have hb : Below W7.heap.size W7 (W7.alloc (.cells #[.int .i64 f0, .int .i64 f1, .int .i64 f2, .int .i64 f3, .int .i64 f4, .int .i64 f5] 41)) := (Below.refl _ _).alloc (Nat.le_refl _) _
    replace hB := Kept.mk (hB.out.trans (hb.mono hB.out.size))
    replace HC := Kept.mk (HC.out.keep hb)
    clear hb
    go_wp2_with fail
    generalize W7.alloc (.cells #[.int .i64 f0, .int .i64 f1, .int .i64 f2, .int .i64 f3, .int .i64 f4, .int .i64 f5] 41) = W8 at *
    generalize W7.heap.size = h at *
    refine tly_region _ _ _ rfl w.heap.size C HC.out.cells rfl h f0 f1 f2 f3 f4 f5 HF.out.cells HOK.out HFV.out rfl rfl rfl rfl rfl rfl rfl ?_
    intro f9 W9 d2 hb9
    simp only [List.foldl_cons, List.foldl_nil, d2]
    generalize f9 25 = y25
    generalize f9 26 = y26
    generalize f9 27 = y27
    generalize f9 28 = y28
    generalize f9 29 = y29
    generalize f9 30 = y30
    generalize f9 31 = y31
    generalize f9 32 = y32
    generalize f9 33 = y33
    generalize f9 34 = y34
    generalize f9 35 = y35
    generalize f9 36 = y36
    generalize f9 37 = y37
    generalize f9 38 = y38
    generalize f9 39 = y39
    generalize f9 40 = y40
    generalize f9 41 = y41
    generalize f9 42 = y42
    generalize f9 43 = y43
    generalize f9 44 = y44
    generalize f9 45 = y45
    generalize f9 46 = y46
    generalize f9 47 = y47
    generalize f9 48 = y48
    generalize f9 49 = y49
    generalize f9 50 = y50
    generalize f9 51 = y51
    generalize f9 52 = y52
    generalize f9 53 = y53
    generalize f9 54 = y54
    generalize f9 55 = y55
    generalize f9 56 = y56
    generalize f9 57 = y57
    generalize f9 58 = y58
    generalize f9 59 = y59
    generalize f9 60 = y60
    generalize f9 61 = y61
    generalize f9 62 = y62
    clear d2
    simp only [List.setIfInBounds_toArray, List.set_cons_succ, List.set_cons_zero]
    replace hB := Kept.mk (hB.out.trans (hb9.mono hB.out.size))
    replace HC := Kept.mk (HC.out.keep hb9)
    clear hb9
    go_wp2
    go_ret
    exact ⟨rfl, hB.out⟩
set_option maxRecDepth 100000 in
theorem configTells_lifted (os : Os) (started : os.Started) (H : Type) (enc : TypeId × Value → H) :
    ReturnsInHanded {} Try.checked os 4 .any (Rows.configTellsSpec.pre6 enc Try.prog Try.f4 Rows.configTellsRow.domain false) (Rows.configTellsSpec.post enc Try.prog Try.f4 false true false false) := by
  refine returnsInHanded_of_change (C := Try.checked) (by kernel_rfl : ownKnob Try.prog.godebug = none) started (by kernel_rfl) Try.func4
    (ChangeSpec.witness6 (enc := enc) (C := Try.checked) false ⟨#[], #[.agg #[.int .i64 0, .int .i64 0, .int .i64 0, .int .i64 0, .int .i64 0, .int .i64 0, .int .i64 0, .int .i64 0]], []⟩ 8 (by kernel_rfl) (by kernel_rfl) (by kernel_rfl) (by kernel_rfl)) ?_
  intro W base args ds gs before hval0 hW hcnd _
  have hval : ∀ (j : Nat) t v, Try.f4.params[j]? = some t → args[j]? = some v → Value.okWide Try.prog W .any base t v := hval0
  have hW' := hW
  obtain ⟨p, q, hA0, hV, rfl, hfz, hnd⟩ := hW
  have hA : DataW.TrodAll enc Try.prog W 0 (fun _ => true) true Try.f4.params.toList args.toList ds p := hA0
  rw [Try.params4] at hA hval
  obtain ⟨v0, vs0, d0, ds0, p0, q0, hargs, rfl, rfl, h0, r0⟩ := trodAll_cons hA
  obtain ⟨rfl, rfl, rfl⟩ := trodAll_nil r0
  obtain rfl : args = #[v0] := by cases args; simp_all
  obtain ⟨rfl, rfl⟩ := trodVars_none hV
  obtain ⟨F0, fl0, w0⟩ := open_cf (hval 0 38 v0 rfl rfl) h0
  have lt0 : ∀ x ∈ p0, x.block < W.heap.size := fun x hx => by obtain ⟨fuel, hf⟩ := h0; exact DataW.trod_lt fuel _ _ _ hf x hx
  clear hA0 hval0
  simp only [List.append_nil] at hW'
  refine (configTells_walk F0 v0 w0 W fl0).mono fun e W' ⟨he, bel⟩ => ?_
  subst he
  exact ⟨_, rfl, _, _, _, [], _, [], hW', trodAll_mk1 (shut_bool Try.underlying4 _), (trodAll_cons_mk (Below.trod (by kernel_rfl) (by kernel_rfl) (of_decide_eq_true (by kernel_rfl)) h0 bel lt0) trodAll_mk0), rfl, bel.frame _, fun h => by cases h⟩
/-- THE STATEMENT. -/
theorem configTells_proved : Rows.ConfigTellsSaid :=
  OpenClaim.holds_of_wide 4 Try.f4 rfl rfl rfl rfl rfl rfl rfl ⟨rfl, rfl, rfl, rfl, rfl⟩ rfl rfl rfl rfl rfl (by kernel_rfl) Try.func4 (by kernel_rfl)
    (of_decide_eq_true (by kernel_rfl)) (by unfold Func.isWrapper; first | (rw [if_pos (by decide +kernel)]; kernel_rfl) | (rw [if_neg (by decide +kernel)]; exact ⟨rfl, rfl⟩))
    (fun os started H enc _ => configTells_lifted os started H enc)
#print axioms configTells_proved
end Go.Proofs.Ytpjafjnokgeifaa
