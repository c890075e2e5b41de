/- In a page of any config all slots fit, and two marks, and a record more; and each chunk has a place (config.Size, Chunks). No condition. -/
import Derived.Test.YtpjafjnokgeifaaPartB
import Derived.SizedLaws
import Derived.ProofKit
import Derived.OpenShut
import Derived.ShutString
import Derived.ChangeOld
import Derived.Below
namespace Go.Proofs.Ytpjafjnokgeifaa
open Go.RowKit
open Go.ChangeShapes Go.WideShapes Go.ChangeAt Go.RowKit
open Go.ChangeMaps (open_string shut_string)
set_option linter.unusedVariables false
set_option linter.unusedSimpArgs false
attribute [local irreducible] setN

theorem rem_v {P : Program} {t : TypeId} (x y z : Int) (h : x % y = z) (h0 : 0 ≤ x) (h1 : 0 < y) (w : World) : (binOp .rem t (.int .i64 x) (.int .i64 y)).run P w = .ok (.int .i64 z) w := by
  subst h
  have e : Int.tmod x y = x % y := Int.tmod_eq_emod_of_nonneg h0
  have hy : ¬ y = 0 := by omega
  have hl : x % y < y := Int.emod_lt_of_pos x h1
  simp [go_sem, hy, e]
noncomputable def fbOps : Array Oper := regionOf Try.f5 5
set_option maxRecDepth 100000 in
set_option maxHeartbeats 2000000 in
theorem fb_region (Q : Exit → Act → World → Prop) (a0 : Act) (w0 : World) (hsz : a0.tmps.size = 71) (g : Nat) (C : Cf) (hc : CellsN w0 g [.int .i64 C.nodes, .int .i64 C.slots, .int .i64 C.pages, .int .i64 C.room, .int .i64 C.chunk, .int .i64 C.buffer, .int .i64 C.queue, .int .i64 C.wear]) (e1 : a0.tmps.getD 1 undef = .pointer (some ⟨g, 0, none⟩)) (hok : okC C = false) (e3 : a0.tmps.getD 3 undef = .bool true)
    (hQ : ∀ (g : Nat → Value) (w : World), g 2 = .bool true → Below w0.heap.size w0 w → Q .normal { tmps := [11, 12, 13, 14, 15, 16, 17, 18, 19, 20, 21, 22, 23, 24, 25, 2].foldl (fun t s => t.setIfInBounds s (g s)) a0.tmps, defers := a0.defers } w) :
    (Code.region 5 fbOps true).wp Try.prog Q a0 w0 := by
  have z1 : sizeC C = 0 := by unfold sizeC; rw [hok]; rfl
  have z2 : chunksC C = 0 := by unfold chunksC; rw [hok]; rfl
  have z3 : roundsC C = 0 := by unfold roundsC; rw [hok]; rfl
  have z4 : workC C = 0 := by unfold workC; rw [hok]; rfl
  refine wp_region_flow mixed (by rw [hsz]; kernel_rfl) ?_
  rw [show fbOps.size = 16 by kernel_rfl]
  refine ⟨isVal (.bool true), step_move (.tmp 3) (by kernel_rfl) (wanted_none (by kernel_rfl)) (stable_val _) (knows_old 3 (.bool true) (by kernel_rfl) e3), ?_⟩
  refine ⟨isVal (.bool true), step_move (.tmp 11) (by kernel_rfl) (wanted_none (by kernel_rfl)) (stable_val _) (knows_new (V := isVal (.bool true)) 11 0 (by kernel_rfl) (by kernel_rfl) (by kernel_rfl)), ?_⟩
  refine ⟨isVal (.agg #[.int .i64 C.nodes, .int .i64 C.slots, .int .i64 C.pages, .int .i64 C.room, .int .i64 C.chunk, .int .i64 C.buffer, .int .i64 C.queue, .int .i64 C.wear]), step_loadN 38 (.tmp 1) (g) [.int .i64 C.nodes, .int .i64 C.slots, .int .i64 C.pages, .int .i64 C.room, .int .i64 C.chunk, .int .i64 C.buffer, .int .i64 C.queue, .int .i64 C.wear] (by kernel_rfl) (wanted_some 1 12 true (by kernel_rfl) (by kernel_rfl) (by kernel_rfl) (by kernel_rfl)) (knows_old 1 (.pointer (some ⟨g, 0, none⟩)) (by kernel_rfl) e1) size_cf agg_cf (hc), ?_⟩
  refine ⟨isVal (.int .i64 (sizeC C)), step_call 30 #[.tmp 13] #[38] #[.agg #[.int .i64 C.nodes, .int .i64 C.slots, .int .i64 C.pages, .int .i64 C.room, .int .i64 C.chunk, .int .i64 C.buffer, .int .i64 C.queue, .int .i64 C.wear]] (by kernel_rfl) (wanted_some 1 12 true (by kernel_rfl) (by kernel_rfl) (by kernel_rfl) (by kernel_rfl)) (stable_val _) (args1 (.tmp 13) (.agg #[.int .i64 C.nodes, .int .i64 C.slots, .int .i64 C.pages, .int .i64 C.room, .int .i64 C.chunk, .int .i64 C.buffer, .int .i64 C.queue, .int .i64 C.wear]) (knows_new (V := isVal (.agg #[.int .i64 C.nodes, .int .i64 C.slots, .int .i64 C.pages, .int .i64 C.room, .int .i64 C.chunk, .int .i64 C.buffer, .int .i64 C.queue, .int .i64 C.wear])) 13 2 (by kernel_rfl) (by kernel_rfl) (by kernel_rfl))) (enters_of Try.func30 (by kernel_rfl) rfl) (by intro w' hb; exact cv1 (csize_any C w')), ?_⟩
  refine ⟨isVal (.agg #[.int .i64 C.nodes, .int .i64 C.slots, .int .i64 C.pages, .int .i64 C.room, .int .i64 C.chunk, .int .i64 C.buffer, .int .i64 C.queue, .int .i64 C.wear]), step_loadN 38 (.tmp 1) (g) [.int .i64 C.nodes, .int .i64 C.slots, .int .i64 C.pages, .int .i64 C.room, .int .i64 C.chunk, .int .i64 C.buffer, .int .i64 C.queue, .int .i64 C.wear] (by kernel_rfl) (wanted_some 1 12 true (by kernel_rfl) (by kernel_rfl) (by kernel_rfl) (by kernel_rfl)) (knows_old 1 (.pointer (some ⟨g, 0, none⟩)) (by kernel_rfl) e1) size_cf agg_cf (hc), ?_⟩
  refine ⟨isVal (.int .i64 (chunksC C)), step_call 31 #[.tmp 15] #[38] #[.agg #[.int .i64 C.nodes, .int .i64 C.slots, .int .i64 C.pages, .int .i64 C.room, .int .i64 C.chunk, .int .i64 C.buffer, .int .i64 C.queue, .int .i64 C.wear]] (by kernel_rfl) (wanted_some 1 12 true (by kernel_rfl) (by kernel_rfl) (by kernel_rfl) (by kernel_rfl)) (stable_val _) (args1 (.tmp 15) (.agg #[.int .i64 C.nodes, .int .i64 C.slots, .int .i64 C.pages, .int .i64 C.room, .int .i64 C.chunk, .int .i64 C.buffer, .int .i64 C.queue, .int .i64 C.wear]) (knows_new (V := isVal (.agg #[.int .i64 C.nodes, .int .i64 C.slots, .int .i64 C.pages, .int .i64 C.room, .int .i64 C.chunk, .int .i64 C.buffer, .int .i64 C.queue, .int .i64 C.wear])) 15 4 (by kernel_rfl) (by kernel_rfl) (by kernel_rfl))) (enters_of Try.func31 (by kernel_rfl) rfl) (by intro w' hb; exact cv1 (cchunks_any C w')), ?_⟩
  refine ⟨isVal (.int .i64 0), step_bin .add 3 3 (.tmp 14) (.tmp 16) (.int .i64 (sizeC C)) (.int .i64 (chunksC C)) (.int .i64 0) (by kernel_rfl) (wanted_some 1 12 true (by kernel_rfl) (by kernel_rfl) (by kernel_rfl) (by kernel_rfl)) (knows_new (V := isVal (.int .i64 (sizeC C))) 14 3 (by kernel_rfl) (by kernel_rfl) (by kernel_rfl)) (knows_new (V := isVal (.int .i64 (chunksC C))) 16 5 (by kernel_rfl) (by kernel_rfl) (by kernel_rfl)) (fun _ => rfl) (add_v (sizeC C) (chunksC C) 0 (by omega) (by omega) (by omega)), ?_⟩
  refine ⟨isVal (.agg #[.int .i64 C.nodes, .int .i64 C.slots, .int .i64 C.pages, .int .i64 C.room, .int .i64 C.chunk, .int .i64 C.buffer, .int .i64 C.queue, .int .i64 C.wear]), step_loadN 38 (.tmp 1) (g) [.int .i64 C.nodes, .int .i64 C.slots, .int .i64 C.pages, .int .i64 C.room, .int .i64 C.chunk, .int .i64 C.buffer, .int .i64 C.queue, .int .i64 C.wear] (by kernel_rfl) (wanted_some 1 12 true (by kernel_rfl) (by kernel_rfl) (by kernel_rfl) (by kernel_rfl)) (knows_old 1 (.pointer (some ⟨g, 0, none⟩)) (by kernel_rfl) e1) size_cf agg_cf (hc), ?_⟩
  refine ⟨isVal (.int .i64 (roundsC C)), step_call 32 #[.tmp 18] #[38] #[.agg #[.int .i64 C.nodes, .int .i64 C.slots, .int .i64 C.pages, .int .i64 C.room, .int .i64 C.chunk, .int .i64 C.buffer, .int .i64 C.queue, .int .i64 C.wear]] (by kernel_rfl) (wanted_some 1 12 true (by kernel_rfl) (by kernel_rfl) (by kernel_rfl) (by kernel_rfl)) (stable_val _) (args1 (.tmp 18) (.agg #[.int .i64 C.nodes, .int .i64 C.slots, .int .i64 C.pages, .int .i64 C.room, .int .i64 C.chunk, .int .i64 C.buffer, .int .i64 C.queue, .int .i64 C.wear]) (knows_new (V := isVal (.agg #[.int .i64 C.nodes, .int .i64 C.slots, .int .i64 C.pages, .int .i64 C.room, .int .i64 C.chunk, .int .i64 C.buffer, .int .i64 C.queue, .int .i64 C.wear])) 18 7 (by kernel_rfl) (by kernel_rfl) (by kernel_rfl))) (enters_of Try.func32 (by kernel_rfl) rfl) (by intro w' hb; exact cv1 (crounds_any C w')), ?_⟩
  refine ⟨isVal (.int .i64 0), step_bin .add 3 3 (.tmp 17) (.tmp 19) (.int .i64 0) (.int .i64 (roundsC C)) (.int .i64 0) (by kernel_rfl) (wanted_some 1 12 true (by kernel_rfl) (by kernel_rfl) (by kernel_rfl) (by kernel_rfl)) (knows_new (V := isVal (.int .i64 0)) 17 6 (by kernel_rfl) (by kernel_rfl) (by kernel_rfl)) (knows_new (V := isVal (.int .i64 (roundsC C))) 19 8 (by kernel_rfl) (by kernel_rfl) (by kernel_rfl)) (fun _ => rfl) (add_v 0 (roundsC C) 0 (by omega) (by omega) (by omega)), ?_⟩
  refine ⟨isVal (.agg #[.int .i64 C.nodes, .int .i64 C.slots, .int .i64 C.pages, .int .i64 C.room, .int .i64 C.chunk, .int .i64 C.buffer, .int .i64 C.queue, .int .i64 C.wear]), step_loadN 38 (.tmp 1) (g) [.int .i64 C.nodes, .int .i64 C.slots, .int .i64 C.pages, .int .i64 C.room, .int .i64 C.chunk, .int .i64 C.buffer, .int .i64 C.queue, .int .i64 C.wear] (by kernel_rfl) (wanted_some 1 12 true (by kernel_rfl) (by kernel_rfl) (by kernel_rfl) (by kernel_rfl)) (knows_old 1 (.pointer (some ⟨g, 0, none⟩)) (by kernel_rfl) e1) size_cf agg_cf (hc), ?_⟩
  refine ⟨isVal (.int .i64 (workC C)), step_call 33 #[.tmp 21] #[38] #[.agg #[.int .i64 C.nodes, .int .i64 C.slots, .int .i64 C.pages, .int .i64 C.room, .int .i64 C.chunk, .int .i64 C.buffer, .int .i64 C.queue, .int .i64 C.wear]] (by kernel_rfl) (wanted_some 1 12 true (by kernel_rfl) (by kernel_rfl) (by kernel_rfl) (by kernel_rfl)) (stable_val _) (args1 (.tmp 21) (.agg #[.int .i64 C.nodes, .int .i64 C.slots, .int .i64 C.pages, .int .i64 C.room, .int .i64 C.chunk, .int .i64 C.buffer, .int .i64 C.queue, .int .i64 C.wear]) (knows_new (V := isVal (.agg #[.int .i64 C.nodes, .int .i64 C.slots, .int .i64 C.pages, .int .i64 C.room, .int .i64 C.chunk, .int .i64 C.buffer, .int .i64 C.queue, .int .i64 C.wear])) 21 10 (by kernel_rfl) (by kernel_rfl) (by kernel_rfl))) (enters_of Try.func33 (by kernel_rfl) rfl) (by intro w' hb; exact cv1 (cwork_any C w')), ?_⟩
  refine ⟨isVal (.int .i64 0), step_bin .add 3 3 (.tmp 20) (.tmp 22) (.int .i64 0) (.int .i64 (workC C)) (.int .i64 0) (by kernel_rfl) (wanted_some 1 12 true (by kernel_rfl) (by kernel_rfl) (by kernel_rfl) (by kernel_rfl)) (knows_new (V := isVal (.int .i64 0)) 20 9 (by kernel_rfl) (by kernel_rfl) (by kernel_rfl)) (knows_new (V := isVal (.int .i64 (workC C))) 22 11 (by kernel_rfl) (by kernel_rfl) (by kernel_rfl)) (fun _ => rfl) (add_v 0 (workC C) 0 (by omega) (by omega) (by omega)), ?_⟩
  refine ⟨isVal (.bool true), step_bin .eql 3 3 (.tmp 23) (.const (.int .i64 0)) (.int .i64 0) (.int .i64 0) (.bool true) (by kernel_rfl) (wanted_some 1 12 true (by kernel_rfl) (by kernel_rfl) (by kernel_rfl) (by kernel_rfl)) (knows_new (V := isVal (.int .i64 0)) 23 12 (by kernel_rfl) (by kernel_rfl) (by kernel_rfl)) (knows_const _) (fun _ => rfl) (eql_t _ _ (by omega)), ?_⟩
  refine ⟨isVal (.bool true), step_pick (.tmp 12) (.tmp 24) (.const (.bool false)) true (by kernel_rfl) (wanted_none (by kernel_rfl)) (stable_val _) (knows_new (V := isVal (.bool true)) 12 1 (by kernel_rfl) (by kernel_rfl) (by kernel_rfl)) (knows_new (V := isVal (.bool true)) 24 13 (by kernel_rfl) (by kernel_rfl) (by kernel_rfl)), ?_⟩
  refine ⟨isVal (.bool true), step_assign (.tmp 25) (by kernel_rfl) (wanted_none (by kernel_rfl)) (stable_val _) (knows_new (V := isVal (.bool true)) 25 14 (by kernel_rfl) (by kernel_rfl) (by kernel_rfl)), ?_⟩
  intro a w hkp hb hd
  rw [kept_of hkp [some 11, some 12, some 13, some 14, some 15, some 16, some 17, some 18, some 19, some 20, some 21, some 22, some 23, some 24, some 25, some 2] [11, 12, 13, 14, 15, 16, 17, 18, 19, 20, 21, 22, 23, 24, 25, 2] (by kernel_rfl) (by decide)]
  have d2 := fdone_of (hd 15 (by rw [show fbOps.size = 16 by kernel_rfl]; decide)) (t := 2) (V := isVal (.bool true)) (by kernel_rfl) (by kernel_rfl)
  exact hQ (fun s => a.tmps.getD s undef) w d2 hb
noncomputable def fgOps : Array Oper := regionOf Try.f5 7
set_option maxRecDepth 100000 in
set_option maxHeartbeats 2000000 in
theorem fg_region (Q : Exit → Act → World → Prop) (a0 : Act) (w0 : World) (hsz : a0.tmps.size = 71) (g : Nat) (C : Cf) (hc : CellsN w0 g [.int .i64 C.nodes, .int .i64 C.slots, .int .i64 C.pages, .int .i64 C.room, .int .i64 C.chunk, .int .i64 C.buffer, .int .i64 C.queue, .int .i64 C.wear]) (e1 : a0.tmps.getD 1 undef = .pointer (some ⟨g, 0, none⟩)) (hok : okC C = true) (e3 : a0.tmps.getD 3 undef = .bool true) (e4 : a0.tmps.getD 4 undef = .int .i64 92)
    (hQ : ∀ (g : Nat → Value) (w : World), g 2 = .bool true → Below w0.heap.size w0 w → Q .normal { tmps := [27, 28, 29, 30, 31, 32, 33, 34, 35, 36, 37, 38, 39, 40, 41, 42, 43, 44, 45, 46, 47, 48, 49, 50, 51, 52, 53, 54, 55, 56, 57, 58, 59, 60, 61, 62, 63, 64, 65, 66, 67, 68, 69, 70, 2].foldl (fun t s => t.setIfInBounds s (g s)) a0.tmps, defers := a0.defers } w) :
    (Code.region 7 fgOps true).wp Try.prog Q a0 w0 := by
  have hO := okC_spec.1 hok
  have h1 := hO.slots
  have h2 := hO.room
  have h3 := hO.chunk
  have h4 : sizeC C = C.room * 92 := by unfold sizeC; rw [if_pos hok]
  have h5 := chunksC_val hO
  have h6 := chunksC_range hO
  have h7 : chunksC C * C.chunk ≤ 8 * 4 := Int.le_trans (Int.mul_le_mul_of_nonneg_right h6.2 (by omega)) (Int.mul_le_mul_of_nonneg_left h3.2 (by omega))
  have h8 : 0 ≤ (chunksC C - 1) * C.chunk := Int.mul_nonneg (by omega) (by omega)
  refine wp_region_flow mixed (by rw [hsz]; kernel_rfl) ?_
  rw [show fgOps.size = 45 by kernel_rfl]
  refine ⟨isVal (.bool true), step_move (.tmp 3) (by kernel_rfl) (wanted_none (by kernel_rfl)) (stable_val _) (knows_old 3 (.bool true) (by kernel_rfl) e3), ?_⟩
  refine ⟨isVal (.bool true), step_move (.tmp 27) (by kernel_rfl) (wanted_none (by kernel_rfl)) (stable_val _) (knows_new (V := isVal (.bool true)) 27 0 (by kernel_rfl) (by kernel_rfl) (by kernel_rfl)), ?_⟩
  refine ⟨isVal (.agg #[.int .i64 C.nodes, .int .i64 C.slots, .int .i64 C.pages, .int .i64 C.room, .int .i64 C.chunk, .int .i64 C.buffer, .int .i64 C.queue, .int .i64 C.wear]), step_loadN 38 (.tmp 1) (g) [.int .i64 C.nodes, .int .i64 C.slots, .int .i64 C.pages, .int .i64 C.room, .int .i64 C.chunk, .int .i64 C.buffer, .int .i64 C.queue, .int .i64 C.wear] (by kernel_rfl) (wanted_some 1 28 true (by kernel_rfl) (by kernel_rfl) (by kernel_rfl) (by kernel_rfl)) (knows_old 1 (.pointer (some ⟨g, 0, none⟩)) (by kernel_rfl) e1) size_cf agg_cf (hc), ?_⟩
  refine ⟨isVal (.int .i64 (sizeC C)), step_call 30 #[.tmp 29] #[38] #[.agg #[.int .i64 C.nodes, .int .i64 C.slots, .int .i64 C.pages, .int .i64 C.room, .int .i64 C.chunk, .int .i64 C.buffer, .int .i64 C.queue, .int .i64 C.wear]] (by kernel_rfl) (wanted_some 1 28 true (by kernel_rfl) (by kernel_rfl) (by kernel_rfl) (by kernel_rfl)) (stable_val _) (args1 (.tmp 29) (.agg #[.int .i64 C.nodes, .int .i64 C.slots, .int .i64 C.pages, .int .i64 C.room, .int .i64 C.chunk, .int .i64 C.buffer, .int .i64 C.queue, .int .i64 C.wear]) (knows_new (V := isVal (.agg #[.int .i64 C.nodes, .int .i64 C.slots, .int .i64 C.pages, .int .i64 C.room, .int .i64 C.chunk, .int .i64 C.buffer, .int .i64 C.queue, .int .i64 C.wear])) 29 2 (by kernel_rfl) (by kernel_rfl) (by kernel_rfl))) (enters_of Try.func30 (by kernel_rfl) rfl) (by intro w' hb; exact cv1 (csize_any C w')), ?_⟩
  refine ⟨isVal (.int .i64 92), step_move (.tmp 4) (by kernel_rfl) (wanted_some 1 28 true (by kernel_rfl) (by kernel_rfl) (by kernel_rfl) (by kernel_rfl)) (stable_val _) (knows_old 4 (.int .i64 92) (by kernel_rfl) e4), ?_⟩
  refine ⟨isVal (.pointer (some ⟨g, 1, none⟩)), step_field 38 (.tmp 1) 1 ⟨g, 0, none⟩ ⟨g, 1, none⟩ (by kernel_rfl) (wanted_some 1 28 true (by kernel_rfl) (by kernel_rfl) (by kernel_rfl) (by kernel_rfl)) (knows_old 1 (.pointer (some ⟨g, 0, none⟩)) (by kernel_rfl) e1) (f_cf (g) 1 (by omega)), ?_⟩
  refine ⟨isVal (.int .i64 C.slots), step_read 3 (.tmp 32) ⟨g, 1, none⟩ (.int .i64 C.slots) (by kernel_rfl) (wanted_some 1 28 true (by kernel_rfl) (by kernel_rfl) (by kernel_rfl) (by kernel_rfl)) (knows_new (V := isVal (.pointer (some ⟨g, 1, none⟩))) 32 5 (by kernel_rfl) (by kernel_rfl) (by kernel_rfl)) ((hc).2 1 _ rfl) (hc).1 (agg_in), ?_⟩
  refine ⟨isVal (.int .i64 (C.slots + 3)), step_bin .add 3 3 (.tmp 33) (.const (.int .i64 3)) (.int .i64 C.slots) (.int .i64 3) (.int .i64 (C.slots + 3)) (by kernel_rfl) (wanted_some 1 28 true (by kernel_rfl) (by kernel_rfl) (by kernel_rfl) (by kernel_rfl)) (knows_new (V := isVal (.int .i64 C.slots)) 33 6 (by kernel_rfl) (by kernel_rfl) (by kernel_rfl)) (knows_const _) (fun _ => rfl) (add_v C.slots 3 (C.slots + 3) (by omega) (by omega) (by omega)), ?_⟩
  refine ⟨isVal (.int .i64 (92 * (C.slots + 3))), step_bin .mul 3 3 (.tmp 31) (.tmp 34) (.int .i64 92) (.int .i64 (C.slots + 3)) (.int .i64 (92 * (C.slots + 3))) (by kernel_rfl) (wanted_some 1 28 true (by kernel_rfl) (by kernel_rfl) (by kernel_rfl) (by kernel_rfl)) (knows_new (V := isVal (.int .i64 92)) 31 4 (by kernel_rfl) (by kernel_rfl) (by kernel_rfl)) (knows_new (V := isVal (.int .i64 (C.slots + 3))) 34 7 (by kernel_rfl) (by kernel_rfl) (by kernel_rfl)) (fun _ => rfl) (mul_v 92 (C.slots + 3) (92 * (C.slots + 3)) (by omega) (by omega) (by omega)), ?_⟩
  refine ⟨isVal (.bool true), step_bin .geq 3 3 (.tmp 30) (.tmp 35) (.int .i64 (sizeC C)) (.int .i64 (92 * (C.slots + 3))) (.bool true) (by kernel_rfl) (wanted_some 1 28 true (by kernel_rfl) (by kernel_rfl) (by kernel_rfl) (by kernel_rfl)) (knows_new (V := isVal (.int .i64 (sizeC C))) 30 3 (by kernel_rfl) (by kernel_rfl) (by kernel_rfl)) (knows_new (V := isVal (.int .i64 (92 * (C.slots + 3)))) 35 8 (by kernel_rfl) (by kernel_rfl) (by kernel_rfl)) (fun _ => rfl) (geq_t _ _ (by omega)), ?_⟩
  refine ⟨isVal (.bool true), step_pick (.tmp 28) (.tmp 36) (.const (.bool false)) true (by kernel_rfl) (wanted_none (by kernel_rfl)) (stable_val _) (knows_new (V := isVal (.bool true)) 28 1 (by kernel_rfl) (by kernel_rfl) (by kernel_rfl)) (knows_new (V := isVal (.bool true)) 36 9 (by kernel_rfl) (by kernel_rfl) (by kernel_rfl)), ?_⟩
  refine ⟨isVal (.bool true), step_move (.tmp 37) (by kernel_rfl) (wanted_none (by kernel_rfl)) (stable_val _) (knows_new (V := isVal (.bool true)) 37 10 (by kernel_rfl) (by kernel_rfl) (by kernel_rfl)), ?_⟩
  refine ⟨isVal (.agg #[.int .i64 C.nodes, .int .i64 C.slots, .int .i64 C.pages, .int .i64 C.room, .int .i64 C.chunk, .int .i64 C.buffer, .int .i64 C.queue, .int .i64 C.wear]), step_loadN 38 (.tmp 1) (g) [.int .i64 C.nodes, .int .i64 C.slots, .int .i64 C.pages, .int .i64 C.room, .int .i64 C.chunk, .int .i64 C.buffer, .int .i64 C.queue, .int .i64 C.wear] (by kernel_rfl) (wanted_some 11 38 true (by kernel_rfl) (by kernel_rfl) (by kernel_rfl) (by kernel_rfl)) (knows_old 1 (.pointer (some ⟨g, 0, none⟩)) (by kernel_rfl) e1) size_cf agg_cf (hc), ?_⟩
  refine ⟨isVal (.int .i64 (sizeC C)), step_call 30 #[.tmp 39] #[38] #[.agg #[.int .i64 C.nodes, .int .i64 C.slots, .int .i64 C.pages, .int .i64 C.room, .int .i64 C.chunk, .int .i64 C.buffer, .int .i64 C.queue, .int .i64 C.wear]] (by kernel_rfl) (wanted_some 11 38 true (by kernel_rfl) (by kernel_rfl) (by kernel_rfl) (by kernel_rfl)) (stable_val _) (args1 (.tmp 39) (.agg #[.int .i64 C.nodes, .int .i64 C.slots, .int .i64 C.pages, .int .i64 C.room, .int .i64 C.chunk, .int .i64 C.buffer, .int .i64 C.queue, .int .i64 C.wear]) (knows_new (V := isVal (.agg #[.int .i64 C.nodes, .int .i64 C.slots, .int .i64 C.pages, .int .i64 C.room, .int .i64 C.chunk, .int .i64 C.buffer, .int .i64 C.queue, .int .i64 C.wear])) 39 12 (by kernel_rfl) (by kernel_rfl) (by kernel_rfl))) (enters_of Try.func30 (by kernel_rfl) rfl) (by intro w' hb; exact cv1 (csize_any C w')), ?_⟩
  refine ⟨isVal (.int .i64 92), step_move (.tmp 4) (by kernel_rfl) (wanted_some 11 38 true (by kernel_rfl) (by kernel_rfl) (by kernel_rfl) (by kernel_rfl)) (stable_val _) (knows_old 4 (.int .i64 92) (by kernel_rfl) e4), ?_⟩
  refine ⟨isVal (.int .i64 0), step_bin .rem 3 3 (.tmp 40) (.tmp 41) (.int .i64 (sizeC C)) (.int .i64 92) (.int .i64 0) (by kernel_rfl) (wanted_some 11 38 true (by kernel_rfl) (by kernel_rfl) (by kernel_rfl) (by kernel_rfl)) (knows_new (V := isVal (.int .i64 (sizeC C))) 40 13 (by kernel_rfl) (by kernel_rfl) (by kernel_rfl)) (knows_new (V := isVal (.int .i64 92)) 41 14 (by kernel_rfl) (by kernel_rfl) (by kernel_rfl)) (fun _ => rfl) (rem_v (sizeC C) 92 0 (by omega) (by omega) (by omega)), ?_⟩
  refine ⟨isVal (.bool true), step_bin .eql 3 3 (.tmp 42) (.const (.int .i64 0)) (.int .i64 0) (.int .i64 0) (.bool true) (by kernel_rfl) (wanted_some 11 38 true (by kernel_rfl) (by kernel_rfl) (by kernel_rfl) (by kernel_rfl)) (knows_new (V := isVal (.int .i64 0)) 42 15 (by kernel_rfl) (by kernel_rfl) (by kernel_rfl)) (knows_const _) (fun _ => rfl) (eql_t _ _ (by omega)), ?_⟩
  refine ⟨isVal (.bool true), step_pick (.tmp 38) (.tmp 43) (.const (.bool false)) true (by kernel_rfl) (wanted_none (by kernel_rfl)) (stable_val _) (knows_new (V := isVal (.bool true)) 38 11 (by kernel_rfl) (by kernel_rfl) (by kernel_rfl)) (knows_new (V := isVal (.bool true)) 43 16 (by kernel_rfl) (by kernel_rfl) (by kernel_rfl)), ?_⟩
  refine ⟨isVal (.bool true), step_move (.tmp 44) (by kernel_rfl) (wanted_none (by kernel_rfl)) (stable_val _) (knows_new (V := isVal (.bool true)) 44 17 (by kernel_rfl) (by kernel_rfl) (by kernel_rfl)), ?_⟩
  refine ⟨isVal (.agg #[.int .i64 C.nodes, .int .i64 C.slots, .int .i64 C.pages, .int .i64 C.room, .int .i64 C.chunk, .int .i64 C.buffer, .int .i64 C.queue, .int .i64 C.wear]), step_loadN 38 (.tmp 1) (g) [.int .i64 C.nodes, .int .i64 C.slots, .int .i64 C.pages, .int .i64 C.room, .int .i64 C.chunk, .int .i64 C.buffer, .int .i64 C.queue, .int .i64 C.wear] (by kernel_rfl) (wanted_some 18 45 true (by kernel_rfl) (by kernel_rfl) (by kernel_rfl) (by kernel_rfl)) (knows_old 1 (.pointer (some ⟨g, 0, none⟩)) (by kernel_rfl) e1) size_cf agg_cf (hc), ?_⟩
  refine ⟨isVal (.int .i64 (sizeC C)), step_call 30 #[.tmp 46] #[38] #[.agg #[.int .i64 C.nodes, .int .i64 C.slots, .int .i64 C.pages, .int .i64 C.room, .int .i64 C.chunk, .int .i64 C.buffer, .int .i64 C.queue, .int .i64 C.wear]] (by kernel_rfl) (wanted_some 18 45 true (by kernel_rfl) (by kernel_rfl) (by kernel_rfl) (by kernel_rfl)) (stable_val _) (args1 (.tmp 46) (.agg #[.int .i64 C.nodes, .int .i64 C.slots, .int .i64 C.pages, .int .i64 C.room, .int .i64 C.chunk, .int .i64 C.buffer, .int .i64 C.queue, .int .i64 C.wear]) (knows_new (V := isVal (.agg #[.int .i64 C.nodes, .int .i64 C.slots, .int .i64 C.pages, .int .i64 C.room, .int .i64 C.chunk, .int .i64 C.buffer, .int .i64 C.queue, .int .i64 C.wear])) 46 19 (by kernel_rfl) (by kernel_rfl) (by kernel_rfl))) (enters_of Try.func30 (by kernel_rfl) rfl) (by intro w' hb; exact cv1 (csize_any C w')), ?_⟩
  refine ⟨isVal (.bool true), step_bin .leq 3 3 (.tmp 47) (.const (.int .i64 8192)) (.int .i64 (sizeC C)) (.int .i64 8192) (.bool true) (by kernel_rfl) (wanted_some 18 45 true (by kernel_rfl) (by kernel_rfl) (by kernel_rfl) (by kernel_rfl)) (knows_new (V := isVal (.int .i64 (sizeC C))) 47 20 (by kernel_rfl) (by kernel_rfl) (by kernel_rfl)) (knows_const _) (fun _ => rfl) (leq_t _ _ (by omega)), ?_⟩
  refine ⟨isVal (.bool true), step_pick (.tmp 45) (.tmp 48) (.const (.bool false)) true (by kernel_rfl) (wanted_none (by kernel_rfl)) (stable_val _) (knows_new (V := isVal (.bool true)) 45 18 (by kernel_rfl) (by kernel_rfl) (by kernel_rfl)) (knows_new (V := isVal (.bool true)) 48 21 (by kernel_rfl) (by kernel_rfl) (by kernel_rfl)), ?_⟩
  refine ⟨isVal (.bool true), step_move (.tmp 49) (by kernel_rfl) (wanted_none (by kernel_rfl)) (stable_val _) (knows_new (V := isVal (.bool true)) 49 22 (by kernel_rfl) (by kernel_rfl) (by kernel_rfl)), ?_⟩
  refine ⟨isVal (.agg #[.int .i64 C.nodes, .int .i64 C.slots, .int .i64 C.pages, .int .i64 C.room, .int .i64 C.chunk, .int .i64 C.buffer, .int .i64 C.queue, .int .i64 C.wear]), step_loadN 38 (.tmp 1) (g) [.int .i64 C.nodes, .int .i64 C.slots, .int .i64 C.pages, .int .i64 C.room, .int .i64 C.chunk, .int .i64 C.buffer, .int .i64 C.queue, .int .i64 C.wear] (by kernel_rfl) (wanted_some 23 50 true (by kernel_rfl) (by kernel_rfl) (by kernel_rfl) (by kernel_rfl)) (knows_old 1 (.pointer (some ⟨g, 0, none⟩)) (by kernel_rfl) e1) size_cf agg_cf (hc), ?_⟩
  refine ⟨isVal (.int .i64 (chunksC C)), step_call 31 #[.tmp 51] #[38] #[.agg #[.int .i64 C.nodes, .int .i64 C.slots, .int .i64 C.pages, .int .i64 C.room, .int .i64 C.chunk, .int .i64 C.buffer, .int .i64 C.queue, .int .i64 C.wear]] (by kernel_rfl) (wanted_some 23 50 true (by kernel_rfl) (by kernel_rfl) (by kernel_rfl) (by kernel_rfl)) (stable_val _) (args1 (.tmp 51) (.agg #[.int .i64 C.nodes, .int .i64 C.slots, .int .i64 C.pages, .int .i64 C.room, .int .i64 C.chunk, .int .i64 C.buffer, .int .i64 C.queue, .int .i64 C.wear]) (knows_new (V := isVal (.agg #[.int .i64 C.nodes, .int .i64 C.slots, .int .i64 C.pages, .int .i64 C.room, .int .i64 C.chunk, .int .i64 C.buffer, .int .i64 C.queue, .int .i64 C.wear])) 51 24 (by kernel_rfl) (by kernel_rfl) (by kernel_rfl))) (enters_of Try.func31 (by kernel_rfl) rfl) (by intro w' hb; exact cv1 (cchunks_any C w')), ?_⟩
  refine ⟨isVal (.pointer (some ⟨g, 4, none⟩)), step_field 38 (.tmp 1) 4 ⟨g, 0, none⟩ ⟨g, 4, none⟩ (by kernel_rfl) (wanted_some 23 50 true (by kernel_rfl) (by kernel_rfl) (by kernel_rfl) (by kernel_rfl)) (knows_old 1 (.pointer (some ⟨g, 0, none⟩)) (by kernel_rfl) e1) (f_cf (g) 4 (by omega)), ?_⟩
  refine ⟨isVal (.int .i64 C.chunk), step_read 3 (.tmp 53) ⟨g, 4, none⟩ (.int .i64 C.chunk) (by kernel_rfl) (wanted_some 23 50 true (by kernel_rfl) (by kernel_rfl) (by kernel_rfl) (by kernel_rfl)) (knows_new (V := isVal (.pointer (some ⟨g, 4, none⟩))) 53 26 (by kernel_rfl) (by kernel_rfl) (by kernel_rfl)) ((hc).2 4 _ rfl) (hc).1 (agg_in), ?_⟩
  refine ⟨isVal (.int .i64 (chunksC C * C.chunk)), step_bin .mul 3 3 (.tmp 52) (.tmp 54) (.int .i64 (chunksC C)) (.int .i64 C.chunk) (.int .i64 (chunksC C * C.chunk)) (by kernel_rfl) (wanted_some 23 50 true (by kernel_rfl) (by kernel_rfl) (by kernel_rfl) (by kernel_rfl)) (knows_new (V := isVal (.int .i64 (chunksC C))) 52 25 (by kernel_rfl) (by kernel_rfl) (by kernel_rfl)) (knows_new (V := isVal (.int .i64 C.chunk)) 54 27 (by kernel_rfl) (by kernel_rfl) (by kernel_rfl)) (fun _ => rfl) (mul_v (chunksC C) C.chunk (chunksC C * C.chunk) (by omega) (by omega) (by omega)), ?_⟩
  refine ⟨isVal (.pointer (some ⟨g, 1, none⟩)), step_field 38 (.tmp 1) 1 ⟨g, 0, none⟩ ⟨g, 1, none⟩ (by kernel_rfl) (wanted_some 23 50 true (by kernel_rfl) (by kernel_rfl) (by kernel_rfl) (by kernel_rfl)) (knows_old 1 (.pointer (some ⟨g, 0, none⟩)) (by kernel_rfl) e1) (f_cf (g) 1 (by omega)), ?_⟩
  refine ⟨isVal (.int .i64 C.slots), step_read 3 (.tmp 56) ⟨g, 1, none⟩ (.int .i64 C.slots) (by kernel_rfl) (wanted_some 23 50 true (by kernel_rfl) (by kernel_rfl) (by kernel_rfl) (by kernel_rfl)) (knows_new (V := isVal (.pointer (some ⟨g, 1, none⟩))) 56 29 (by kernel_rfl) (by kernel_rfl) (by kernel_rfl)) ((hc).2 1 _ rfl) (hc).1 (agg_in), ?_⟩
  refine ⟨isVal (.bool true), step_bin .geq 3 3 (.tmp 55) (.tmp 57) (.int .i64 (chunksC C * C.chunk)) (.int .i64 C.slots) (.bool true) (by kernel_rfl) (wanted_some 23 50 true (by kernel_rfl) (by kernel_rfl) (by kernel_rfl) (by kernel_rfl)) (knows_new (V := isVal (.int .i64 (chunksC C * C.chunk))) 55 28 (by kernel_rfl) (by kernel_rfl) (by kernel_rfl)) (knows_new (V := isVal (.int .i64 C.slots)) 57 30 (by kernel_rfl) (by kernel_rfl) (by kernel_rfl)) (fun _ => rfl) (geq_t _ _ (by omega)), ?_⟩
  refine ⟨isVal (.bool true), step_pick (.tmp 50) (.tmp 58) (.const (.bool false)) true (by kernel_rfl) (wanted_none (by kernel_rfl)) (stable_val _) (knows_new (V := isVal (.bool true)) 50 23 (by kernel_rfl) (by kernel_rfl) (by kernel_rfl)) (knows_new (V := isVal (.bool true)) 58 31 (by kernel_rfl) (by kernel_rfl) (by kernel_rfl)), ?_⟩
  refine ⟨isVal (.bool true), step_move (.tmp 59) (by kernel_rfl) (wanted_none (by kernel_rfl)) (stable_val _) (knows_new (V := isVal (.bool true)) 59 32 (by kernel_rfl) (by kernel_rfl) (by kernel_rfl)), ?_⟩
  refine ⟨isVal (.agg #[.int .i64 C.nodes, .int .i64 C.slots, .int .i64 C.pages, .int .i64 C.room, .int .i64 C.chunk, .int .i64 C.buffer, .int .i64 C.queue, .int .i64 C.wear]), step_loadN 38 (.tmp 1) (g) [.int .i64 C.nodes, .int .i64 C.slots, .int .i64 C.pages, .int .i64 C.room, .int .i64 C.chunk, .int .i64 C.buffer, .int .i64 C.queue, .int .i64 C.wear] (by kernel_rfl) (wanted_some 33 60 true (by kernel_rfl) (by kernel_rfl) (by kernel_rfl) (by kernel_rfl)) (knows_old 1 (.pointer (some ⟨g, 0, none⟩)) (by kernel_rfl) e1) size_cf agg_cf (hc), ?_⟩
  refine ⟨isVal (.int .i64 (chunksC C)), step_call 31 #[.tmp 61] #[38] #[.agg #[.int .i64 C.nodes, .int .i64 C.slots, .int .i64 C.pages, .int .i64 C.room, .int .i64 C.chunk, .int .i64 C.buffer, .int .i64 C.queue, .int .i64 C.wear]] (by kernel_rfl) (wanted_some 33 60 true (by kernel_rfl) (by kernel_rfl) (by kernel_rfl) (by kernel_rfl)) (stable_val _) (args1 (.tmp 61) (.agg #[.int .i64 C.nodes, .int .i64 C.slots, .int .i64 C.pages, .int .i64 C.room, .int .i64 C.chunk, .int .i64 C.buffer, .int .i64 C.queue, .int .i64 C.wear]) (knows_new (V := isVal (.agg #[.int .i64 C.nodes, .int .i64 C.slots, .int .i64 C.pages, .int .i64 C.room, .int .i64 C.chunk, .int .i64 C.buffer, .int .i64 C.queue, .int .i64 C.wear])) 61 34 (by kernel_rfl) (by kernel_rfl) (by kernel_rfl))) (enters_of Try.func31 (by kernel_rfl) rfl) (by intro w' hb; exact cv1 (cchunks_any C w')), ?_⟩
  refine ⟨isVal (.int .i64 ((chunksC C) - 1)), step_bin .sub 3 3 (.tmp 62) (.const (.int .i64 1)) (.int .i64 (chunksC C)) (.int .i64 1) (.int .i64 ((chunksC C) - 1)) (by kernel_rfl) (wanted_some 33 60 true (by kernel_rfl) (by kernel_rfl) (by kernel_rfl) (by kernel_rfl)) (knows_new (V := isVal (.int .i64 (chunksC C))) 62 35 (by kernel_rfl) (by kernel_rfl) (by kernel_rfl)) (knows_const _) (fun _ => rfl) (sub_v (chunksC C) 1 ((chunksC C) - 1) (by omega) (by omega) (by omega)), ?_⟩
  refine ⟨isVal (.pointer (some ⟨g, 4, none⟩)), step_field 38 (.tmp 1) 4 ⟨g, 0, none⟩ ⟨g, 4, none⟩ (by kernel_rfl) (wanted_some 33 60 true (by kernel_rfl) (by kernel_rfl) (by kernel_rfl) (by kernel_rfl)) (knows_old 1 (.pointer (some ⟨g, 0, none⟩)) (by kernel_rfl) e1) (f_cf (g) 4 (by omega)), ?_⟩
  refine ⟨isVal (.int .i64 C.chunk), step_read 3 (.tmp 64) ⟨g, 4, none⟩ (.int .i64 C.chunk) (by kernel_rfl) (wanted_some 33 60 true (by kernel_rfl) (by kernel_rfl) (by kernel_rfl) (by kernel_rfl)) (knows_new (V := isVal (.pointer (some ⟨g, 4, none⟩))) 64 37 (by kernel_rfl) (by kernel_rfl) (by kernel_rfl)) ((hc).2 4 _ rfl) (hc).1 (agg_in), ?_⟩
  refine ⟨isVal (.int .i64 ((chunksC C - 1) * C.chunk)), step_bin .mul 3 3 (.tmp 63) (.tmp 65) (.int .i64 ((chunksC C) - 1)) (.int .i64 C.chunk) (.int .i64 ((chunksC C - 1) * C.chunk)) (by kernel_rfl) (wanted_some 33 60 true (by kernel_rfl) (by kernel_rfl) (by kernel_rfl) (by kernel_rfl)) (knows_new (V := isVal (.int .i64 ((chunksC C) - 1))) 63 36 (by kernel_rfl) (by kernel_rfl) (by kernel_rfl)) (knows_new (V := isVal (.int .i64 C.chunk)) 65 38 (by kernel_rfl) (by kernel_rfl) (by kernel_rfl)) (fun _ => rfl) (mul_v ((chunksC C) - 1) C.chunk ((chunksC C - 1) * C.chunk) (by omega) (by omega) (by omega)), ?_⟩
  refine ⟨isVal (.pointer (some ⟨g, 1, none⟩)), step_field 38 (.tmp 1) 1 ⟨g, 0, none⟩ ⟨g, 1, none⟩ (by kernel_rfl) (wanted_some 33 60 true (by kernel_rfl) (by kernel_rfl) (by kernel_rfl) (by kernel_rfl)) (knows_old 1 (.pointer (some ⟨g, 0, none⟩)) (by kernel_rfl) e1) (f_cf (g) 1 (by omega)), ?_⟩
  refine ⟨isVal (.int .i64 C.slots), step_read 3 (.tmp 67) ⟨g, 1, none⟩ (.int .i64 C.slots) (by kernel_rfl) (wanted_some 33 60 true (by kernel_rfl) (by kernel_rfl) (by kernel_rfl) (by kernel_rfl)) (knows_new (V := isVal (.pointer (some ⟨g, 1, none⟩))) 67 40 (by kernel_rfl) (by kernel_rfl) (by kernel_rfl)) ((hc).2 1 _ rfl) (hc).1 (agg_in), ?_⟩
  refine ⟨isVal (.bool true), step_bin .lss 3 3 (.tmp 66) (.tmp 68) (.int .i64 ((chunksC C - 1) * C.chunk)) (.int .i64 C.slots) (.bool true) (by kernel_rfl) (wanted_some 33 60 true (by kernel_rfl) (by kernel_rfl) (by kernel_rfl) (by kernel_rfl)) (knows_new (V := isVal (.int .i64 ((chunksC C - 1) * C.chunk))) 66 39 (by kernel_rfl) (by kernel_rfl) (by kernel_rfl)) (knows_new (V := isVal (.int .i64 C.slots)) 68 41 (by kernel_rfl) (by kernel_rfl) (by kernel_rfl)) (fun _ => rfl) (lss_t _ _ (by omega)), ?_⟩
  refine ⟨isVal (.bool true), step_pick (.tmp 60) (.tmp 69) (.const (.bool false)) true (by kernel_rfl) (wanted_none (by kernel_rfl)) (stable_val _) (knows_new (V := isVal (.bool true)) 60 33 (by kernel_rfl) (by kernel_rfl) (by kernel_rfl)) (knows_new (V := isVal (.bool true)) 69 42 (by kernel_rfl) (by kernel_rfl) (by kernel_rfl)), ?_⟩
  refine ⟨isVal (.bool true), step_assign (.tmp 70) (by kernel_rfl) (wanted_none (by kernel_rfl)) (stable_val _) (knows_new (V := isVal (.bool true)) 70 43 (by kernel_rfl) (by kernel_rfl) (by kernel_rfl)), ?_⟩
  intro a w hkp hb hd
  rw [kept_of hkp [some 27, some 28, some 29, some 30, some 31, some 32, some 33, some 34, some 35, some 36, some 37, some 38, some 39, some 40, some 41, some 42, some 43, some 44, some 45, some 46, some 47, some 48, some 49, some 50, some 51, some 52, some 53, some 54, some 55, some 56, some 57, some 58, some 59, some 60, some 61, some 62, some 63, some 64, some 65, some 66, some 67, some 68, some 69, some 70, some 2] [27, 28, 29, 30, 31, 32, 33, 34, 35, 36, 37, 38, 39, 40, 41, 42, 43, 44, 45, 46, 47, 48, 49, 50, 51, 52, 53, 54, 55, 56, 57, 58, 59, 60, 61, 62, 63, 64, 65, 66, 67, 68, 69, 70, 2] (by kernel_rfl) (by decide)]
  have d2 := fdone_of (hd 44 (by rw [show fgOps.size = 45 by kernel_rfl]; decide)) (t := 2) (V := isVal (.bool true)) (by kernel_rfl) (by kernel_rfl)
  exact hQ (fun s => a.tmps.getD s undef) w d2 hb
set_option maxRecDepth 100000 in
set_option maxHeartbeats 2000000 in
theorem configFits_walk (C : Cf) (v0 : Value) (w0 : CameC C) (w : World) (fl0 : isCf C v0 w) :
    Calls Try.prog 5 #[v0] w fun e w' => e = .returned (.bool true) ∧ Below w.heap.size w w' := by
  unfold isCf at fl0
  subst fl0
  obtain ⟨hB, HC⟩ := cbox w C w.heap.size rfl
  obtain ⟨hn, hn2⟩ : w.heap.size ≤ w.heap.size ∧ True := ⟨Nat.le_refl _, trivial⟩
  clear hn hn2
  go_enter Try.func5, Try.ntmps5
  go_wp2_with fail
  generalize w.alloc (.cells #[.int .i64 C.nodes, .int .i64 C.slots, .int .i64 C.pages, .int .i64 C.room, .int .i64 C.chunk, .int .i64 C.buffer, .int .i64 C.queue, .int .i64 C.wear] 38) = W0 at *
  refine (cfworks_any W0).mono ?_
  rintro e W1 ⟨rfl, hb⟩
  replace hB := Kept.mk (hB.out.trans (hb.mono hB.out.size))
  replace HC := Kept.mk (HC.out.keep hb)
  clear hb
  have kc0 := HC.out.cells.2 0 _ rfl
  have kc1 := HC.out.cells.2 1 _ rfl
  have kc2 := HC.out.cells.2 2 _ rfl
  have kc3 := HC.out.cells.2 3 _ rfl
  have kc4 := HC.out.cells.2 4 _ rfl
  have kc5 := HC.out.cells.2 5 _ rfl
  have kc6 := HC.out.cells.2 6 _ rfl
  have kc7 := HC.out.cells.2 7 _ rfl
  go_wp2_with fail
  clear kc0 kc1 kc2 kc3 kc4 kc5 kc6 kc7
  cases hok : okC C with
  | false =>
    have HOK := Kept.mk hok
    clear hok
    refine (gc_check C 1 W1 (chkC_no HOK.out)).mono ?_
    rintro e W2 ⟨rfl, hb⟩
    replace hB := Kept.mk (hB.out.trans (hb.mono hB.out.size))
    replace HC := Kept.mk (HC.out.keep hb)
    clear hb
    go_wp2_with fail
    refine fb_region _ _ _ rfl w.heap.size C HC.out.cells rfl HOK.out rfl ?_
    intro f9 W9 d2 hb9
    simp only [List.foldl_cons, List.foldl_nil, d2]
    generalize f9 11 = y11
    generalize f9 12 = y12
    generalize f9 13 = y13
    generalize f9 14 = y14
    generalize f9 15 = y15
    generalize f9 16 = y16
    generalize f9 17 = y17
    generalize f9 18 = y18
    generalize f9 19 = y19
    generalize f9 20 = y20
    generalize f9 21 = y21
    generalize f9 22 = y22
    generalize f9 23 = y23
    generalize f9 24 = y24
    generalize f9 25 = y25
    clear d2
    simp only [List.setIfInBounds_toArray, List.set_cons_succ, List.set_cons_zero]
    replace hB := Kept.mk (hB.out.trans (hb9.mono hB.out.size))
    replace HC := Kept.mk (HC.out.keep hb9)
    clear hb9
    go_wp2
    go_ret
    exact ⟨rfl, hB.out⟩
  | true =>
    have HOK := Kept.mk hok
    clear hok
    refine (gc_check C 0 W1 (chkC_yes HOK.out)).mono ?_
    rintro e W2 ⟨rfl, hb⟩
    replace hB := Kept.mk (hB.out.trans (hb.mono hB.out.size))
    replace HC := Kept.mk (HC.out.keep hb)
    clear hb
    go_wp2_with fail
    refine (rsize_42 W2).mono ?_
    rintro e W3 ⟨rfl, hb⟩
    replace hB := Kept.mk (hB.out.trans (hb.mono hB.out.size))
    replace HC := Kept.mk (HC.out.keep hb)
    clear hb
    go_wp2_with fail
    refine fg_region _ _ _ rfl w.heap.size C HC.out.cells rfl HOK.out rfl rfl ?_
    intro f9 W9 d2 hb9
    simp only [List.foldl_cons, List.foldl_nil, d2]
    generalize f9 27 = y27
    generalize f9 28 = y28
    generalize f9 29 = y29
    generalize f9 30 = y30
    generalize f9 31 = y31
    generalize f9 32 = y32
    generalize f9 33 = y33
    generalize f9 34 = y34
    generalize f9 35 = y35
    generalize f9 36 = y36
    generalize f9 37 = y37
    generalize f9 38 = y38
    generalize f9 39 = y39
    generalize f9 40 = y40
    generalize f9 41 = y41
    generalize f9 42 = y42
    generalize f9 43 = y43
    generalize f9 44 = y44
    generalize f9 45 = y45
    generalize f9 46 = y46
    generalize f9 47 = y47
    generalize f9 48 = y48
    generalize f9 49 = y49
    generalize f9 50 = y50
    generalize f9 51 = y51
    generalize f9 52 = y52
    generalize f9 53 = y53
    generalize f9 54 = y54
    generalize f9 55 = y55
    generalize f9 56 = y56
    generalize f9 57 = y57
    generalize f9 58 = y58
    generalize f9 59 = y59
    generalize f9 60 = y60
    generalize f9 61 = y61
    generalize f9 62 = y62
    generalize f9 63 = y63
    generalize f9 64 = y64
    generalize f9 65 = y65
    generalize f9 66 = y66
    generalize f9 67 = y67
    generalize f9 68 = y68
    generalize f9 69 = y69
    generalize f9 70 = y70
    clear d2
    simp only [List.setIfInBounds_toArray, List.set_cons_succ, List.set_cons_zero]
    replace hB := Kept.mk (hB.out.trans (hb9.mono hB.out.size))
    replace HC := Kept.mk (HC.out.keep hb9)
    clear hb9
    go_wp2
    go_ret
    exact ⟨rfl, hB.out⟩
set_option maxRecDepth 100000 in
theorem configFits_lifted (os : Os) (started : os.Started) (H : Type) (enc : TypeId × Value → H) :
    ReturnsInHanded {} Try.checked os 5 .any (Rows.configFitsSpec.pre6 enc Try.prog Try.f5 Rows.configFitsRow.domain false) (Rows.configFitsSpec.post enc Try.prog Try.f5 false true false false) := by
  refine returnsInHanded_of_change (C := Try.checked) (by kernel_rfl : ownKnob Try.prog.godebug = none) started (by kernel_rfl) Try.func5
    (ChangeSpec.witness6 (enc := enc) (C := Try.checked) false ⟨#[], #[.agg #[.int .i64 0, .int .i64 0, .int .i64 0, .int .i64 0, .int .i64 0, .int .i64 0, .int .i64 0, .int .i64 0]], []⟩ 8 (by kernel_rfl) (by kernel_rfl) (by kernel_rfl) (by kernel_rfl)) ?_
  intro W base args ds gs before hval0 hW hcnd _
  have hval : ∀ (j : Nat) t v, Try.f5.params[j]? = some t → args[j]? = some v → Value.okWide Try.prog W .any base t v := hval0
  have hW' := hW
  obtain ⟨p, q, hA0, hV, rfl, hfz, hnd⟩ := hW
  have hA : DataW.TrodAll enc Try.prog W 0 (fun _ => true) true Try.f5.params.toList args.toList ds p := hA0
  rw [Try.params5] at hA hval
  obtain ⟨v0, vs0, d0, ds0, p0, q0, hargs, rfl, rfl, h0, r0⟩ := trodAll_cons hA
  obtain ⟨rfl, rfl, rfl⟩ := trodAll_nil r0
  obtain rfl : args = #[v0] := by cases args; simp_all
  obtain ⟨rfl, rfl⟩ := trodVars_none hV
  obtain ⟨F0, fl0, w0⟩ := open_cf (hval 0 38 v0 rfl rfl) h0
  have lt0 : ∀ x ∈ p0, x.block < W.heap.size := fun x hx => by obtain ⟨fuel, hf⟩ := h0; exact DataW.trod_lt fuel _ _ _ hf x hx
  clear hA0 hval0
  simp only [List.append_nil] at hW'
  refine (configFits_walk F0 v0 w0 W fl0).mono fun e W' ⟨he, bel⟩ => ?_
  subst he
  exact ⟨_, rfl, _, _, _, [], _, [], hW', trodAll_mk1 (shut_bool Try.underlying4 _), (trodAll_cons_mk (Below.trod (by kernel_rfl) (by kernel_rfl) (of_decide_eq_true (by kernel_rfl)) h0 bel lt0) trodAll_mk0), rfl, bel.frame _, fun h => by cases h⟩
/-- THE STATEMENT. -/
theorem configFits_proved : Rows.ConfigFitsSaid :=
  OpenClaim.holds_of_wide 5 Try.f5 rfl rfl rfl rfl rfl rfl rfl ⟨rfl, rfl, rfl, rfl, rfl⟩ rfl rfl rfl rfl rfl (by kernel_rfl) Try.func5 (by kernel_rfl)
    (of_decide_eq_true (by kernel_rfl)) (by unfold Func.isWrapper; first | (rw [if_pos (by decide +kernel)]; kernel_rfl) | (rw [if_neg (by decide +kernel)]; exact ⟨rfl, rfl⟩))
    (fun os started H enc _ => configFits_lifted os started H enc)
#print axioms configFits_proved
end Go.Proofs.Ytpjafjnokgeifaa
