/- A larger chunk needs no more rounds, a node more needs more, and more slots need no fewer (config.Check, Rounds, Work). No condition. -/
import Derived.Test.YtpjafjnokgeifaaPartB
import Derived.SizedLaws
import Derived.ProofKit
import Derived.OpenShut
import Derived.ShutString
import Derived.ChangeOld
import Derived.Below
namespace Go.Proofs.Ytpjafjnokgeifaa
open Go.RowKit
open Go.ChangeShapes Go.WideShapes Go.ChangeAt Go.RowKit
open Go.ChangeMaps (open_string shut_string)
set_option linter.unusedVariables false
set_option linter.unusedSimpArgs false
attribute [local irreducible] setN

theorem gc_rounds (C : Cf) (n : Int) (w : World) (h : roundsC C = n) : Calls Try.prog 32 #[(.agg #[.int .i64 C.nodes, .int .i64 C.slots, .int .i64 C.pages, .int .i64 C.room, .int .i64 C.chunk, .int .i64 C.buffer, .int .i64 C.queue, .int .i64 C.wear])] w fun e w' => e = .returned (.int .i64 n) ∧ Below w.heap.size w w' := by subst h; exact crounds_any C w
theorem gc_work (C : Cf) (n : Int) (w : World) (h : workC C = n) : Calls Try.prog 33 #[(.agg #[.int .i64 C.nodes, .int .i64 C.slots, .int .i64 C.pages, .int .i64 C.room, .int .i64 C.chunk, .int .i64 C.buffer, .int .i64 C.queue, .int .i64 C.wear])] w fun e w' => e = .returned (.int .i64 n) ∧ Below w.heap.size w w' := by subst h; exact cwork_any C w
theorem chunks_val2 {C : Cf} (h : okC C = true) : chunksC C = (C.slots + C.chunk - 1) / C.chunk := by unfold chunksC; rw [if_pos h]
theorem rounds_val {C : Cf} (h : okC C = true) : roundsC C = C.nodes * (chunksC C + 1) := by unfold roundsC; rw [if_pos h]
theorem more_d {C : Cf} (h : okC C = true) (k : okC ⟨C.nodes, C.slots, C.pages, C.room, C.chunk + 1, C.buffer, C.queue, C.wear⟩ = true) : roundsC ⟨C.nodes, C.slots, C.pages, C.room, C.chunk + 1, C.buffer, C.queue, C.wear⟩ ≤ roundsC C := by
  have hO := okC_spec.1 h
  have h1 := hO.nodes
  have h2 := hO.slots
  have h3 := hO.chunk
  have hk := (okC_spec.1 k).chunk
  rw [rounds_val h, rounds_val k, chunks_val2 h, chunks_val2 k]
  refine Int.mul_le_mul_of_nonneg_left ?_ (show 0 ≤ C.nodes by omega)
  have hk2 : 1 ≤ C.chunk + 1 ∧ C.chunk + 1 ≤ 4 := hk
  show (C.slots + (C.chunk + 1) - 1) / (C.chunk + 1) + 1 ≤ (C.slots + C.chunk - 1) / C.chunk + 1
  clear hk k h
  generalize C.chunk = c at *
  have : c = 1 ∨ c = 2 ∨ c = 3 := by omega
  rcases this with rfl | rfl | rfl <;> simp <;> omega
theorem more_e {C : Cf} (h : okC C = true) (k : okC ⟨C.nodes + 1, C.slots, C.pages, C.room, C.chunk, C.buffer, C.queue, C.wear⟩ = true) : roundsC C < roundsC ⟨C.nodes + 1, C.slots, C.pages, C.room, C.chunk, C.buffer, C.queue, C.wear⟩ := by
  have h6 := chunksC_range (okC_spec.1 h)
  have e : chunksC ⟨C.nodes + 1, C.slots, C.pages, C.room, C.chunk, C.buffer, C.queue, C.wear⟩ = chunksC C := by rw [chunks_val2 h, chunks_val2 k]
  rw [rounds_val h, rounds_val k, e, Int.add_mul]
  omega
theorem more_f {C : Cf} (h : okC C = true) (k : okC ⟨C.nodes, C.slots + 1, C.pages, C.room, C.chunk, C.buffer, C.queue, C.wear⟩ = true) : roundsC C ≤ roundsC ⟨C.nodes, C.slots + 1, C.pages, C.room, C.chunk, C.buffer, C.queue, C.wear⟩ ∧ workC C ≤ workC ⟨C.nodes, C.slots + 1, C.pages, C.room, C.chunk, C.buffer, C.queue, C.wear⟩ := by
  have hO := okC_spec.1 h
  have h1 := hO.nodes
  have h3 := hO.chunk
  constructor
  · rw [rounds_val h, rounds_val k, chunks_val2 h, chunks_val2 k]
    refine Int.mul_le_mul_of_nonneg_left ?_ (show 0 ≤ C.nodes by omega)
    show (C.slots + C.chunk - 1) / C.chunk + 1 ≤ ((C.slots + 1) + C.chunk - 1) / C.chunk + 1
    clear k h
    generalize C.chunk = c at *
    have : c = 1 ∨ c = 2 ∨ c = 3 ∨ c = 4 := by omega
    rcases this with rfl | rfl | rfl | rfl <;> simp <;> omega
  · unfold workC
    rw [if_pos h, if_pos k]
    simp
    omega
noncomputable def mryyyOps : Array Oper := regionOf Try.f6 12
set_option maxRecDepth 100000 in
set_option maxHeartbeats 2000000 in
theorem mryyy_region (Q : Exit → Act → World → Prop) (a0 : Act) (w0 : World) (hsz : a0.tmps.size = 73) (g : Nat) (C : Cf) (hc : CellsN w0 g [.int .i64 C.nodes, .int .i64 C.slots, .int .i64 C.pages, .int .i64 C.room, .int .i64 C.chunk, .int .i64 C.buffer, .int .i64 C.queue, .int .i64 C.wear]) (e1 : a0.tmps.getD 1 undef = .pointer (some ⟨g, 0, none⟩)) (gd ge gf : Nat) (hd : CellsN w0 gd [.int .i64 C.nodes, .int .i64 C.slots, .int .i64 C.pages, .int .i64 C.room, .int .i64 (C.chunk + 1), .int .i64 C.buffer, .int .i64 C.queue, .int .i64 C.wear]) (he : CellsN w0 ge [.int .i64 (C.nodes + 1), .int .i64 C.slots, .int .i64 C.pages, .int .i64 C.room, .int .i64 C.chunk, .int .i64 C.buffer, .int .i64 C.queue, .int .i64 C.wear]) (hf : CellsN w0 gf [.int .i64 C.nodes, .int .i64 (C.slots + 1), .int .i64 C.pages, .int .i64 C.room, .int .i64 C.chunk, .int .i64 C.buffer, .int .i64 C.queue, .int .i64 C.wear]) (kd : okC ⟨C.nodes, C.slots, C.pages, C.room, C.chunk + 1, C.buffer, C.queue, C.wear⟩ = true) (ke : okC ⟨C.nodes + 1, C.slots, C.pages, C.room, C.chunk, C.buffer, C.queue, C.wear⟩ = true) (kf : okC ⟨C.nodes, C.slots + 1, C.pages, C.room, C.chunk, C.buffer, C.queue, C.wear⟩ = true) (rc rd re rf wc wf : Int) (hrc : roundsC C = rc) (hrd : roundsC ⟨C.nodes, C.slots, C.pages, C.room, C.chunk + 1, C.buffer, C.queue, C.wear⟩ = rd) (hre : roundsC ⟨C.nodes + 1, C.slots, C.pages, C.room, C.chunk, C.buffer, C.queue, C.wear⟩ = re) (hrf : roundsC ⟨C.nodes, C.slots + 1, C.pages, C.room, C.chunk, C.buffer, C.queue, C.wear⟩ = rf) (hwc : workC C = wc) (hwf : workC ⟨C.nodes, C.slots + 1, C.pages, C.room, C.chunk, C.buffer, C.queue, C.wear⟩ = wf) (q1 : rd ≤ rc) (q2 : rc < re) (q3 : rc ≤ rf ∧ wc ≤ wf) (e3 : a0.tmps.getD 3 undef = .bool true) (e4 : a0.tmps.getD 4 undef = .pointer (some ⟨gd, 0, none⟩)) (e5 : a0.tmps.getD 5 undef = .pointer (some ⟨ge, 0, none⟩)) (e6 : a0.tmps.getD 6 undef = .pointer (some ⟨gf, 0, none⟩))
    (hQ : ∀ (g : Nat → Value) (w : World), g 2 = .bool true → Below w0.heap.size w0 w → Q .normal { tmps := [29, 30, 31, 32, 33, 34, 35, 36, 37, 38, 39, 40, 41, 42, 43, 44, 45, 46, 47, 48, 49, 50, 51, 52, 53, 54, 55, 56, 57, 58, 59, 60, 61, 62, 63, 64, 65, 66, 67, 68, 69, 70, 71, 72, 2].foldl (fun t s => t.setIfInBounds s (g s)) a0.tmps, defers := a0.defers } w) :
    (Code.region 12 mryyyOps true).wp Try.prog Q a0 w0 := by
  refine wp_region_flow mixed (by rw [hsz]; kernel_rfl) ?_
  rw [show mryyyOps.size = 45 by kernel_rfl]
  refine ⟨isVal (.bool true), step_move (.tmp 3) (by kernel_rfl) (wanted_none (by kernel_rfl)) (stable_val _) (knows_old 3 (.bool true) (by kernel_rfl) e3), ?_⟩
  refine ⟨isVal (.bool true), step_move (.tmp 29) (by kernel_rfl) (wanted_none (by kernel_rfl)) (stable_val _) (knows_new (V := isVal (.bool true)) 29 0 (by kernel_rfl) (by kernel_rfl) (by kernel_rfl)), ?_⟩
  refine ⟨isVal (.agg #[.int .i64 C.nodes, .int .i64 C.slots, .int .i64 C.pages, .int .i64 C.room, .int .i64 (C.chunk + 1), .int .i64 C.buffer, .int .i64 C.queue, .int .i64 C.wear]), step_loadN 38 (.tmp 4) (gd) [.int .i64 C.nodes, .int .i64 C.slots, .int .i64 C.pages, .int .i64 C.room, .int .i64 (C.chunk + 1), .int .i64 C.buffer, .int .i64 C.queue, .int .i64 C.wear] (by kernel_rfl) (wanted_some 1 30 true (by kernel_rfl) (by kernel_rfl) (by kernel_rfl) (by kernel_rfl)) (knows_old 4 (.pointer (some ⟨gd, 0, none⟩)) (by kernel_rfl) e4) size_cf agg_cf (hd), ?_⟩
  refine ⟨isVal (.int .i64 0), step_call 29 #[.tmp 31] #[38] #[.agg #[.int .i64 C.nodes, .int .i64 C.slots, .int .i64 C.pages, .int .i64 C.room, .int .i64 (C.chunk + 1), .int .i64 C.buffer, .int .i64 C.queue, .int .i64 C.wear]] (by kernel_rfl) (wanted_some 1 30 true (by kernel_rfl) (by kernel_rfl) (by kernel_rfl) (by kernel_rfl)) (stable_val _) (args1 (.tmp 31) (.agg #[.int .i64 C.nodes, .int .i64 C.slots, .int .i64 C.pages, .int .i64 C.room, .int .i64 (C.chunk + 1), .int .i64 C.buffer, .int .i64 C.queue, .int .i64 C.wear]) (knows_new (V := isVal (.agg #[.int .i64 C.nodes, .int .i64 C.slots, .int .i64 C.pages, .int .i64 C.room, .int .i64 (C.chunk + 1), .int .i64 C.buffer, .int .i64 C.queue, .int .i64 C.wear])) 31 2 (by kernel_rfl) (by kernel_rfl) (by kernel_rfl))) (enters_of Try.func29 (by kernel_rfl) rfl) (by intro w' hb; exact cv1 (gc_check (⟨C.nodes, C.slots, C.pages, C.room, C.chunk + 1, C.buffer, C.queue, C.wear⟩ : Cf) 0 w' (chkC_yes kd))), ?_⟩
  refine ⟨isVal (.bool false), step_bin .neq 28 28 (.tmp 32) (.const (.int .i64 0)) (.int .i64 0) (.int .i64 0) (.bool false) (by kernel_rfl) (wanted_some 1 30 true (by kernel_rfl) (by kernel_rfl) (by kernel_rfl) (by kernel_rfl)) (knows_new (V := isVal (.int .i64 0)) 32 3 (by kernel_rfl) (by kernel_rfl) (by kernel_rfl)) (knows_const _) (fun _ => rfl) (neq_f _ _ (by omega)), ?_⟩
  refine ⟨isVal (.bool false), step_move (.tmp 33) (by kernel_rfl) (wanted_some 1 30 true (by kernel_rfl) (by kernel_rfl) (by kernel_rfl) (by kernel_rfl)) (stable_val _) (knows_new (V := isVal (.bool false)) 33 4 (by kernel_rfl) (by kernel_rfl) (by kernel_rfl)), ?_⟩
  refine ⟨isVal (.agg #[.int .i64 C.nodes, .int .i64 C.slots, .int .i64 C.pages, .int .i64 C.room, .int .i64 (C.chunk + 1), .int .i64 C.buffer, .int .i64 C.queue, .int .i64 C.wear]), step_loadN 38 (.tmp 4) (gd) [.int .i64 C.nodes, .int .i64 C.slots, .int .i64 C.pages, .int .i64 C.room, .int .i64 (C.chunk + 1), .int .i64 C.buffer, .int .i64 C.queue, .int .i64 C.wear] (by kernel_rfl) (wanted_some 5 34 false (by kernel_rfl) (by kernel_rfl) (by kernel_rfl) (by kernel_rfl)) (knows_old 4 (.pointer (some ⟨gd, 0, none⟩)) (by kernel_rfl) e4) size_cf agg_cf (hd), ?_⟩
  refine ⟨isVal (.int .i64 rd), step_call 32 #[.tmp 35] #[38] #[.agg #[.int .i64 C.nodes, .int .i64 C.slots, .int .i64 C.pages, .int .i64 C.room, .int .i64 (C.chunk + 1), .int .i64 C.buffer, .int .i64 C.queue, .int .i64 C.wear]] (by kernel_rfl) (wanted_some 5 34 false (by kernel_rfl) (by kernel_rfl) (by kernel_rfl) (by kernel_rfl)) (stable_val _) (args1 (.tmp 35) (.agg #[.int .i64 C.nodes, .int .i64 C.slots, .int .i64 C.pages, .int .i64 C.room, .int .i64 (C.chunk + 1), .int .i64 C.buffer, .int .i64 C.queue, .int .i64 C.wear]) (knows_new (V := isVal (.agg #[.int .i64 C.nodes, .int .i64 C.slots, .int .i64 C.pages, .int .i64 C.room, .int .i64 (C.chunk + 1), .int .i64 C.buffer, .int .i64 C.queue, .int .i64 C.wear])) 35 6 (by kernel_rfl) (by kernel_rfl) (by kernel_rfl))) (enters_of Try.func32 (by kernel_rfl) rfl) (by intro w' hb; exact cv1 (gc_rounds (⟨C.nodes, C.slots, C.pages, C.room, C.chunk + 1, C.buffer, C.queue, C.wear⟩ : Cf) rd w' hrd)), ?_⟩
  refine ⟨isVal (.agg #[.int .i64 C.nodes, .int .i64 C.slots, .int .i64 C.pages, .int .i64 C.room, .int .i64 C.chunk, .int .i64 C.buffer, .int .i64 C.queue, .int .i64 C.wear]), step_loadN 38 (.tmp 1) (g) [.int .i64 C.nodes, .int .i64 C.slots, .int .i64 C.pages, .int .i64 C.room, .int .i64 C.chunk, .int .i64 C.buffer, .int .i64 C.queue, .int .i64 C.wear] (by kernel_rfl) (wanted_some 5 34 false (by kernel_rfl) (by kernel_rfl) (by kernel_rfl) (by kernel_rfl)) (knows_old 1 (.pointer (some ⟨g, 0, none⟩)) (by kernel_rfl) e1) size_cf agg_cf (hc), ?_⟩
  refine ⟨isVal (.int .i64 rc), step_call 32 #[.tmp 37] #[38] #[.agg #[.int .i64 C.nodes, .int .i64 C.slots, .int .i64 C.pages, .int .i64 C.room, .int .i64 C.chunk, .int .i64 C.buffer, .int .i64 C.queue, .int .i64 C.wear]] (by kernel_rfl) (wanted_some 5 34 false (by kernel_rfl) (by kernel_rfl) (by kernel_rfl) (by kernel_rfl)) (stable_val _) (args1 (.tmp 37) (.agg #[.int .i64 C.nodes, .int .i64 C.slots, .int .i64 C.pages, .int .i64 C.room, .int .i64 C.chunk, .int .i64 C.buffer, .int .i64 C.queue, .int .i64 C.wear]) (knows_new (V := isVal (.agg #[.int .i64 C.nodes, .int .i64 C.slots, .int .i64 C.pages, .int .i64 C.room, .int .i64 C.chunk, .int .i64 C.buffer, .int .i64 C.queue, .int .i64 C.wear])) 37 8 (by kernel_rfl) (by kernel_rfl) (by kernel_rfl))) (enters_of Try.func32 (by kernel_rfl) rfl) (by intro w' hb; exact cv1 (gc_rounds C rc w' hrc)), ?_⟩
  refine ⟨isVal (.bool true), step_bin .leq 3 3 (.tmp 36) (.tmp 38) (.int .i64 rd) (.int .i64 rc) (.bool true) (by kernel_rfl) (wanted_some 5 34 false (by kernel_rfl) (by kernel_rfl) (by kernel_rfl) (by kernel_rfl)) (knows_new (V := isVal (.int .i64 rd)) 36 7 (by kernel_rfl) (by kernel_rfl) (by kernel_rfl)) (knows_new (V := isVal (.int .i64 rc)) 38 9 (by kernel_rfl) (by kernel_rfl) (by kernel_rfl)) (fun _ => rfl) (leq_t _ _ (by omega)), ?_⟩
  refine ⟨isVal (.bool true), step_pick (.tmp 34) (.const (.bool true)) (.tmp 39) false (by kernel_rfl) (wanted_some 1 30 true (by kernel_rfl) (by kernel_rfl) (by kernel_rfl) (by kernel_rfl)) (stable_val _) (knows_new (V := isVal (.bool false)) 34 5 (by kernel_rfl) (by kernel_rfl) (by kernel_rfl)) (knows_new (V := isVal (.bool true)) 39 10 (by kernel_rfl) (by kernel_rfl) (by kernel_rfl)), ?_⟩
  refine ⟨isVal (.bool true), step_pick (.tmp 30) (.tmp 40) (.const (.bool false)) true (by kernel_rfl) (wanted_none (by kernel_rfl)) (stable_val _) (knows_new (V := isVal (.bool true)) 30 1 (by kernel_rfl) (by kernel_rfl) (by kernel_rfl)) (knows_new (V := isVal (.bool true)) 40 11 (by kernel_rfl) (by kernel_rfl) (by kernel_rfl)), ?_⟩
  refine ⟨isVal (.bool true), step_move (.tmp 41) (by kernel_rfl) (wanted_none (by kernel_rfl)) (stable_val _) (knows_new (V := isVal (.bool true)) 41 12 (by kernel_rfl) (by kernel_rfl) (by kernel_rfl)), ?_⟩
  refine ⟨isVal (.agg #[.int .i64 (C.nodes + 1), .int .i64 C.slots, .int .i64 C.pages, .int .i64 C.room, .int .i64 C.chunk, .int .i64 C.buffer, .int .i64 C.queue, .int .i64 C.wear]), step_loadN 38 (.tmp 5) (ge) [.int .i64 (C.nodes + 1), .int .i64 C.slots, .int .i64 C.pages, .int .i64 C.room, .int .i64 C.chunk, .int .i64 C.buffer, .int .i64 C.queue, .int .i64 C.wear] (by kernel_rfl) (wanted_some 13 42 true (by kernel_rfl) (by kernel_rfl) (by kernel_rfl) (by kernel_rfl)) (knows_old 5 (.pointer (some ⟨ge, 0, none⟩)) (by kernel_rfl) e5) size_cf agg_cf (he), ?_⟩
  refine ⟨isVal (.int .i64 0), step_call 29 #[.tmp 43] #[38] #[.agg #[.int .i64 (C.nodes + 1), .int .i64 C.slots, .int .i64 C.pages, .int .i64 C.room, .int .i64 C.chunk, .int .i64 C.buffer, .int .i64 C.queue, .int .i64 C.wear]] (by kernel_rfl) (wanted_some 13 42 true (by kernel_rfl) (by kernel_rfl) (by kernel_rfl) (by kernel_rfl)) (stable_val _) (args1 (.tmp 43) (.agg #[.int .i64 (C.nodes + 1), .int .i64 C.slots, .int .i64 C.pages, .int .i64 C.room, .int .i64 C.chunk, .int .i64 C.buffer, .int .i64 C.queue, .int .i64 C.wear]) (knows_new (V := isVal (.agg #[.int .i64 (C.nodes + 1), .int .i64 C.slots, .int .i64 C.pages, .int .i64 C.room, .int .i64 C.chunk, .int .i64 C.buffer, .int .i64 C.queue, .int .i64 C.wear])) 43 14 (by kernel_rfl) (by kernel_rfl) (by kernel_rfl))) (enters_of Try.func29 (by kernel_rfl) rfl) (by intro w' hb; exact cv1 (gc_check (⟨C.nodes + 1, C.slots, C.pages, C.room, C.chunk, C.buffer, C.queue, C.wear⟩ : Cf) 0 w' (chkC_yes ke))), ?_⟩
  refine ⟨isVal (.bool false), step_bin .neq 28 28 (.tmp 44) (.const (.int .i64 0)) (.int .i64 0) (.int .i64 0) (.bool false) (by kernel_rfl) (wanted_some 13 42 true (by kernel_rfl) (by kernel_rfl) (by kernel_rfl) (by kernel_rfl)) (knows_new (V := isVal (.int .i64 0)) 44 15 (by kernel_rfl) (by kernel_rfl) (by kernel_rfl)) (knows_const _) (fun _ => rfl) (neq_f _ _ (by omega)), ?_⟩
  refine ⟨isVal (.bool false), step_move (.tmp 45) (by kernel_rfl) (wanted_some 13 42 true (by kernel_rfl) (by kernel_rfl) (by kernel_rfl) (by kernel_rfl)) (stable_val _) (knows_new (V := isVal (.bool false)) 45 16 (by kernel_rfl) (by kernel_rfl) (by kernel_rfl)), ?_⟩
  refine ⟨isVal (.agg #[.int .i64 (C.nodes + 1), .int .i64 C.slots, .int .i64 C.pages, .int .i64 C.room, .int .i64 C.chunk, .int .i64 C.buffer, .int .i64 C.queue, .int .i64 C.wear]), step_loadN 38 (.tmp 5) (ge) [.int .i64 (C.nodes + 1), .int .i64 C.slots, .int .i64 C.pages, .int .i64 C.room, .int .i64 C.chunk, .int .i64 C.buffer, .int .i64 C.queue, .int .i64 C.wear] (by kernel_rfl) (wanted_some 17 46 false (by kernel_rfl) (by kernel_rfl) (by kernel_rfl) (by kernel_rfl)) (knows_old 5 (.pointer (some ⟨ge, 0, none⟩)) (by kernel_rfl) e5) size_cf agg_cf (he), ?_⟩
  refine ⟨isVal (.int .i64 re), step_call 32 #[.tmp 47] #[38] #[.agg #[.int .i64 (C.nodes + 1), .int .i64 C.slots, .int .i64 C.pages, .int .i64 C.room, .int .i64 C.chunk, .int .i64 C.buffer, .int .i64 C.queue, .int .i64 C.wear]] (by kernel_rfl) (wanted_some 17 46 false (by kernel_rfl) (by kernel_rfl) (by kernel_rfl) (by kernel_rfl)) (stable_val _) (args1 (.tmp 47) (.agg #[.int .i64 (C.nodes + 1), .int .i64 C.slots, .int .i64 C.pages, .int .i64 C.room, .int .i64 C.chunk, .int .i64 C.buffer, .int .i64 C.queue, .int .i64 C.wear]) (knows_new (V := isVal (.agg #[.int .i64 (C.nodes + 1), .int .i64 C.slots, .int .i64 C.pages, .int .i64 C.room, .int .i64 C.chunk, .int .i64 C.buffer, .int .i64 C.queue, .int .i64 C.wear])) 47 18 (by kernel_rfl) (by kernel_rfl) (by kernel_rfl))) (enters_of Try.func32 (by kernel_rfl) rfl) (by intro w' hb; exact cv1 (gc_rounds (⟨C.nodes + 1, C.slots, C.pages, C.room, C.chunk, C.buffer, C.queue, C.wear⟩ : Cf) re w' hre)), ?_⟩
  refine ⟨isVal (.agg #[.int .i64 C.nodes, .int .i64 C.slots, .int .i64 C.pages, .int .i64 C.room, .int .i64 C.chunk, .int .i64 C.buffer, .int .i64 C.queue, .int .i64 C.wear]), step_loadN 38 (.tmp 1) (g) [.int .i64 C.nodes, .int .i64 C.slots, .int .i64 C.pages, .int .i64 C.room, .int .i64 C.chunk, .int .i64 C.buffer, .int .i64 C.queue, .int .i64 C.wear] (by kernel_rfl) (wanted_some 17 46 false (by kernel_rfl) (by kernel_rfl) (by kernel_rfl) (by kernel_rfl)) (knows_old 1 (.pointer (some ⟨g, 0, none⟩)) (by kernel_rfl) e1) size_cf agg_cf (hc), ?_⟩
  refine ⟨isVal (.int .i64 rc), step_call 32 #[.tmp 49] #[38] #[.agg #[.int .i64 C.nodes, .int .i64 C.slots, .int .i64 C.pages, .int .i64 C.room, .int .i64 C.chunk, .int .i64 C.buffer, .int .i64 C.queue, .int .i64 C.wear]] (by kernel_rfl) (wanted_some 17 46 false (by kernel_rfl) (by kernel_rfl) (by kernel_rfl) (by kernel_rfl)) (stable_val _) (args1 (.tmp 49) (.agg #[.int .i64 C.nodes, .int .i64 C.slots, .int .i64 C.pages, .int .i64 C.room, .int .i64 C.chunk, .int .i64 C.buffer, .int .i64 C.queue, .int .i64 C.wear]) (knows_new (V := isVal (.agg #[.int .i64 C.nodes, .int .i64 C.slots, .int .i64 C.pages, .int .i64 C.room, .int .i64 C.chunk, .int .i64 C.buffer, .int .i64 C.queue, .int .i64 C.wear])) 49 20 (by kernel_rfl) (by kernel_rfl) (by kernel_rfl))) (enters_of Try.func32 (by kernel_rfl) rfl) (by intro w' hb; exact cv1 (gc_rounds C rc w' hrc)), ?_⟩
  refine ⟨isVal (.bool true), step_bin .gtr 3 3 (.tmp 48) (.tmp 50) (.int .i64 re) (.int .i64 rc) (.bool true) (by kernel_rfl) (wanted_some 17 46 false (by kernel_rfl) (by kernel_rfl) (by kernel_rfl) (by kernel_rfl)) (knows_new (V := isVal (.int .i64 re)) 48 19 (by kernel_rfl) (by kernel_rfl) (by kernel_rfl)) (knows_new (V := isVal (.int .i64 rc)) 50 21 (by kernel_rfl) (by kernel_rfl) (by kernel_rfl)) (fun _ => rfl) (gtr_t _ _ (by omega)), ?_⟩
  refine ⟨isVal (.bool true), step_pick (.tmp 46) (.const (.bool true)) (.tmp 51) false (by kernel_rfl) (wanted_some 13 42 true (by kernel_rfl) (by kernel_rfl) (by kernel_rfl) (by kernel_rfl)) (stable_val _) (knows_new (V := isVal (.bool false)) 46 17 (by kernel_rfl) (by kernel_rfl) (by kernel_rfl)) (knows_new (V := isVal (.bool true)) 51 22 (by kernel_rfl) (by kernel_rfl) (by kernel_rfl)), ?_⟩
  refine ⟨isVal (.bool true), step_pick (.tmp 42) (.tmp 52) (.const (.bool false)) true (by kernel_rfl) (wanted_none (by kernel_rfl)) (stable_val _) (knows_new (V := isVal (.bool true)) 42 13 (by kernel_rfl) (by kernel_rfl) (by kernel_rfl)) (knows_new (V := isVal (.bool true)) 52 23 (by kernel_rfl) (by kernel_rfl) (by kernel_rfl)), ?_⟩
  refine ⟨isVal (.bool true), step_move (.tmp 53) (by kernel_rfl) (wanted_none (by kernel_rfl)) (stable_val _) (knows_new (V := isVal (.bool true)) 53 24 (by kernel_rfl) (by kernel_rfl) (by kernel_rfl)), ?_⟩
  refine ⟨isVal (.agg #[.int .i64 C.nodes, .int .i64 (C.slots + 1), .int .i64 C.pages, .int .i64 C.room, .int .i64 C.chunk, .int .i64 C.buffer, .int .i64 C.queue, .int .i64 C.wear]), step_loadN 38 (.tmp 6) (gf) [.int .i64 C.nodes, .int .i64 (C.slots + 1), .int .i64 C.pages, .int .i64 C.room, .int .i64 C.chunk, .int .i64 C.buffer, .int .i64 C.queue, .int .i64 C.wear] (by kernel_rfl) (wanted_some 25 54 true (by kernel_rfl) (by kernel_rfl) (by kernel_rfl) (by kernel_rfl)) (knows_old 6 (.pointer (some ⟨gf, 0, none⟩)) (by kernel_rfl) e6) size_cf agg_cf (hf), ?_⟩
  refine ⟨isVal (.int .i64 0), step_call 29 #[.tmp 55] #[38] #[.agg #[.int .i64 C.nodes, .int .i64 (C.slots + 1), .int .i64 C.pages, .int .i64 C.room, .int .i64 C.chunk, .int .i64 C.buffer, .int .i64 C.queue, .int .i64 C.wear]] (by kernel_rfl) (wanted_some 25 54 true (by kernel_rfl) (by kernel_rfl) (by kernel_rfl) (by kernel_rfl)) (stable_val _) (args1 (.tmp 55) (.agg #[.int .i64 C.nodes, .int .i64 (C.slots + 1), .int .i64 C.pages, .int .i64 C.room, .int .i64 C.chunk, .int .i64 C.buffer, .int .i64 C.queue, .int .i64 C.wear]) (knows_new (V := isVal (.agg #[.int .i64 C.nodes, .int .i64 (C.slots + 1), .int .i64 C.pages, .int .i64 C.room, .int .i64 C.chunk, .int .i64 C.buffer, .int .i64 C.queue, .int .i64 C.wear])) 55 26 (by kernel_rfl) (by kernel_rfl) (by kernel_rfl))) (enters_of Try.func29 (by kernel_rfl) rfl) (by intro w' hb; exact cv1 (gc_check (⟨C.nodes, C.slots + 1, C.pages, C.room, C.chunk, C.buffer, C.queue, C.wear⟩ : Cf) 0 w' (chkC_yes kf))), ?_⟩
  refine ⟨isVal (.bool false), step_bin .neq 28 28 (.tmp 56) (.const (.int .i64 0)) (.int .i64 0) (.int .i64 0) (.bool false) (by kernel_rfl) (wanted_some 25 54 true (by kernel_rfl) (by kernel_rfl) (by kernel_rfl) (by kernel_rfl)) (knows_new (V := isVal (.int .i64 0)) 56 27 (by kernel_rfl) (by kernel_rfl) (by kernel_rfl)) (knows_const _) (fun _ => rfl) (neq_f _ _ (by omega)), ?_⟩
  refine ⟨isVal (.bool false), step_move (.tmp 57) (by kernel_rfl) (wanted_some 25 54 true (by kernel_rfl) (by kernel_rfl) (by kernel_rfl) (by kernel_rfl)) (stable_val _) (knows_new (V := isVal (.bool false)) 57 28 (by kernel_rfl) (by kernel_rfl) (by kernel_rfl)), ?_⟩
  refine ⟨isVal (.agg #[.int .i64 C.nodes, .int .i64 (C.slots + 1), .int .i64 C.pages, .int .i64 C.room, .int .i64 C.chunk, .int .i64 C.buffer, .int .i64 C.queue, .int .i64 C.wear]), step_loadN 38 (.tmp 6) (gf) [.int .i64 C.nodes, .int .i64 (C.slots + 1), .int .i64 C.pages, .int .i64 C.room, .int .i64 C.chunk, .int .i64 C.buffer, .int .i64 C.queue, .int .i64 C.wear] (by kernel_rfl) (wanted_some 29 58 false (by kernel_rfl) (by kernel_rfl) (by kernel_rfl) (by kernel_rfl)) (knows_old 6 (.pointer (some ⟨gf, 0, none⟩)) (by kernel_rfl) e6) size_cf agg_cf (hf), ?_⟩
  refine ⟨isVal (.int .i64 rf), step_call 32 #[.tmp 59] #[38] #[.agg #[.int .i64 C.nodes, .int .i64 (C.slots + 1), .int .i64 C.pages, .int .i64 C.room, .int .i64 C.chunk, .int .i64 C.buffer, .int .i64 C.queue, .int .i64 C.wear]] (by kernel_rfl) (wanted_some 29 58 false (by kernel_rfl) (by kernel_rfl) (by kernel_rfl) (by kernel_rfl)) (stable_val _) (args1 (.tmp 59) (.agg #[.int .i64 C.nodes, .int .i64 (C.slots + 1), .int .i64 C.pages, .int .i64 C.room, .int .i64 C.chunk, .int .i64 C.buffer, .int .i64 C.queue, .int .i64 C.wear]) (knows_new (V := isVal (.agg #[.int .i64 C.nodes, .int .i64 (C.slots + 1), .int .i64 C.pages, .int .i64 C.room, .int .i64 C.chunk, .int .i64 C.buffer, .int .i64 C.queue, .int .i64 C.wear])) 59 30 (by kernel_rfl) (by kernel_rfl) (by kernel_rfl))) (enters_of Try.func32 (by kernel_rfl) rfl) (by intro w' hb; exact cv1 (gc_rounds (⟨C.nodes, C.slots + 1, C.pages, C.room, C.chunk, C.buffer, C.queue, C.wear⟩ : Cf) rf w' hrf)), ?_⟩
  refine ⟨isVal (.agg #[.int .i64 C.nodes, .int .i64 C.slots, .int .i64 C.pages, .int .i64 C.room, .int .i64 C.chunk, .int .i64 C.buffer, .int .i64 C.queue, .int .i64 C.wear]), step_loadN 38 (.tmp 1) (g) [.int .i64 C.nodes, .int .i64 C.slots, .int .i64 C.pages, .int .i64 C.room, .int .i64 C.chunk, .int .i64 C.buffer, .int .i64 C.queue, .int .i64 C.wear] (by kernel_rfl) (wanted_some 29 58 false (by kernel_rfl) (by kernel_rfl) (by kernel_rfl) (by kernel_rfl)) (knows_old 1 (.pointer (some ⟨g, 0, none⟩)) (by kernel_rfl) e1) size_cf agg_cf (hc), ?_⟩
  refine ⟨isVal (.int .i64 rc), step_call 32 #[.tmp 61] #[38] #[.agg #[.int .i64 C.nodes, .int .i64 C.slots, .int .i64 C.pages, .int .i64 C.room, .int .i64 C.chunk, .int .i64 C.buffer, .int .i64 C.queue, .int .i64 C.wear]] (by kernel_rfl) (wanted_some 29 58 false (by kernel_rfl) (by kernel_rfl) (by kernel_rfl) (by kernel_rfl)) (stable_val _) (args1 (.tmp 61) (.agg #[.int .i64 C.nodes, .int .i64 C.slots, .int .i64 C.pages, .int .i64 C.room, .int .i64 C.chunk, .int .i64 C.buffer, .int .i64 C.queue, .int .i64 C.wear]) (knows_new (V := isVal (.agg #[.int .i64 C.nodes, .int .i64 C.slots, .int .i64 C.pages, .int .i64 C.room, .int .i64 C.chunk, .int .i64 C.buffer, .int .i64 C.queue, .int .i64 C.wear])) 61 32 (by kernel_rfl) (by kernel_rfl) (by kernel_rfl))) (enters_of Try.func32 (by kernel_rfl) rfl) (by intro w' hb; exact cv1 (gc_rounds C rc w' hrc)), ?_⟩
  refine ⟨isVal (.bool true), step_bin .geq 3 3 (.tmp 60) (.tmp 62) (.int .i64 rf) (.int .i64 rc) (.bool true) (by kernel_rfl) (wanted_some 29 58 false (by kernel_rfl) (by kernel_rfl) (by kernel_rfl) (by kernel_rfl)) (knows_new (V := isVal (.int .i64 rf)) 60 31 (by kernel_rfl) (by kernel_rfl) (by kernel_rfl)) (knows_new (V := isVal (.int .i64 rc)) 62 33 (by kernel_rfl) (by kernel_rfl) (by kernel_rfl)) (fun _ => rfl) (geq_t _ _ (by omega)), ?_⟩
  refine ⟨isVal (.bool true), step_move (.tmp 63) (by kernel_rfl) (wanted_some 29 58 false (by kernel_rfl) (by kernel_rfl) (by kernel_rfl) (by kernel_rfl)) (stable_val _) (knows_new (V := isVal (.bool true)) 63 34 (by kernel_rfl) (by kernel_rfl) (by kernel_rfl)), ?_⟩
  refine ⟨isVal (.agg #[.int .i64 C.nodes, .int .i64 (C.slots + 1), .int .i64 C.pages, .int .i64 C.room, .int .i64 C.chunk, .int .i64 C.buffer, .int .i64 C.queue, .int .i64 C.wear]), step_loadN 38 (.tmp 6) (gf) [.int .i64 C.nodes, .int .i64 (C.slots + 1), .int .i64 C.pages, .int .i64 C.room, .int .i64 C.chunk, .int .i64 C.buffer, .int .i64 C.queue, .int .i64 C.wear] (by kernel_rfl) (wanted_some 35 64 true (by kernel_rfl) (by kernel_rfl) (by kernel_rfl) (by kernel_rfl)) (knows_old 6 (.pointer (some ⟨gf, 0, none⟩)) (by kernel_rfl) e6) size_cf agg_cf (hf), ?_⟩
  refine ⟨isVal (.int .i64 wf), step_call 33 #[.tmp 65] #[38] #[.agg #[.int .i64 C.nodes, .int .i64 (C.slots + 1), .int .i64 C.pages, .int .i64 C.room, .int .i64 C.chunk, .int .i64 C.buffer, .int .i64 C.queue, .int .i64 C.wear]] (by kernel_rfl) (wanted_some 35 64 true (by kernel_rfl) (by kernel_rfl) (by kernel_rfl) (by kernel_rfl)) (stable_val _) (args1 (.tmp 65) (.agg #[.int .i64 C.nodes, .int .i64 (C.slots + 1), .int .i64 C.pages, .int .i64 C.room, .int .i64 C.chunk, .int .i64 C.buffer, .int .i64 C.queue, .int .i64 C.wear]) (knows_new (V := isVal (.agg #[.int .i64 C.nodes, .int .i64 (C.slots + 1), .int .i64 C.pages, .int .i64 C.room, .int .i64 C.chunk, .int .i64 C.buffer, .int .i64 C.queue, .int .i64 C.wear])) 65 36 (by kernel_rfl) (by kernel_rfl) (by kernel_rfl))) (enters_of Try.func33 (by kernel_rfl) rfl) (by intro w' hb; exact cv1 (gc_work (⟨C.nodes, C.slots + 1, C.pages, C.room, C.chunk, C.buffer, C.queue, C.wear⟩ : Cf) wf w' hwf)), ?_⟩
  refine ⟨isVal (.agg #[.int .i64 C.nodes, .int .i64 C.slots, .int .i64 C.pages, .int .i64 C.room, .int .i64 C.chunk, .int .i64 C.buffer, .int .i64 C.queue, .int .i64 C.wear]), step_loadN 38 (.tmp 1) (g) [.int .i64 C.nodes, .int .i64 C.slots, .int .i64 C.pages, .int .i64 C.room, .int .i64 C.chunk, .int .i64 C.buffer, .int .i64 C.queue, .int .i64 C.wear] (by kernel_rfl) (wanted_some 35 64 true (by kernel_rfl) (by kernel_rfl) (by kernel_rfl) (by kernel_rfl)) (knows_old 1 (.pointer (some ⟨g, 0, none⟩)) (by kernel_rfl) e1) size_cf agg_cf (hc), ?_⟩
  refine ⟨isVal (.int .i64 wc), step_call 33 #[.tmp 67] #[38] #[.agg #[.int .i64 C.nodes, .int .i64 C.slots, .int .i64 C.pages, .int .i64 C.room, .int .i64 C.chunk, .int .i64 C.buffer, .int .i64 C.queue, .int .i64 C.wear]] (by kernel_rfl) (wanted_some 35 64 true (by kernel_rfl) (by kernel_rfl) (by kernel_rfl) (by kernel_rfl)) (stable_val _) (args1 (.tmp 67) (.agg #[.int .i64 C.nodes, .int .i64 C.slots, .int .i64 C.pages, .int .i64 C.room, .int .i64 C.chunk, .int .i64 C.buffer, .int .i64 C.queue, .int .i64 C.wear]) (knows_new (V := isVal (.agg #[.int .i64 C.nodes, .int .i64 C.slots, .int .i64 C.pages, .int .i64 C.room, .int .i64 C.chunk, .int .i64 C.buffer, .int .i64 C.queue, .int .i64 C.wear])) 67 38 (by kernel_rfl) (by kernel_rfl) (by kernel_rfl))) (enters_of Try.func33 (by kernel_rfl) rfl) (by intro w' hb; exact cv1 (gc_work C wc w' hwc)), ?_⟩
  refine ⟨isVal (.bool true), step_bin .geq 3 3 (.tmp 66) (.tmp 68) (.int .i64 wf) (.int .i64 wc) (.bool true) (by kernel_rfl) (wanted_some 35 64 true (by kernel_rfl) (by kernel_rfl) (by kernel_rfl) (by kernel_rfl)) (knows_new (V := isVal (.int .i64 wf)) 66 37 (by kernel_rfl) (by kernel_rfl) (by kernel_rfl)) (knows_new (V := isVal (.int .i64 wc)) 68 39 (by kernel_rfl) (by kernel_rfl) (by kernel_rfl)) (fun _ => rfl) (geq_t _ _ (by omega)), ?_⟩
  refine ⟨isVal (.bool true), step_pick (.tmp 64) (.tmp 69) (.const (.bool false)) true (by kernel_rfl) (wanted_some 29 58 false (by kernel_rfl) (by kernel_rfl) (by kernel_rfl) (by kernel_rfl)) (stable_val _) (knows_new (V := isVal (.bool true)) 64 35 (by kernel_rfl) (by kernel_rfl) (by kernel_rfl)) (knows_new (V := isVal (.bool true)) 69 40 (by kernel_rfl) (by kernel_rfl) (by kernel_rfl)), ?_⟩
  refine ⟨isVal (.bool true), step_pick (.tmp 58) (.const (.bool true)) (.tmp 70) false (by kernel_rfl) (wanted_some 25 54 true (by kernel_rfl) (by kernel_rfl) (by kernel_rfl) (by kernel_rfl)) (stable_val _) (knows_new (V := isVal (.bool false)) 58 29 (by kernel_rfl) (by kernel_rfl) (by kernel_rfl)) (knows_new (V := isVal (.bool true)) 70 41 (by kernel_rfl) (by kernel_rfl) (by kernel_rfl)), ?_⟩
  refine ⟨isVal (.bool true), step_pick (.tmp 54) (.tmp 71) (.const (.bool false)) true (by kernel_rfl) (wanted_none (by kernel_rfl)) (stable_val _) (knows_new (V := isVal (.bool true)) 54 25 (by kernel_rfl) (by kernel_rfl) (by kernel_rfl)) (knows_new (V := isVal (.bool true)) 71 42 (by kernel_rfl) (by kernel_rfl) (by kernel_rfl)), ?_⟩
  refine ⟨isVal (.bool true), step_assign (.tmp 72) (by kernel_rfl) (wanted_none (by kernel_rfl)) (stable_val _) (knows_new (V := isVal (.bool true)) 72 43 (by kernel_rfl) (by kernel_rfl) (by kernel_rfl)), ?_⟩
  intro a w hkp hb hd
  rw [kept_of hkp [some 29, some 30, some 31, some 32, some 33, some 34, some 35, some 36, some 37, some 38, some 39, some 40, some 41, some 42, some 43, some 44, some 45, some 46, some 47, some 48, some 49, some 50, some 51, some 52, some 53, some 54, some 55, some 56, some 57, some 58, some 59, some 60, some 61, some 62, some 63, some 64, some 65, some 66, some 67, some 68, some 69, some 70, some 71, some 72, some 2] [29, 30, 31, 32, 33, 34, 35, 36, 37, 38, 39, 40, 41, 42, 43, 44, 45, 46, 47, 48, 49, 50, 51, 52, 53, 54, 55, 56, 57, 58, 59, 60, 61, 62, 63, 64, 65, 66, 67, 68, 69, 70, 71, 72, 2] (by kernel_rfl) (by decide)]
  have d2 := fdone_of (hd 44 (by rw [show mryyyOps.size = 45 by kernel_rfl]; decide)) (t := 2) (V := isVal (.bool true)) (by kernel_rfl) (by kernel_rfl)
  exact hQ (fun s => a.tmps.getD s undef) w d2 hb
noncomputable def mryynOps : Array Oper := regionOf Try.f6 12
set_option maxRecDepth 100000 in
set_option maxHeartbeats 2000000 in
theorem mryyn_region (Q : Exit → Act → World → Prop) (a0 : Act) (w0 : World) (hsz : a0.tmps.size = 73) (g : Nat) (C : Cf) (hc : CellsN w0 g [.int .i64 C.nodes, .int .i64 C.slots, .int .i64 C.pages, .int .i64 C.room, .int .i64 C.chunk, .int .i64 C.buffer, .int .i64 C.queue, .int .i64 C.wear]) (e1 : a0.tmps.getD 1 undef = .pointer (some ⟨g, 0, none⟩)) (gd ge gf : Nat) (hd : CellsN w0 gd [.int .i64 C.nodes, .int .i64 C.slots, .int .i64 C.pages, .int .i64 C.room, .int .i64 (C.chunk + 1), .int .i64 C.buffer, .int .i64 C.queue, .int .i64 C.wear]) (he : CellsN w0 ge [.int .i64 (C.nodes + 1), .int .i64 C.slots, .int .i64 C.pages, .int .i64 C.room, .int .i64 C.chunk, .int .i64 C.buffer, .int .i64 C.queue, .int .i64 C.wear]) (hf : CellsN w0 gf [.int .i64 C.nodes, .int .i64 (C.slots + 1), .int .i64 C.pages, .int .i64 C.room, .int .i64 C.chunk, .int .i64 C.buffer, .int .i64 C.queue, .int .i64 C.wear]) (kd : okC ⟨C.nodes, C.slots, C.pages, C.room, C.chunk + 1, C.buffer, C.queue, C.wear⟩ = true) (ke : okC ⟨C.nodes + 1, C.slots, C.pages, C.room, C.chunk, C.buffer, C.queue, C.wear⟩ = true) (kf : okC ⟨C.nodes, C.slots + 1, C.pages, C.room, C.chunk, C.buffer, C.queue, C.wear⟩ = false) (rc rd re rf wc wf : Int) (hrc : roundsC C = rc) (hrd : roundsC ⟨C.nodes, C.slots, C.pages, C.room, C.chunk + 1, C.buffer, C.queue, C.wear⟩ = rd) (hre : roundsC ⟨C.nodes + 1, C.slots, C.pages, C.room, C.chunk, C.buffer, C.queue, C.wear⟩ = re) (hrf : roundsC ⟨C.nodes, C.slots + 1, C.pages, C.room, C.chunk, C.buffer, C.queue, C.wear⟩ = rf) (hwc : workC C = wc) (hwf : workC ⟨C.nodes, C.slots + 1, C.pages, C.room, C.chunk, C.buffer, C.queue, C.wear⟩ = wf) (q1 : rd ≤ rc) (q2 : rc < re) (q3 : True) (e3 : a0.tmps.getD 3 undef = .bool true) (e4 : a0.tmps.getD 4 undef = .pointer (some ⟨gd, 0, none⟩)) (e5 : a0.tmps.getD 5 undef = .pointer (some ⟨ge, 0, none⟩)) (e6 : a0.tmps.getD 6 undef = .pointer (some ⟨gf, 0, none⟩))
    (hQ : ∀ (g : Nat → Value) (w : World), g 2 = .bool true → Below w0.heap.size w0 w → Q .normal { tmps := [29, 30, 31, 32, 33, 34, 35, 36, 37, 38, 39, 40, 41, 42, 43, 44, 45, 46, 47, 48, 49, 50, 51, 52, 53, 54, 55, 56, 57, 58, 59, 60, 61, 62, 63, 64, 65, 66, 67, 68, 69, 70, 71, 72, 2].foldl (fun t s => t.setIfInBounds s (g s)) a0.tmps, defers := a0.defers } w) :
    (Code.region 12 mryynOps true).wp Try.prog Q a0 w0 := by
  refine wp_region_flow mixed (by rw [hsz]; kernel_rfl) ?_
  rw [show mryynOps.size = 45 by kernel_rfl]
  refine ⟨isVal (.bool true), step_move (.tmp 3) (by kernel_rfl) (wanted_none (by kernel_rfl)) (stable_val _) (knows_old 3 (.bool true) (by kernel_rfl) e3), ?_⟩
  refine ⟨isVal (.bool true), step_move (.tmp 29) (by kernel_rfl) (wanted_none (by kernel_rfl)) (stable_val _) (knows_new (V := isVal (.bool true)) 29 0 (by kernel_rfl) (by kernel_rfl) (by kernel_rfl)), ?_⟩
  refine ⟨isVal (.agg #[.int .i64 C.nodes, .int .i64 C.slots, .int .i64 C.pages, .int .i64 C.room, .int .i64 (C.chunk + 1), .int .i64 C.buffer, .int .i64 C.queue, .int .i64 C.wear]), step_loadN 38 (.tmp 4) (gd) [.int .i64 C.nodes, .int .i64 C.slots, .int .i64 C.pages, .int .i64 C.room, .int .i64 (C.chunk + 1), .int .i64 C.buffer, .int .i64 C.queue, .int .i64 C.wear] (by kernel_rfl) (wanted_some 1 30 true (by kernel_rfl) (by kernel_rfl) (by kernel_rfl) (by kernel_rfl)) (knows_old 4 (.pointer (some ⟨gd, 0, none⟩)) (by kernel_rfl) e4) size_cf agg_cf (hd), ?_⟩
  refine ⟨isVal (.int .i64 0), step_call 29 #[.tmp 31] #[38] #[.agg #[.int .i64 C.nodes, .int .i64 C.slots, .int .i64 C.pages, .int .i64 C.room, .int .i64 (C.chunk + 1), .int .i64 C.buffer, .int .i64 C.queue, .int .i64 C.wear]] (by kernel_rfl) (wanted_some 1 30 true (by kernel_rfl) (by kernel_rfl) (by kernel_rfl) (by kernel_rfl)) (stable_val _) (args1 (.tmp 31) (.agg #[.int .i64 C.nodes, .int .i64 C.slots, .int .i64 C.pages, .int .i64 C.room, .int .i64 (C.chunk + 1), .int .i64 C.buffer, .int .i64 C.queue, .int .i64 C.wear]) (knows_new (V := isVal (.agg #[.int .i64 C.nodes, .int .i64 C.slots, .int .i64 C.pages, .int .i64 C.room, .int .i64 (C.chunk + 1), .int .i64 C.buffer, .int .i64 C.queue, .int .i64 C.wear])) 31 2 (by kernel_rfl) (by kernel_rfl) (by kernel_rfl))) (enters_of Try.func29 (by kernel_rfl) rfl) (by intro w' hb; exact cv1 (gc_check (⟨C.nodes, C.slots, C.pages, C.room, C.chunk + 1, C.buffer, C.queue, C.wear⟩ : Cf) 0 w' (chkC_yes kd))), ?_⟩
  refine ⟨isVal (.bool false), step_bin .neq 28 28 (.tmp 32) (.const (.int .i64 0)) (.int .i64 0) (.int .i64 0) (.bool false) (by kernel_rfl) (wanted_some 1 30 true (by kernel_rfl) (by kernel_rfl) (by kernel_rfl) (by kernel_rfl)) (knows_new (V := isVal (.int .i64 0)) 32 3 (by kernel_rfl) (by kernel_rfl) (by kernel_rfl)) (knows_const _) (fun _ => rfl) (neq_f _ _ (by omega)), ?_⟩
  refine ⟨isVal (.bool false), step_move (.tmp 33) (by kernel_rfl) (wanted_some 1 30 true (by kernel_rfl) (by kernel_rfl) (by kernel_rfl) (by kernel_rfl)) (stable_val _) (knows_new (V := isVal (.bool false)) 33 4 (by kernel_rfl) (by kernel_rfl) (by kernel_rfl)), ?_⟩
  refine ⟨isVal (.agg #[.int .i64 C.nodes, .int .i64 C.slots, .int .i64 C.pages, .int .i64 C.room, .int .i64 (C.chunk + 1), .int .i64 C.buffer, .int .i64 C.queue, .int .i64 C.wear]), step_loadN 38 (.tmp 4) (gd) [.int .i64 C.nodes, .int .i64 C.slots, .int .i64 C.pages, .int .i64 C.room, .int .i64 (C.chunk + 1), .int .i64 C.buffer, .int .i64 C.queue, .int .i64 C.wear] (by kernel_rfl) (wanted_some 5 34 false (by kernel_rfl) (by kernel_rfl) (by kernel_rfl) (by kernel_rfl)) (knows_old 4 (.pointer (some ⟨gd, 0, none⟩)) (by kernel_rfl) e4) size_cf agg_cf (hd), ?_⟩
  refine ⟨isVal (.int .i64 rd), step_call 32 #[.tmp 35] #[38] #[.agg #[.int .i64 C.nodes, .int .i64 C.slots, .int .i64 C.pages, .int .i64 C.room, .int .i64 (C.chunk + 1), .int .i64 C.buffer, .int .i64 C.queue, .int .i64 C.wear]] (by kernel_rfl) (wanted_some 5 34 false (by kernel_rfl) (by kernel_rfl) (by kernel_rfl) (by kernel_rfl)) (stable_val _) (args1 (.tmp 35) (.agg #[.int .i64 C.nodes, .int .i64 C.slots, .int .i64 C.pages, .int .i64 C.room, .int .i64 (C.chunk + 1), .int .i64 C.buffer, .int .i64 C.queue, .int .i64 C.wear]) (knows_new (V := isVal (.agg #[.int .i64 C.nodes, .int .i64 C.slots, .int .i64 C.pages, .int .i64 C.room, .int .i64 (C.chunk + 1), .int .i64 C.buffer, .int .i64 C.queue, .int .i64 C.wear])) 35 6 (by kernel_rfl) (by kernel_rfl) (by kernel_rfl))) (enters_of Try.func32 (by kernel_rfl) rfl) (by intro w' hb; exact cv1 (gc_rounds (⟨C.nodes, C.slots, C.pages, C.room, C.chunk + 1, C.buffer, C.queue, C.wear⟩ : Cf) rd w' hrd)), ?_⟩
  refine ⟨isVal (.agg #[.int .i64 C.nodes, .int .i64 C.slots, .int .i64 C.pages, .int .i64 C.room, .int .i64 C.chunk, .int .i64 C.buffer, .int .i64 C.queue, .int .i64 C.wear]), step_loadN 38 (.tmp 1) (g) [.int .i64 C.nodes, .int .i64 C.slots, .int .i64 C.pages, .int .i64 C.room, .int .i64 C.chunk, .int .i64 C.buffer, .int .i64 C.queue, .int .i64 C.wear] (by kernel_rfl) (wanted_some 5 34 false (by kernel_rfl) (by kernel_rfl) (by kernel_rfl) (by kernel_rfl)) (knows_old 1 (.pointer (some ⟨g, 0, none⟩)) (by kernel_rfl) e1) size_cf agg_cf (hc), ?_⟩
  refine ⟨isVal (.int .i64 rc), step_call 32 #[.tmp 37] #[38] #[.agg #[.int .i64 C.nodes, .int .i64 C.slots, .int .i64 C.pages, .int .i64 C.room, .int .i64 C.chunk, .int .i64 C.buffer, .int .i64 C.queue, .int .i64 C.wear]] (by kernel_rfl) (wanted_some 5 34 false (by kernel_rfl) (by kernel_rfl) (by kernel_rfl) (by kernel_rfl)) (stable_val _) (args1 (.tmp 37) (.agg #[.int .i64 C.nodes, .int .i64 C.slots, .int .i64 C.pages, .int .i64 C.room, .int .i64 C.chunk, .int .i64 C.buffer, .int .i64 C.queue, .int .i64 C.wear]) (knows_new (V := isVal (.agg #[.int .i64 C.nodes, .int .i64 C.slots, .int .i64 C.pages, .int .i64 C.room, .int .i64 C.chunk, .int .i64 C.buffer, .int .i64 C.queue, .int .i64 C.wear])) 37 8 (by kernel_rfl) (by kernel_rfl) (by kernel_rfl))) (enters_of Try.func32 (by kernel_rfl) rfl) (by intro w' hb; exact cv1 (gc_rounds C rc w' hrc)), ?_⟩
  refine ⟨isVal (.bool true), step_bin .leq 3 3 (.tmp 36) (.tmp 38) (.int .i64 rd) (.int .i64 rc) (.bool true) (by kernel_rfl) (wanted_some 5 34 false (by kernel_rfl) (by kernel_rfl) (by kernel_rfl) (by kernel_rfl)) (knows_new (V := isVal (.int .i64 rd)) 36 7 (by kernel_rfl) (by kernel_rfl) (by kernel_rfl)) (knows_new (V := isVal (.int .i64 rc)) 38 9 (by kernel_rfl) (by kernel_rfl) (by kernel_rfl)) (fun _ => rfl) (leq_t _ _ (by omega)), ?_⟩
  refine ⟨isVal (.bool true), step_pick (.tmp 34) (.const (.bool true)) (.tmp 39) false (by kernel_rfl) (wanted_some 1 30 true (by kernel_rfl) (by kernel_rfl) (by kernel_rfl) (by kernel_rfl)) (stable_val _) (knows_new (V := isVal (.bool false)) 34 5 (by kernel_rfl) (by kernel_rfl) (by kernel_rfl)) (knows_new (V := isVal (.bool true)) 39 10 (by kernel_rfl) (by kernel_rfl) (by kernel_rfl)), ?_⟩
  refine ⟨isVal (.bool true), step_pick (.tmp 30) (.tmp 40) (.const (.bool false)) true (by kernel_rfl) (wanted_none (by kernel_rfl)) (stable_val _) (knows_new (V := isVal (.bool true)) 30 1 (by kernel_rfl) (by kernel_rfl) (by kernel_rfl)) (knows_new (V := isVal (.bool true)) 40 11 (by kernel_rfl) (by kernel_rfl) (by kernel_rfl)), ?_⟩
  refine ⟨isVal (.bool true), step_move (.tmp 41) (by kernel_rfl) (wanted_none (by kernel_rfl)) (stable_val _) (knows_new (V := isVal (.bool true)) 41 12 (by kernel_rfl) (by kernel_rfl) (by kernel_rfl)), ?_⟩
  refine ⟨isVal (.agg #[.int .i64 (C.nodes + 1), .int .i64 C.slots, .int .i64 C.pages, .int .i64 C.room, .int .i64 C.chunk, .int .i64 C.buffer, .int .i64 C.queue, .int .i64 C.wear]), step_loadN 38 (.tmp 5) (ge) [.int .i64 (C.nodes + 1), .int .i64 C.slots, .int .i64 C.pages, .int .i64 C.room, .int .i64 C.chunk, .int .i64 C.buffer, .int .i64 C.queue, .int .i64 C.wear] (by kernel_rfl) (wanted_some 13 42 true (by kernel_rfl) (by kernel_rfl) (by kernel_rfl) (by kernel_rfl)) (knows_old 5 (.pointer (some ⟨ge, 0, none⟩)) (by kernel_rfl) e5) size_cf agg_cf (he), ?_⟩
  refine ⟨isVal (.int .i64 0), step_call 29 #[.tmp 43] #[38] #[.agg #[.int .i64 (C.nodes + 1), .int .i64 C.slots, .int .i64 C.pages, .int .i64 C.room, .int .i64 C.chunk, .int .i64 C.buffer, .int .i64 C.queue, .int .i64 C.wear]] (by kernel_rfl) (wanted_some 13 42 true (by kernel_rfl) (by kernel_rfl) (by kernel_rfl) (by kernel_rfl)) (stable_val _) (args1 (.tmp 43) (.agg #[.int .i64 (C.nodes + 1), .int .i64 C.slots, .int .i64 C.pages, .int .i64 C.room, .int .i64 C.chunk, .int .i64 C.buffer, .int .i64 C.queue, .int .i64 C.wear]) (knows_new (V := isVal (.agg #[.int .i64 (C.nodes + 1), .int .i64 C.slots, .int .i64 C.pages, .int .i64 C.room, .int .i64 C.chunk, .int .i64 C.buffer, .int .i64 C.queue, .int .i64 C.wear])) 43 14 (by kernel_rfl) (by kernel_rfl) (by kernel_rfl))) (enters_of Try.func29 (by kernel_rfl) rfl) (by intro w' hb; exact cv1 (gc_check (⟨C.nodes + 1, C.slots, C.pages, C.room, C.chunk, C.buffer, C.queue, C.wear⟩ : Cf) 0 w' (chkC_yes ke))), ?_⟩
  refine ⟨isVal (.bool false), step_bin .neq 28 28 (.tmp 44) (.const (.int .i64 0)) (.int .i64 0) (.int .i64 0) (.bool false) (by kernel_rfl) (wanted_some 13 42 true (by kernel_rfl) (by kernel_rfl) (by kernel_rfl) (by kernel_rfl)) (knows_new (V := isVal (.int .i64 0)) 44 15 (by kernel_rfl) (by kernel_rfl) (by kernel_rfl)) (knows_const _) (fun _ => rfl) (neq_f _ _ (by omega)), ?_⟩
  refine ⟨isVal (.bool false), step_move (.tmp 45) (by kernel_rfl) (wanted_some 13 42 true (by kernel_rfl) (by kernel_rfl) (by kernel_rfl) (by kernel_rfl)) (stable_val _) (knows_new (V := isVal (.bool false)) 45 16 (by kernel_rfl) (by kernel_rfl) (by kernel_rfl)), ?_⟩
  refine ⟨isVal (.agg #[.int .i64 (C.nodes + 1), .int .i64 C.slots, .int .i64 C.pages, .int .i64 C.room, .int .i64 C.chunk, .int .i64 C.buffer, .int .i64 C.queue, .int .i64 C.wear]), step_loadN 38 (.tmp 5) (ge) [.int .i64 (C.nodes + 1), .int .i64 C.slots, .int .i64 C.pages, .int .i64 C.room, .int .i64 C.chunk, .int .i64 C.buffer, .int .i64 C.queue, .int .i64 C.wear] (by kernel_rfl) (wanted_some 17 46 false (by kernel_rfl) (by kernel_rfl) (by kernel_rfl) (by kernel_rfl)) (knows_old 5 (.pointer (some ⟨ge, 0, none⟩)) (by kernel_rfl) e5) size_cf agg_cf (he), ?_⟩
  refine ⟨isVal (.int .i64 re), step_call 32 #[.tmp 47] #[38] #[.agg #[.int .i64 (C.nodes + 1), .int .i64 C.slots, .int .i64 C.pages, .int .i64 C.room, .int .i64 C.chunk, .int .i64 C.buffer, .int .i64 C.queue, .int .i64 C.wear]] (by kernel_rfl) (wanted_some 17 46 false (by kernel_rfl) (by kernel_rfl) (by kernel_rfl) (by kernel_rfl)) (stable_val _) (args1 (.tmp 47) (.agg #[.int .i64 (C.nodes + 1), .int .i64 C.slots, .int .i64 C.pages, .int .i64 C.room, .int .i64 C.chunk, .int .i64 C.buffer, .int .i64 C.queue, .int .i64 C.wear]) (knows_new (V := isVal (.agg #[.int .i64 (C.nodes + 1), .int .i64 C.slots, .int .i64 C.pages, .int .i64 C.room, .int .i64 C.chunk, .int .i64 C.buffer, .int .i64 C.queue, .int .i64 C.wear])) 47 18 (by kernel_rfl) (by kernel_rfl) (by kernel_rfl))) (enters_of Try.func32 (by kernel_rfl) rfl) (by intro w' hb; exact cv1 (gc_rounds (⟨C.nodes + 1, C.slots, C.pages, C.room, C.chunk, C.buffer, C.queue, C.wear⟩ : Cf) re w' hre)), ?_⟩
  refine ⟨isVal (.agg #[.int .i64 C.nodes, .int .i64 C.slots, .int .i64 C.pages, .int .i64 C.room, .int .i64 C.chunk, .int .i64 C.buffer, .int .i64 C.queue, .int .i64 C.wear]), step_loadN 38 (.tmp 1) (g) [.int .i64 C.nodes, .int .i64 C.slots, .int .i64 C.pages, .int .i64 C.room, .int .i64 C.chunk, .int .i64 C.buffer, .int .i64 C.queue, .int .i64 C.wear] (by kernel_rfl) (wanted_some 17 46 false (by kernel_rfl) (by kernel_rfl) (by kernel_rfl) (by kernel_rfl)) (knows_old 1 (.pointer (some ⟨g, 0, none⟩)) (by kernel_rfl) e1) size_cf agg_cf (hc), ?_⟩
  refine ⟨isVal (.int .i64 rc), step_call 32 #[.tmp 49] #[38] #[.agg #[.int .i64 C.nodes, .int .i64 C.slots, .int .i64 C.pages, .int .i64 C.room, .int .i64 C.chunk, .int .i64 C.buffer, .int .i64 C.queue, .int .i64 C.wear]] (by kernel_rfl) (wanted_some 17 46 false (by kernel_rfl) (by kernel_rfl) (by kernel_rfl) (by kernel_rfl)) (stable_val _) (args1 (.tmp 49) (.agg #[.int .i64 C.nodes, .int .i64 C.slots, .int .i64 C.pages, .int .i64 C.room, .int .i64 C.chunk, .int .i64 C.buffer, .int .i64 C.queue, .int .i64 C.wear]) (knows_new (V := isVal (.agg #[.int .i64 C.nodes, .int .i64 C.slots, .int .i64 C.pages, .int .i64 C.room, .int .i64 C.chunk, .int .i64 C.buffer, .int .i64 C.queue, .int .i64 C.wear])) 49 20 (by kernel_rfl) (by kernel_rfl) (by kernel_rfl))) (enters_of Try.func32 (by kernel_rfl) rfl) (by intro w' hb; exact cv1 (gc_rounds C rc w' hrc)), ?_⟩
  refine ⟨isVal (.bool true), step_bin .gtr 3 3 (.tmp 48) (.tmp 50) (.int .i64 re) (.int .i64 rc) (.bool true) (by kernel_rfl) (wanted_some 17 46 false (by kernel_rfl) (by kernel_rfl) (by kernel_rfl) (by kernel_rfl)) (knows_new (V := isVal (.int .i64 re)) 48 19 (by kernel_rfl) (by kernel_rfl) (by kernel_rfl)) (knows_new (V := isVal (.int .i64 rc)) 50 21 (by kernel_rfl) (by kernel_rfl) (by kernel_rfl)) (fun _ => rfl) (gtr_t _ _ (by omega)), ?_⟩
  refine ⟨isVal (.bool true), step_pick (.tmp 46) (.const (.bool true)) (.tmp 51) false (by kernel_rfl) (wanted_some 13 42 true (by kernel_rfl) (by kernel_rfl) (by kernel_rfl) (by kernel_rfl)) (stable_val _) (knows_new (V := isVal (.bool false)) 46 17 (by kernel_rfl) (by kernel_rfl) (by kernel_rfl)) (knows_new (V := isVal (.bool true)) 51 22 (by kernel_rfl) (by kernel_rfl) (by kernel_rfl)), ?_⟩
  refine ⟨isVal (.bool true), step_pick (.tmp 42) (.tmp 52) (.const (.bool false)) true (by kernel_rfl) (wanted_none (by kernel_rfl)) (stable_val _) (knows_new (V := isVal (.bool true)) 42 13 (by kernel_rfl) (by kernel_rfl) (by kernel_rfl)) (knows_new (V := isVal (.bool true)) 52 23 (by kernel_rfl) (by kernel_rfl) (by kernel_rfl)), ?_⟩
  refine ⟨isVal (.bool true), step_move (.tmp 53) (by kernel_rfl) (wanted_none (by kernel_rfl)) (stable_val _) (knows_new (V := isVal (.bool true)) 53 24 (by kernel_rfl) (by kernel_rfl) (by kernel_rfl)), ?_⟩
  refine ⟨isVal (.agg #[.int .i64 C.nodes, .int .i64 (C.slots + 1), .int .i64 C.pages, .int .i64 C.room, .int .i64 C.chunk, .int .i64 C.buffer, .int .i64 C.queue, .int .i64 C.wear]), step_loadN 38 (.tmp 6) (gf) [.int .i64 C.nodes, .int .i64 (C.slots + 1), .int .i64 C.pages, .int .i64 C.room, .int .i64 C.chunk, .int .i64 C.buffer, .int .i64 C.queue, .int .i64 C.wear] (by kernel_rfl) (wanted_some 25 54 true (by kernel_rfl) (by kernel_rfl) (by kernel_rfl) (by kernel_rfl)) (knows_old 6 (.pointer (some ⟨gf, 0, none⟩)) (by kernel_rfl) e6) size_cf agg_cf (hf), ?_⟩
  refine ⟨isVal (.int .i64 1), step_call 29 #[.tmp 55] #[38] #[.agg #[.int .i64 C.nodes, .int .i64 (C.slots + 1), .int .i64 C.pages, .int .i64 C.room, .int .i64 C.chunk, .int .i64 C.buffer, .int .i64 C.queue, .int .i64 C.wear]] (by kernel_rfl) (wanted_some 25 54 true (by kernel_rfl) (by kernel_rfl) (by kernel_rfl) (by kernel_rfl)) (stable_val _) (args1 (.tmp 55) (.agg #[.int .i64 C.nodes, .int .i64 (C.slots + 1), .int .i64 C.pages, .int .i64 C.room, .int .i64 C.chunk, .int .i64 C.buffer, .int .i64 C.queue, .int .i64 C.wear]) (knows_new (V := isVal (.agg #[.int .i64 C.nodes, .int .i64 (C.slots + 1), .int .i64 C.pages, .int .i64 C.room, .int .i64 C.chunk, .int .i64 C.buffer, .int .i64 C.queue, .int .i64 C.wear])) 55 26 (by kernel_rfl) (by kernel_rfl) (by kernel_rfl))) (enters_of Try.func29 (by kernel_rfl) rfl) (by intro w' hb; exact cv1 (gc_check (⟨C.nodes, C.slots + 1, C.pages, C.room, C.chunk, C.buffer, C.queue, C.wear⟩ : Cf) 1 w' (chkC_no kf))), ?_⟩
  refine ⟨isVal (.bool true), step_bin .neq 28 28 (.tmp 56) (.const (.int .i64 0)) (.int .i64 1) (.int .i64 0) (.bool true) (by kernel_rfl) (wanted_some 25 54 true (by kernel_rfl) (by kernel_rfl) (by kernel_rfl) (by kernel_rfl)) (knows_new (V := isVal (.int .i64 1)) 56 27 (by kernel_rfl) (by kernel_rfl) (by kernel_rfl)) (knows_const _) (fun _ => rfl) (neq_t _ _ (by omega)), ?_⟩
  refine ⟨isVal (.bool true), step_move (.tmp 57) (by kernel_rfl) (wanted_some 25 54 true (by kernel_rfl) (by kernel_rfl) (by kernel_rfl) (by kernel_rfl)) (stable_val _) (knows_new (V := isVal (.bool true)) 57 28 (by kernel_rfl) (by kernel_rfl) (by kernel_rfl)), ?_⟩
  refine ⟨_, step_skip 29 58 false true (by kernel_rfl) (by kernel_rfl) (by kernel_rfl) (by kernel_rfl) rfl, ?_⟩
  refine ⟨_, step_skip 29 58 false true (by kernel_rfl) (by kernel_rfl) (by kernel_rfl) (by kernel_rfl) rfl, ?_⟩
  refine ⟨_, step_skip 29 58 false true (by kernel_rfl) (by kernel_rfl) (by kernel_rfl) (by kernel_rfl) rfl, ?_⟩
  refine ⟨_, step_skip 29 58 false true (by kernel_rfl) (by kernel_rfl) (by kernel_rfl) (by kernel_rfl) rfl, ?_⟩
  refine ⟨_, step_skip 29 58 false true (by kernel_rfl) (by kernel_rfl) (by kernel_rfl) (by kernel_rfl) rfl, ?_⟩
  refine ⟨_, step_skip 29 58 false true (by kernel_rfl) (by kernel_rfl) (by kernel_rfl) (by kernel_rfl) rfl, ?_⟩
  refine ⟨_, step_skipU 35 64 true (by kernel_rfl) (by kernel_rfl) (by kernel_rfl) (by kernel_rfl), ?_⟩
  refine ⟨_, step_skipU 35 64 true (by kernel_rfl) (by kernel_rfl) (by kernel_rfl) (by kernel_rfl), ?_⟩
  refine ⟨_, step_skipU 35 64 true (by kernel_rfl) (by kernel_rfl) (by kernel_rfl) (by kernel_rfl), ?_⟩
  refine ⟨_, step_skipU 35 64 true (by kernel_rfl) (by kernel_rfl) (by kernel_rfl) (by kernel_rfl), ?_⟩
  refine ⟨_, step_skipU 35 64 true (by kernel_rfl) (by kernel_rfl) (by kernel_rfl) (by kernel_rfl), ?_⟩
  refine ⟨_, step_skip 29 58 false true (by kernel_rfl) (by kernel_rfl) (by kernel_rfl) (by kernel_rfl) rfl, ?_⟩
  refine ⟨isVal (.bool true), step_pick (.tmp 58) (.const (.bool true)) (.tmp 70) true (by kernel_rfl) (wanted_some 25 54 true (by kernel_rfl) (by kernel_rfl) (by kernel_rfl) (by kernel_rfl)) (stable_val _) (knows_new (V := isVal (.bool true)) 58 29 (by kernel_rfl) (by kernel_rfl) (by kernel_rfl)) (knows_const _), ?_⟩
  refine ⟨isVal (.bool true), step_pick (.tmp 54) (.tmp 71) (.const (.bool false)) true (by kernel_rfl) (wanted_none (by kernel_rfl)) (stable_val _) (knows_new (V := isVal (.bool true)) 54 25 (by kernel_rfl) (by kernel_rfl) (by kernel_rfl)) (knows_new (V := isVal (.bool true)) 71 42 (by kernel_rfl) (by kernel_rfl) (by kernel_rfl)), ?_⟩
  refine ⟨isVal (.bool true), step_assign (.tmp 72) (by kernel_rfl) (wanted_none (by kernel_rfl)) (stable_val _) (knows_new (V := isVal (.bool true)) 72 43 (by kernel_rfl) (by kernel_rfl) (by kernel_rfl)), ?_⟩
  intro a w hkp hb hd
  rw [kept_of hkp [some 29, some 30, some 31, some 32, some 33, some 34, some 35, some 36, some 37, some 38, some 39, some 40, some 41, some 42, some 43, some 44, some 45, some 46, some 47, some 48, some 49, some 50, some 51, some 52, some 53, some 54, some 55, some 56, some 57, some 58, some 59, some 60, some 61, some 62, some 63, some 64, some 65, some 66, some 67, some 68, some 69, some 70, some 71, some 72, some 2] [29, 30, 31, 32, 33, 34, 35, 36, 37, 38, 39, 40, 41, 42, 43, 44, 45, 46, 47, 48, 49, 50, 51, 52, 53, 54, 55, 56, 57, 58, 59, 60, 61, 62, 63, 64, 65, 66, 67, 68, 69, 70, 71, 72, 2] (by kernel_rfl) (by decide)]
  have d2 := fdone_of (hd 44 (by rw [show mryynOps.size = 45 by kernel_rfl]; decide)) (t := 2) (V := isVal (.bool true)) (by kernel_rfl) (by kernel_rfl)
  exact hQ (fun s => a.tmps.getD s undef) w d2 hb
noncomputable def mrynyOps : Array Oper := regionOf Try.f6 12
set_option maxRecDepth 100000 in
set_option maxHeartbeats 2000000 in
theorem mryny_region (Q : Exit → Act → World → Prop) (a0 : Act) (w0 : World) (hsz : a0.tmps.size = 73) (g : Nat) (C : Cf) (hc : CellsN w0 g [.int .i64 C.nodes, .int .i64 C.slots, .int .i64 C.pages, .int .i64 C.room, .int .i64 C.chunk, .int .i64 C.buffer, .int .i64 C.queue, .int .i64 C.wear]) (e1 : a0.tmps.getD 1 undef = .pointer (some ⟨g, 0, none⟩)) (gd ge gf : Nat) (hd : CellsN w0 gd [.int .i64 C.nodes, .int .i64 C.slots, .int .i64 C.pages, .int .i64 C.room, .int .i64 (C.chunk + 1), .int .i64 C.buffer, .int .i64 C.queue, .int .i64 C.wear]) (he : CellsN w0 ge [.int .i64 (C.nodes + 1), .int .i64 C.slots, .int .i64 C.pages, .int .i64 C.room, .int .i64 C.chunk, .int .i64 C.buffer, .int .i64 C.queue, .int .i64 C.wear]) (hf : CellsN w0 gf [.int .i64 C.nodes, .int .i64 (C.slots + 1), .int .i64 C.pages, .int .i64 C.room, .int .i64 C.chunk, .int .i64 C.buffer, .int .i64 C.queue, .int .i64 C.wear]) (kd : okC ⟨C.nodes, C.slots, C.pages, C.room, C.chunk + 1, C.buffer, C.queue, C.wear⟩ = true) (ke : okC ⟨C.nodes + 1, C.slots, C.pages, C.room, C.chunk, C.buffer, C.queue, C.wear⟩ = false) (kf : okC ⟨C.nodes, C.slots + 1, C.pages, C.room, C.chunk, C.buffer, C.queue, C.wear⟩ = true) (rc rd re rf wc wf : Int) (hrc : roundsC C = rc) (hrd : roundsC ⟨C.nodes, C.slots, C.pages, C.room, C.chunk + 1, C.buffer, C.queue, C.wear⟩ = rd) (hre : roundsC ⟨C.nodes + 1, C.slots, C.pages, C.room, C.chunk, C.buffer, C.queue, C.wear⟩ = re) (hrf : roundsC ⟨C.nodes, C.slots + 1, C.pages, C.room, C.chunk, C.buffer, C.queue, C.wear⟩ = rf) (hwc : workC C = wc) (hwf : workC ⟨C.nodes, C.slots + 1, C.pages, C.room, C.chunk, C.buffer, C.queue, C.wear⟩ = wf) (q1 : rd ≤ rc) (q2 : True) (q3 : rc ≤ rf ∧ wc ≤ wf) (e3 : a0.tmps.getD 3 undef = .bool true) (e4 : a0.tmps.getD 4 undef = .pointer (some ⟨gd, 0, none⟩)) (e5 : a0.tmps.getD 5 undef = .pointer (some ⟨ge, 0, none⟩)) (e6 : a0.tmps.getD 6 undef = .pointer (some ⟨gf, 0, none⟩))
    (hQ : ∀ (g : Nat → Value) (w : World), g 2 = .bool true → Below w0.heap.size w0 w → Q .normal { tmps := [29, 30, 31, 32, 33, 34, 35, 36, 37, 38, 39, 40, 41, 42, 43, 44, 45, 46, 47, 48, 49, 50, 51, 52, 53, 54, 55, 56, 57, 58, 59, 60, 61, 62, 63, 64, 65, 66, 67, 68, 69, 70, 71, 72, 2].foldl (fun t s => t.setIfInBounds s (g s)) a0.tmps, defers := a0.defers } w) :
    (Code.region 12 mrynyOps true).wp Try.prog Q a0 w0 := by
  refine wp_region_flow mixed (by rw [hsz]; kernel_rfl) ?_
  rw [show mrynyOps.size = 45 by kernel_rfl]
  refine ⟨isVal (.bool true), step_move (.tmp 3) (by kernel_rfl) (wanted_none (by kernel_rfl)) (stable_val _) (knows_old 3 (.bool true) (by kernel_rfl) e3), ?_⟩
  refine ⟨isVal (.bool true), step_move (.tmp 29) (by kernel_rfl) (wanted_none (by kernel_rfl)) (stable_val _) (knows_new (V := isVal (.bool true)) 29 0 (by kernel_rfl) (by kernel_rfl) (by kernel_rfl)), ?_⟩
  refine ⟨isVal (.agg #[.int .i64 C.nodes, .int .i64 C.slots, .int .i64 C.pages, .int .i64 C.room, .int .i64 (C.chunk + 1), .int .i64 C.buffer, .int .i64 C.queue, .int .i64 C.wear]), step_loadN 38 (.tmp 4) (gd) [.int .i64 C.nodes, .int .i64 C.slots, .int .i64 C.pages, .int .i64 C.room, .int .i64 (C.chunk + 1), .int .i64 C.buffer, .int .i64 C.queue, .int .i64 C.wear] (by kernel_rfl) (wanted_some 1 30 true (by kernel_rfl) (by kernel_rfl) (by kernel_rfl) (by kernel_rfl)) (knows_old 4 (.pointer (some ⟨gd, 0, none⟩)) (by kernel_rfl) e4) size_cf agg_cf (hd), ?_⟩
  refine ⟨isVal (.int .i64 0), step_call 29 #[.tmp 31] #[38] #[.agg #[.int .i64 C.nodes, .int .i64 C.slots, .int .i64 C.pages, .int .i64 C.room, .int .i64 (C.chunk + 1), .int .i64 C.buffer, .int .i64 C.queue, .int .i64 C.wear]] (by kernel_rfl) (wanted_some 1 30 true (by kernel_rfl) (by kernel_rfl) (by kernel_rfl) (by kernel_rfl)) (stable_val _) (args1 (.tmp 31) (.agg #[.int .i64 C.nodes, .int .i64 C.slots, .int .i64 C.pages, .int .i64 C.room, .int .i64 (C.chunk + 1), .int .i64 C.buffer, .int .i64 C.queue, .int .i64 C.wear]) (knows_new (V := isVal (.agg #[.int .i64 C.nodes, .int .i64 C.slots, .int .i64 C.pages, .int .i64 C.room, .int .i64 (C.chunk + 1), .int .i64 C.buffer, .int .i64 C.queue, .int .i64 C.wear])) 31 2 (by kernel_rfl) (by kernel_rfl) (by kernel_rfl))) (enters_of Try.func29 (by kernel_rfl) rfl) (by intro w' hb; exact cv1 (gc_check (⟨C.nodes, C.slots, C.pages, C.room, C.chunk + 1, C.buffer, C.queue, C.wear⟩ : Cf) 0 w' (chkC_yes kd))), ?_⟩
  refine ⟨isVal (.bool false), step_bin .neq 28 28 (.tmp 32) (.const (.int .i64 0)) (.int .i64 0) (.int .i64 0) (.bool false) (by kernel_rfl) (wanted_some 1 30 true (by kernel_rfl) (by kernel_rfl) (by kernel_rfl) (by kernel_rfl)) (knows_new (V := isVal (.int .i64 0)) 32 3 (by kernel_rfl) (by kernel_rfl) (by kernel_rfl)) (knows_const _) (fun _ => rfl) (neq_f _ _ (by omega)), ?_⟩
  refine ⟨isVal (.bool false), step_move (.tmp 33) (by kernel_rfl) (wanted_some 1 30 true (by kernel_rfl) (by kernel_rfl) (by kernel_rfl) (by kernel_rfl)) (stable_val _) (knows_new (V := isVal (.bool false)) 33 4 (by kernel_rfl) (by kernel_rfl) (by kernel_rfl)), ?_⟩
  refine ⟨isVal (.agg #[.int .i64 C.nodes, .int .i64 C.slots, .int .i64 C.pages, .int .i64 C.room, .int .i64 (C.chunk + 1), .int .i64 C.buffer, .int .i64 C.queue, .int .i64 C.wear]), step_loadN 38 (.tmp 4) (gd) [.int .i64 C.nodes, .int .i64 C.slots, .int .i64 C.pages, .int .i64 C.room, .int .i64 (C.chunk + 1), .int .i64 C.buffer, .int .i64 C.queue, .int .i64 C.wear] (by kernel_rfl) (wanted_some 5 34 false (by kernel_rfl) (by kernel_rfl) (by kernel_rfl) (by kernel_rfl)) (knows_old 4 (.pointer (some ⟨gd, 0, none⟩)) (by kernel_rfl) e4) size_cf agg_cf (hd), ?_⟩
  refine ⟨isVal (.int .i64 rd), step_call 32 #[.tmp 35] #[38] #[.agg #[.int .i64 C.nodes, .int .i64 C.slots, .int .i64 C.pages, .int .i64 C.room, .int .i64 (C.chunk + 1), .int .i64 C.buffer, .int .i64 C.queue, .int .i64 C.wear]] (by kernel_rfl) (wanted_some 5 34 false (by kernel_rfl) (by kernel_rfl) (by kernel_rfl) (by kernel_rfl)) (stable_val _) (args1 (.tmp 35) (.agg #[.int .i64 C.nodes, .int .i64 C.slots, .int .i64 C.pages, .int .i64 C.room, .int .i64 (C.chunk + 1), .int .i64 C.buffer, .int .i64 C.queue, .int .i64 C.wear]) (knows_new (V := isVal (.agg #[.int .i64 C.nodes, .int .i64 C.slots, .int .i64 C.pages, .int .i64 C.room, .int .i64 (C.chunk + 1), .int .i64 C.buffer, .int .i64 C.queue, .int .i64 C.wear])) 35 6 (by kernel_rfl) (by kernel_rfl) (by kernel_rfl))) (enters_of Try.func32 (by kernel_rfl) rfl) (by intro w' hb; exact cv1 (gc_rounds (⟨C.nodes, C.slots, C.pages, C.room, C.chunk + 1, C.buffer, C.queue, C.wear⟩ : Cf) rd w' hrd)), ?_⟩
  refine ⟨isVal (.agg #[.int .i64 C.nodes, .int .i64 C.slots, .int .i64 C.pages, .int .i64 C.room, .int .i64 C.chunk, .int .i64 C.buffer, .int .i64 C.queue, .int .i64 C.wear]), step_loadN 38 (.tmp 1) (g) [.int .i64 C.nodes, .int .i64 C.slots, .int .i64 C.pages, .int .i64 C.room, .int .i64 C.chunk, .int .i64 C.buffer, .int .i64 C.queue, .int .i64 C.wear] (by kernel_rfl) (wanted_some 5 34 false (by kernel_rfl) (by kernel_rfl) (by kernel_rfl) (by kernel_rfl)) (knows_old 1 (.pointer (some ⟨g, 0, none⟩)) (by kernel_rfl) e1) size_cf agg_cf (hc), ?_⟩
  refine ⟨isVal (.int .i64 rc), step_call 32 #[.tmp 37] #[38] #[.agg #[.int .i64 C.nodes, .int .i64 C.slots, .int .i64 C.pages, .int .i64 C.room, .int .i64 C.chunk, .int .i64 C.buffer, .int .i64 C.queue, .int .i64 C.wear]] (by kernel_rfl) (wanted_some 5 34 false (by kernel_rfl) (by kernel_rfl) (by kernel_rfl) (by kernel_rfl)) (stable_val _) (args1 (.tmp 37) (.agg #[.int .i64 C.nodes, .int .i64 C.slots, .int .i64 C.pages, .int .i64 C.room, .int .i64 C.chunk, .int .i64 C.buffer, .int .i64 C.queue, .int .i64 C.wear]) (knows_new (V := isVal (.agg #[.int .i64 C.nodes, .int .i64 C.slots, .int .i64 C.pages, .int .i64 C.room, .int .i64 C.chunk, .int .i64 C.buffer, .int .i64 C.queue, .int .i64 C.wear])) 37 8 (by kernel_rfl) (by kernel_rfl) (by kernel_rfl))) (enters_of Try.func32 (by kernel_rfl) rfl) (by intro w' hb; exact cv1 (gc_rounds C rc w' hrc)), ?_⟩
  refine ⟨isVal (.bool true), step_bin .leq 3 3 (.tmp 36) (.tmp 38) (.int .i64 rd) (.int .i64 rc) (.bool true) (by kernel_rfl) (wanted_some 5 34 false (by kernel_rfl) (by kernel_rfl) (by kernel_rfl) (by kernel_rfl)) (knows_new (V := isVal (.int .i64 rd)) 36 7 (by kernel_rfl) (by kernel_rfl) (by kernel_rfl)) (knows_new (V := isVal (.int .i64 rc)) 38 9 (by kernel_rfl) (by kernel_rfl) (by kernel_rfl)) (fun _ => rfl) (leq_t _ _ (by omega)), ?_⟩
  refine ⟨isVal (.bool true), step_pick (.tmp 34) (.const (.bool true)) (.tmp 39) false (by kernel_rfl) (wanted_some 1 30 true (by kernel_rfl) (by kernel_rfl) (by kernel_rfl) (by kernel_rfl)) (stable_val _) (knows_new (V := isVal (.bool false)) 34 5 (by kernel_rfl) (by kernel_rfl) (by kernel_rfl)) (knows_new (V := isVal (.bool true)) 39 10 (by kernel_rfl) (by kernel_rfl) (by kernel_rfl)), ?_⟩
  refine ⟨isVal (.bool true), step_pick (.tmp 30) (.tmp 40) (.const (.bool false)) true (by kernel_rfl) (wanted_none (by kernel_rfl)) (stable_val _) (knows_new (V := isVal (.bool true)) 30 1 (by kernel_rfl) (by kernel_rfl) (by kernel_rfl)) (knows_new (V := isVal (.bool true)) 40 11 (by kernel_rfl) (by kernel_rfl) (by kernel_rfl)), ?_⟩
  refine ⟨isVal (.bool true), step_move (.tmp 41) (by kernel_rfl) (wanted_none (by kernel_rfl)) (stable_val _) (knows_new (V := isVal (.bool true)) 41 12 (by kernel_rfl) (by kernel_rfl) (by kernel_rfl)), ?_⟩
  refine ⟨isVal (.agg #[.int .i64 (C.nodes + 1), .int .i64 C.slots, .int .i64 C.pages, .int .i64 C.room, .int .i64 C.chunk, .int .i64 C.buffer, .int .i64 C.queue, .int .i64 C.wear]), step_loadN 38 (.tmp 5) (ge) [.int .i64 (C.nodes + 1), .int .i64 C.slots, .int .i64 C.pages, .int .i64 C.room, .int .i64 C.chunk, .int .i64 C.buffer, .int .i64 C.queue, .int .i64 C.wear] (by kernel_rfl) (wanted_some 13 42 true (by kernel_rfl) (by kernel_rfl) (by kernel_rfl) (by kernel_rfl)) (knows_old 5 (.pointer (some ⟨ge, 0, none⟩)) (by kernel_rfl) e5) size_cf agg_cf (he), ?_⟩
  refine ⟨isVal (.int .i64 1), step_call 29 #[.tmp 43] #[38] #[.agg #[.int .i64 (C.nodes + 1), .int .i64 C.slots, .int .i64 C.pages, .int .i64 C.room, .int .i64 C.chunk, .int .i64 C.buffer, .int .i64 C.queue, .int .i64 C.wear]] (by kernel_rfl) (wanted_some 13 42 true (by kernel_rfl) (by kernel_rfl) (by kernel_rfl) (by kernel_rfl)) (stable_val _) (args1 (.tmp 43) (.agg #[.int .i64 (C.nodes + 1), .int .i64 C.slots, .int .i64 C.pages, .int .i64 C.room, .int .i64 C.chunk, .int .i64 C.buffer, .int .i64 C.queue, .int .i64 C.wear]) (knows_new (V := isVal (.agg #[.int .i64 (C.nodes + 1), .int .i64 C.slots, .int .i64 C.pages, .int .i64 C.room, .int .i64 C.chunk, .int .i64 C.buffer, .int .i64 C.queue, .int .i64 C.wear])) 43 14 (by kernel_rfl) (by kernel_rfl) (by kernel_rfl))) (enters_of Try.func29 (by kernel_rfl) rfl) (by intro w' hb; exact cv1 (gc_check (⟨C.nodes + 1, C.slots, C.pages, C.room, C.chunk, C.buffer, C.queue, C.wear⟩ : Cf) 1 w' (chkC_no ke))), ?_⟩
  refine ⟨isVal (.bool true), step_bin .neq 28 28 (.tmp 44) (.const (.int .i64 0)) (.int .i64 1) (.int .i64 0) (.bool true) (by kernel_rfl) (wanted_some 13 42 true (by kernel_rfl) (by kernel_rfl) (by kernel_rfl) (by kernel_rfl)) (knows_new (V := isVal (.int .i64 1)) 44 15 (by kernel_rfl) (by kernel_rfl) (by kernel_rfl)) (knows_const _) (fun _ => rfl) (neq_t _ _ (by omega)), ?_⟩
  refine ⟨isVal (.bool true), step_move (.tmp 45) (by kernel_rfl) (wanted_some 13 42 true (by kernel_rfl) (by kernel_rfl) (by kernel_rfl) (by kernel_rfl)) (stable_val _) (knows_new (V := isVal (.bool true)) 45 16 (by kernel_rfl) (by kernel_rfl) (by kernel_rfl)), ?_⟩
  refine ⟨_, step_skip 17 46 false true (by kernel_rfl) (by kernel_rfl) (by kernel_rfl) (by kernel_rfl) rfl, ?_⟩
  refine ⟨_, step_skip 17 46 false true (by kernel_rfl) (by kernel_rfl) (by kernel_rfl) (by kernel_rfl) rfl, ?_⟩
  refine ⟨_, step_skip 17 46 false true (by kernel_rfl) (by kernel_rfl) (by kernel_rfl) (by kernel_rfl) rfl, ?_⟩
  refine ⟨_, step_skip 17 46 false true (by kernel_rfl) (by kernel_rfl) (by kernel_rfl) (by kernel_rfl) rfl, ?_⟩
  refine ⟨_, step_skip 17 46 false true (by kernel_rfl) (by kernel_rfl) (by kernel_rfl) (by kernel_rfl) rfl, ?_⟩
  refine ⟨isVal (.bool true), step_pick (.tmp 46) (.const (.bool true)) (.tmp 51) true (by kernel_rfl) (wanted_some 13 42 true (by kernel_rfl) (by kernel_rfl) (by kernel_rfl) (by kernel_rfl)) (stable_val _) (knows_new (V := isVal (.bool true)) 46 17 (by kernel_rfl) (by kernel_rfl) (by kernel_rfl)) (knows_const _), ?_⟩
  refine ⟨isVal (.bool true), step_pick (.tmp 42) (.tmp 52) (.const (.bool false)) true (by kernel_rfl) (wanted_none (by kernel_rfl)) (stable_val _) (knows_new (V := isVal (.bool true)) 42 13 (by kernel_rfl) (by kernel_rfl) (by kernel_rfl)) (knows_new (V := isVal (.bool true)) 52 23 (by kernel_rfl) (by kernel_rfl) (by kernel_rfl)), ?_⟩
  refine ⟨isVal (.bool true), step_move (.tmp 53) (by kernel_rfl) (wanted_none (by kernel_rfl)) (stable_val _) (knows_new (V := isVal (.bool true)) 53 24 (by kernel_rfl) (by kernel_rfl) (by kernel_rfl)), ?_⟩
  refine ⟨isVal (.agg #[.int .i64 C.nodes, .int .i64 (C.slots + 1), .int .i64 C.pages, .int .i64 C.room, .int .i64 C.chunk, .int .i64 C.buffer, .int .i64 C.queue, .int .i64 C.wear]), step_loadN 38 (.tmp 6) (gf) [.int .i64 C.nodes, .int .i64 (C.slots + 1), .int .i64 C.pages, .int .i64 C.room, .int .i64 C.chunk, .int .i64 C.buffer, .int .i64 C.queue, .int .i64 C.wear] (by kernel_rfl) (wanted_some 25 54 true (by kernel_rfl) (by kernel_rfl) (by kernel_rfl) (by kernel_rfl)) (knows_old 6 (.pointer (some ⟨gf, 0, none⟩)) (by kernel_rfl) e6) size_cf agg_cf (hf), ?_⟩
  refine ⟨isVal (.int .i64 0), step_call 29 #[.tmp 55] #[38] #[.agg #[.int .i64 C.nodes, .int .i64 (C.slots + 1), .int .i64 C.pages, .int .i64 C.room, .int .i64 C.chunk, .int .i64 C.buffer, .int .i64 C.queue, .int .i64 C.wear]] (by kernel_rfl) (wanted_some 25 54 true (by kernel_rfl) (by kernel_rfl) (by kernel_rfl) (by kernel_rfl)) (stable_val _) (args1 (.tmp 55) (.agg #[.int .i64 C.nodes, .int .i64 (C.slots + 1), .int .i64 C.pages, .int .i64 C.room, .int .i64 C.chunk, .int .i64 C.buffer, .int .i64 C.queue, .int .i64 C.wear]) (knows_new (V := isVal (.agg #[.int .i64 C.nodes, .int .i64 (C.slots + 1), .int .i64 C.pages, .int .i64 C.room, .int .i64 C.chunk, .int .i64 C.buffer, .int .i64 C.queue, .int .i64 C.wear])) 55 26 (by kernel_rfl) (by kernel_rfl) (by kernel_rfl))) (enters_of Try.func29 (by kernel_rfl) rfl) (by intro w' hb; exact cv1 (gc_check (⟨C.nodes, C.slots + 1, C.pages, C.room, C.chunk, C.buffer, C.queue, C.wear⟩ : Cf) 0 w' (chkC_yes kf))), ?_⟩
  refine ⟨isVal (.bool false), step_bin .neq 28 28 (.tmp 56) (.const (.int .i64 0)) (.int .i64 0) (.int .i64 0) (.bool false) (by kernel_rfl) (wanted_some 25 54 true (by kernel_rfl) (by kernel_rfl) (by kernel_rfl) (by kernel_rfl)) (knows_new (V := isVal (.int .i64 0)) 56 27 (by kernel_rfl) (by kernel_rfl) (by kernel_rfl)) (knows_const _) (fun _ => rfl) (neq_f _ _ (by omega)), ?_⟩
  refine ⟨isVal (.bool false), step_move (.tmp 57) (by kernel_rfl) (wanted_some 25 54 true (by kernel_rfl) (by kernel_rfl) (by kernel_rfl) (by kernel_rfl)) (stable_val _) (knows_new (V := isVal (.bool false)) 57 28 (by kernel_rfl) (by kernel_rfl) (by kernel_rfl)), ?_⟩
  refine ⟨isVal (.agg #[.int .i64 C.nodes, .int .i64 (C.slots + 1), .int .i64 C.pages, .int .i64 C.room, .int .i64 C.chunk, .int .i64 C.buffer, .int .i64 C.queue, .int .i64 C.wear]), step_loadN 38 (.tmp 6) (gf) [.int .i64 C.nodes, .int .i64 (C.slots + 1), .int .i64 C.pages, .int .i64 C.room, .int .i64 C.chunk, .int .i64 C.buffer, .int .i64 C.queue, .int .i64 C.wear] (by kernel_rfl) (wanted_some 29 58 false (by kernel_rfl) (by kernel_rfl) (by kernel_rfl) (by kernel_rfl)) (knows_old 6 (.pointer (some ⟨gf, 0, none⟩)) (by kernel_rfl) e6) size_cf agg_cf (hf), ?_⟩
  refine ⟨isVal (.int .i64 rf), step_call 32 #[.tmp 59] #[38] #[.agg #[.int .i64 C.nodes, .int .i64 (C.slots + 1), .int .i64 C.pages, .int .i64 C.room, .int .i64 C.chunk, .int .i64 C.buffer, .int .i64 C.queue, .int .i64 C.wear]] (by kernel_rfl) (wanted_some 29 58 false (by kernel_rfl) (by kernel_rfl) (by kernel_rfl) (by kernel_rfl)) (stable_val _) (args1 (.tmp 59) (.agg #[.int .i64 C.nodes, .int .i64 (C.slots + 1), .int .i64 C.pages, .int .i64 C.room, .int .i64 C.chunk, .int .i64 C.buffer, .int .i64 C.queue, .int .i64 C.wear]) (knows_new (V := isVal (.agg #[.int .i64 C.nodes, .int .i64 (C.slots + 1), .int .i64 C.pages, .int .i64 C.room, .int .i64 C.chunk, .int .i64 C.buffer, .int .i64 C.queue, .int .i64 C.wear])) 59 30 (by kernel_rfl) (by kernel_rfl) (by kernel_rfl))) (enters_of Try.func32 (by kernel_rfl) rfl) (by intro w' hb; exact cv1 (gc_rounds (⟨C.nodes, C.slots + 1, C.pages, C.room, C.chunk, C.buffer, C.queue, C.wear⟩ : Cf) rf w' hrf)), ?_⟩
  refine ⟨isVal (.agg #[.int .i64 C.nodes, .int .i64 C.slots, .int .i64 C.pages, .int .i64 C.room, .int .i64 C.chunk, .int .i64 C.buffer, .int .i64 C.queue, .int .i64 C.wear]), step_loadN 38 (.tmp 1) (g) [.int .i64 C.nodes, .int .i64 C.slots, .int .i64 C.pages, .int .i64 C.room, .int .i64 C.chunk, .int .i64 C.buffer, .int .i64 C.queue, .int .i64 C.wear] (by kernel_rfl) (wanted_some 29 58 false (by kernel_rfl) (by kernel_rfl) (by kernel_rfl) (by kernel_rfl)) (knows_old 1 (.pointer (some ⟨g, 0, none⟩)) (by kernel_rfl) e1) size_cf agg_cf (hc), ?_⟩
  refine ⟨isVal (.int .i64 rc), step_call 32 #[.tmp 61] #[38] #[.agg #[.int .i64 C.nodes, .int .i64 C.slots, .int .i64 C.pages, .int .i64 C.room, .int .i64 C.chunk, .int .i64 C.buffer, .int .i64 C.queue, .int .i64 C.wear]] (by kernel_rfl) (wanted_some 29 58 false (by kernel_rfl) (by kernel_rfl) (by kernel_rfl) (by kernel_rfl)) (stable_val _) (args1 (.tmp 61) (.agg #[.int .i64 C.nodes, .int .i64 C.slots, .int .i64 C.pages, .int .i64 C.room, .int .i64 C.chunk, .int .i64 C.buffer, .int .i64 C.queue, .int .i64 C.wear]) (knows_new (V := isVal (.agg #[.int .i64 C.nodes, .int .i64 C.slots, .int .i64 C.pages, .int .i64 C.room, .int .i64 C.chunk, .int .i64 C.buffer, .int .i64 C.queue, .int .i64 C.wear])) 61 32 (by kernel_rfl) (by kernel_rfl) (by kernel_rfl))) (enters_of Try.func32 (by kernel_rfl) rfl) (by intro w' hb; exact cv1 (gc_rounds C rc w' hrc)), ?_⟩
  refine ⟨isVal (.bool true), step_bin .geq 3 3 (.tmp 60) (.tmp 62) (.int .i64 rf) (.int .i64 rc) (.bool true) (by kernel_rfl) (wanted_some 29 58 false (by kernel_rfl) (by kernel_rfl) (by kernel_rfl) (by kernel_rfl)) (knows_new (V := isVal (.int .i64 rf)) 60 31 (by kernel_rfl) (by kernel_rfl) (by kernel_rfl)) (knows_new (V := isVal (.int .i64 rc)) 62 33 (by kernel_rfl) (by kernel_rfl) (by kernel_rfl)) (fun _ => rfl) (geq_t _ _ (by omega)), ?_⟩
  refine ⟨isVal (.bool true), step_move (.tmp 63) (by kernel_rfl) (wanted_some 29 58 false (by kernel_rfl) (by kernel_rfl) (by kernel_rfl) (by kernel_rfl)) (stable_val _) (knows_new (V := isVal (.bool true)) 63 34 (by kernel_rfl) (by kernel_rfl) (by kernel_rfl)), ?_⟩
  refine ⟨isVal (.agg #[.int .i64 C.nodes, .int .i64 (C.slots + 1), .int .i64 C.pages, .int .i64 C.room, .int .i64 C.chunk, .int .i64 C.buffer, .int .i64 C.queue, .int .i64 C.wear]), step_loadN 38 (.tmp 6) (gf) [.int .i64 C.nodes, .int .i64 (C.slots + 1), .int .i64 C.pages, .int .i64 C.room, .int .i64 C.chunk, .int .i64 C.buffer, .int .i64 C.queue, .int .i64 C.wear] (by kernel_rfl) (wanted_some 35 64 true (by kernel_rfl) (by kernel_rfl) (by kernel_rfl) (by kernel_rfl)) (knows_old 6 (.pointer (some ⟨gf, 0, none⟩)) (by kernel_rfl) e6) size_cf agg_cf (hf), ?_⟩
  refine ⟨isVal (.int .i64 wf), step_call 33 #[.tmp 65] #[38] #[.agg #[.int .i64 C.nodes, .int .i64 (C.slots + 1), .int .i64 C.pages, .int .i64 C.room, .int .i64 C.chunk, .int .i64 C.buffer, .int .i64 C.queue, .int .i64 C.wear]] (by kernel_rfl) (wanted_some 35 64 true (by kernel_rfl) (by kernel_rfl) (by kernel_rfl) (by kernel_rfl)) (stable_val _) (args1 (.tmp 65) (.agg #[.int .i64 C.nodes, .int .i64 (C.slots + 1), .int .i64 C.pages, .int .i64 C.room, .int .i64 C.chunk, .int .i64 C.buffer, .int .i64 C.queue, .int .i64 C.wear]) (knows_new (V := isVal (.agg #[.int .i64 C.nodes, .int .i64 (C.slots + 1), .int .i64 C.pages, .int .i64 C.room, .int .i64 C.chunk, .int .i64 C.buffer, .int .i64 C.queue, .int .i64 C.wear])) 65 36 (by kernel_rfl) (by kernel_rfl) (by kernel_rfl))) (enters_of Try.func33 (by kernel_rfl) rfl) (by intro w' hb; exact cv1 (gc_work (⟨C.nodes, C.slots + 1, C.pages, C.room, C.chunk, C.buffer, C.queue, C.wear⟩ : Cf) wf w' hwf)), ?_⟩
  refine ⟨isVal (.agg #[.int .i64 C.nodes, .int .i64 C.slots, .int .i64 C.pages, .int .i64 C.room, .int .i64 C.chunk, .int .i64 C.buffer, .int .i64 C.queue, .int .i64 C.wear]), step_loadN 38 (.tmp 1) (g) [.int .i64 C.nodes, .int .i64 C.slots, .int .i64 C.pages, .int .i64 C.room, .int .i64 C.chunk, .int .i64 C.buffer, .int .i64 C.queue, .int .i64 C.wear] (by kernel_rfl) (wanted_some 35 64 true (by kernel_rfl) (by kernel_rfl) (by kernel_rfl) (by kernel_rfl)) (knows_old 1 (.pointer (some ⟨g, 0, none⟩)) (by kernel_rfl) e1) size_cf agg_cf (hc), ?_⟩
  refine ⟨isVal (.int .i64 wc), step_call 33 #[.tmp 67] #[38] #[.agg #[.int .i64 C.nodes, .int .i64 C.slots, .int .i64 C.pages, .int .i64 C.room, .int .i64 C.chunk, .int .i64 C.buffer, .int .i64 C.queue, .int .i64 C.wear]] (by kernel_rfl) (wanted_some 35 64 true (by kernel_rfl) (by kernel_rfl) (by kernel_rfl) (by kernel_rfl)) (stable_val _) (args1 (.tmp 67) (.agg #[.int .i64 C.nodes, .int .i64 C.slots, .int .i64 C.pages, .int .i64 C.room, .int .i64 C.chunk, .int .i64 C.buffer, .int .i64 C.queue, .int .i64 C.wear]) (knows_new (V := isVal (.agg #[.int .i64 C.nodes, .int .i64 C.slots, .int .i64 C.pages, .int .i64 C.room, .int .i64 C.chunk, .int .i64 C.buffer, .int .i64 C.queue, .int .i64 C.wear])) 67 38 (by kernel_rfl) (by kernel_rfl) (by kernel_rfl))) (enters_of Try.func33 (by kernel_rfl) rfl) (by intro w' hb; exact cv1 (gc_work C wc w' hwc)), ?_⟩
  refine ⟨isVal (.bool true), step_bin .geq 3 3 (.tmp 66) (.tmp 68) (.int .i64 wf) (.int .i64 wc) (.bool true) (by kernel_rfl) (wanted_some 35 64 true (by kernel_rfl) (by kernel_rfl) (by kernel_rfl) (by kernel_rfl)) (knows_new (V := isVal (.int .i64 wf)) 66 37 (by kernel_rfl) (by kernel_rfl) (by kernel_rfl)) (knows_new (V := isVal (.int .i64 wc)) 68 39 (by kernel_rfl) (by kernel_rfl) (by kernel_rfl)) (fun _ => rfl) (geq_t _ _ (by omega)), ?_⟩
  refine ⟨isVal (.bool true), step_pick (.tmp 64) (.tmp 69) (.const (.bool false)) true (by kernel_rfl) (wanted_some 29 58 false (by kernel_rfl) (by kernel_rfl) (by kernel_rfl) (by kernel_rfl)) (stable_val _) (knows_new (V := isVal (.bool true)) 64 35 (by kernel_rfl) (by kernel_rfl) (by kernel_rfl)) (knows_new (V := isVal (.bool true)) 69 40 (by kernel_rfl) (by kernel_rfl) (by kernel_rfl)), ?_⟩
  refine ⟨isVal (.bool true), step_pick (.tmp 58) (.const (.bool true)) (.tmp 70) false (by kernel_rfl) (wanted_some 25 54 true (by kernel_rfl) (by kernel_rfl) (by kernel_rfl) (by kernel_rfl)) (stable_val _) (knows_new (V := isVal (.bool false)) 58 29 (by kernel_rfl) (by kernel_rfl) (by kernel_rfl)) (knows_new (V := isVal (.bool true)) 70 41 (by kernel_rfl) (by kernel_rfl) (by kernel_rfl)), ?_⟩
  refine ⟨isVal (.bool true), step_pick (.tmp 54) (.tmp 71) (.const (.bool false)) true (by kernel_rfl) (wanted_none (by kernel_rfl)) (stable_val _) (knows_new (V := isVal (.bool true)) 54 25 (by kernel_rfl) (by kernel_rfl) (by kernel_rfl)) (knows_new (V := isVal (.bool true)) 71 42 (by kernel_rfl) (by kernel_rfl) (by kernel_rfl)), ?_⟩
  refine ⟨isVal (.bool true), step_assign (.tmp 72) (by kernel_rfl) (wanted_none (by kernel_rfl)) (stable_val _) (knows_new (V := isVal (.bool true)) 72 43 (by kernel_rfl) (by kernel_rfl) (by kernel_rfl)), ?_⟩
  intro a w hkp hb hd
  rw [kept_of hkp [some 29, some 30, some 31, some 32, some 33, some 34, some 35, some 36, some 37, some 38, some 39, some 40, some 41, some 42, some 43, some 44, some 45, some 46, some 47, some 48, some 49, some 50, some 51, some 52, some 53, some 54, some 55, some 56, some 57, some 58, some 59, some 60, some 61, some 62, some 63, some 64, some 65, some 66, some 67, some 68, some 69, some 70, some 71, some 72, some 2] [29, 30, 31, 32, 33, 34, 35, 36, 37, 38, 39, 40, 41, 42, 43, 44, 45, 46, 47, 48, 49, 50, 51, 52, 53, 54, 55, 56, 57, 58, 59, 60, 61, 62, 63, 64, 65, 66, 67, 68, 69, 70, 71, 72, 2] (by kernel_rfl) (by decide)]
  have d2 := fdone_of (hd 44 (by rw [show mrynyOps.size = 45 by kernel_rfl]; decide)) (t := 2) (V := isVal (.bool true)) (by kernel_rfl) (by kernel_rfl)
  exact hQ (fun s => a.tmps.getD s undef) w d2 hb
noncomputable def mrynnOps : Array Oper := regionOf Try.f6 12
set_option maxRecDepth 100000 in
set_option maxHeartbeats 2000000 in
theorem mrynn_region (Q : Exit → Act → World → Prop) (a0 : Act) (w0 : World) (hsz : a0.tmps.size = 73) (g : Nat) (C : Cf) (hc : CellsN w0 g [.int .i64 C.nodes, .int .i64 C.slots, .int .i64 C.pages, .int .i64 C.room, .int .i64 C.chunk, .int .i64 C.buffer, .int .i64 C.queue, .int .i64 C.wear]) (e1 : a0.tmps.getD 1 undef = .pointer (some ⟨g, 0, none⟩)) (gd ge gf : Nat) (hd : CellsN w0 gd [.int .i64 C.nodes, .int .i64 C.slots, .int .i64 C.pages, .int .i64 C.room, .int .i64 (C.chunk + 1), .int .i64 C.buffer, .int .i64 C.queue, .int .i64 C.wear]) (he : CellsN w0 ge [.int .i64 (C.nodes + 1), .int .i64 C.slots, .int .i64 C.pages, .int .i64 C.room, .int .i64 C.chunk, .int .i64 C.buffer, .int .i64 C.queue, .int .i64 C.wear]) (hf : CellsN w0 gf [.int .i64 C.nodes, .int .i64 (C.slots + 1), .int .i64 C.pages, .int .i64 C.room, .int .i64 C.chunk, .int .i64 C.buffer, .int .i64 C.queue, .int .i64 C.wear]) (kd : okC ⟨C.nodes, C.slots, C.pages, C.room, C.chunk + 1, C.buffer, C.queue, C.wear⟩ = true) (ke : okC ⟨C.nodes + 1, C.slots, C.pages, C.room, C.chunk, C.buffer, C.queue, C.wear⟩ = false) (kf : okC ⟨C.nodes, C.slots + 1, C.pages, C.room, C.chunk, C.buffer, C.queue, C.wear⟩ = false) (rc rd re rf wc wf : Int) (hrc : roundsC C = rc) (hrd : roundsC ⟨C.nodes, C.slots, C.pages, C.room, C.chunk + 1, C.buffer, C.queue, C.wear⟩ = rd) (hre : roundsC ⟨C.nodes + 1, C.slots, C.pages, C.room, C.chunk, C.buffer, C.queue, C.wear⟩ = re) (hrf : roundsC ⟨C.nodes, C.slots + 1, C.pages, C.room, C.chunk, C.buffer, C.queue, C.wear⟩ = rf) (hwc : workC C = wc) (hwf : workC ⟨C.nodes, C.slots + 1, C.pages, C.room, C.chunk, C.buffer, C.queue, C.wear⟩ = wf) (q1 : rd ≤ rc) (q2 : True) (q3 : True) (e3 : a0.tmps.getD 3 undef = .bool true) (e4 : a0.tmps.getD 4 undef = .pointer (some ⟨gd, 0, none⟩)) (e5 : a0.tmps.getD 5 undef = .pointer (some ⟨ge, 0, none⟩)) (e6 : a0.tmps.getD 6 undef = .pointer (some ⟨gf, 0, none⟩))
    (hQ : ∀ (g : Nat → Value) (w : World), g 2 = .bool true → Below w0.heap.size w0 w → Q .normal { tmps := [29, 30, 31, 32, 33, 34, 35, 36, 37, 38, 39, 40, 41, 42, 43, 44, 45, 46, 47, 48, 49, 50, 51, 52, 53, 54, 55, 56, 57, 58, 59, 60, 61, 62, 63, 64, 65, 66, 67, 68, 69, 70, 71, 72, 2].foldl (fun t s => t.setIfInBounds s (g s)) a0.tmps, defers := a0.defers } w) :
    (Code.region 12 mrynnOps true).wp Try.prog Q a0 w0 := by
  refine wp_region_flow mixed (by rw [hsz]; kernel_rfl) ?_
  rw [show mrynnOps.size = 45 by kernel_rfl]
  refine ⟨isVal (.bool true), step_move (.tmp 3) (by kernel_rfl) (wanted_none (by kernel_rfl)) (stable_val _) (knows_old 3 (.bool true) (by kernel_rfl) e3), ?_⟩
  refine ⟨isVal (.bool true), step_move (.tmp 29) (by kernel_rfl) (wanted_none (by kernel_rfl)) (stable_val _) (knows_new (V := isVal (.bool true)) 29 0 (by kernel_rfl) (by kernel_rfl) (by kernel_rfl)), ?_⟩
  refine ⟨isVal (.agg #[.int .i64 C.nodes, .int .i64 C.slots, .int .i64 C.pages, .int .i64 C.room, .int .i64 (C.chunk + 1), .int .i64 C.buffer, .int .i64 C.queue, .int .i64 C.wear]), step_loadN 38 (.tmp 4) (gd) [.int .i64 C.nodes, .int .i64 C.slots, .int .i64 C.pages, .int .i64 C.room, .int .i64 (C.chunk + 1), .int .i64 C.buffer, .int .i64 C.queue, .int .i64 C.wear] (by kernel_rfl) (wanted_some 1 30 true (by kernel_rfl) (by kernel_rfl) (by kernel_rfl) (by kernel_rfl)) (knows_old 4 (.pointer (some ⟨gd, 0, none⟩)) (by kernel_rfl) e4) size_cf agg_cf (hd), ?_⟩
  refine ⟨isVal (.int .i64 0), step_call 29 #[.tmp 31] #[38] #[.agg #[.int .i64 C.nodes, .int .i64 C.slots, .int .i64 C.pages, .int .i64 C.room, .int .i64 (C.chunk + 1), .int .i64 C.buffer, .int .i64 C.queue, .int .i64 C.wear]] (by kernel_rfl) (wanted_some 1 30 true (by kernel_rfl) (by kernel_rfl) (by kernel_rfl) (by kernel_rfl)) (stable_val _) (args1 (.tmp 31) (.agg #[.int .i64 C.nodes, .int .i64 C.slots, .int .i64 C.pages, .int .i64 C.room, .int .i64 (C.chunk + 1), .int .i64 C.buffer, .int .i64 C.queue, .int .i64 C.wear]) (knows_new (V := isVal (.agg #[.int .i64 C.nodes, .int .i64 C.slots, .int .i64 C.pages, .int .i64 C.room, .int .i64 (C.chunk + 1), .int .i64 C.buffer, .int .i64 C.queue, .int .i64 C.wear])) 31 2 (by kernel_rfl) (by kernel_rfl) (by kernel_rfl))) (enters_of Try.func29 (by kernel_rfl) rfl) (by intro w' hb; exact cv1 (gc_check (⟨C.nodes, C.slots, C.pages, C.room, C.chunk + 1, C.buffer, C.queue, C.wear⟩ : Cf) 0 w' (chkC_yes kd))), ?_⟩
  refine ⟨isVal (.bool false), step_bin .neq 28 28 (.tmp 32) (.const (.int .i64 0)) (.int .i64 0) (.int .i64 0) (.bool false) (by kernel_rfl) (wanted_some 1 30 true (by kernel_rfl) (by kernel_rfl) (by kernel_rfl) (by kernel_rfl)) (knows_new (V := isVal (.int .i64 0)) 32 3 (by kernel_rfl) (by kernel_rfl) (by kernel_rfl)) (knows_const _) (fun _ => rfl) (neq_f _ _ (by omega)), ?_⟩
  refine ⟨isVal (.bool false), step_move (.tmp 33) (by kernel_rfl) (wanted_some 1 30 true (by kernel_rfl) (by kernel_rfl) (by kernel_rfl) (by kernel_rfl)) (stable_val _) (knows_new (V := isVal (.bool false)) 33 4 (by kernel_rfl) (by kernel_rfl) (by kernel_rfl)), ?_⟩
  refine ⟨isVal (.agg #[.int .i64 C.nodes, .int .i64 C.slots, .int .i64 C.pages, .int .i64 C.room, .int .i64 (C.chunk + 1), .int .i64 C.buffer, .int .i64 C.queue, .int .i64 C.wear]), step_loadN 38 (.tmp 4) (gd) [.int .i64 C.nodes, .int .i64 C.slots, .int .i64 C.pages, .int .i64 C.room, .int .i64 (C.chunk + 1), .int .i64 C.buffer, .int .i64 C.queue, .int .i64 C.wear] (by kernel_rfl) (wanted_some 5 34 false (by kernel_rfl) (by kernel_rfl) (by kernel_rfl) (by kernel_rfl)) (knows_old 4 (.pointer (some ⟨gd, 0, none⟩)) (by kernel_rfl) e4) size_cf agg_cf (hd), ?_⟩
  refine ⟨isVal (.int .i64 rd), step_call 32 #[.tmp 35] #[38] #[.agg #[.int .i64 C.nodes, .int .i64 C.slots, .int .i64 C.pages, .int .i64 C.room, .int .i64 (C.chunk + 1), .int .i64 C.buffer, .int .i64 C.queue, .int .i64 C.wear]] (by kernel_rfl) (wanted_some 5 34 false (by kernel_rfl) (by kernel_rfl) (by kernel_rfl) (by kernel_rfl)) (stable_val _) (args1 (.tmp 35) (.agg #[.int .i64 C.nodes, .int .i64 C.slots, .int .i64 C.pages, .int .i64 C.room, .int .i64 (C.chunk + 1), .int .i64 C.buffer, .int .i64 C.queue, .int .i64 C.wear]) (knows_new (V := isVal (.agg #[.int .i64 C.nodes, .int .i64 C.slots, .int .i64 C.pages, .int .i64 C.room, .int .i64 (C.chunk + 1), .int .i64 C.buffer, .int .i64 C.queue, .int .i64 C.wear])) 35 6 (by kernel_rfl) (by kernel_rfl) (by kernel_rfl))) (enters_of Try.func32 (by kernel_rfl) rfl) (by intro w' hb; exact cv1 (gc_rounds (⟨C.nodes, C.slots, C.pages, C.room, C.chunk + 1, C.buffer, C.queue, C.wear⟩ : Cf) rd w' hrd)), ?_⟩
  refine ⟨isVal (.agg #[.int .i64 C.nodes, .int .i64 C.slots, .int .i64 C.pages, .int .i64 C.room, .int .i64 C.chunk, .int .i64 C.buffer, .int .i64 C.queue, .int .i64 C.wear]), step_loadN 38 (.tmp 1) (g) [.int .i64 C.nodes, .int .i64 C.slots, .int .i64 C.pages, .int .i64 C.room, .int .i64 C.chunk, .int .i64 C.buffer, .int .i64 C.queue, .int .i64 C.wear] (by kernel_rfl) (wanted_some 5 34 false (by kernel_rfl) (by kernel_rfl) (by kernel_rfl) (by kernel_rfl)) (knows_old 1 (.pointer (some ⟨g, 0, none⟩)) (by kernel_rfl) e1) size_cf agg_cf (hc), ?_⟩
  refine ⟨isVal (.int .i64 rc), step_call 32 #[.tmp 37] #[38] #[.agg #[.int .i64 C.nodes, .int .i64 C.slots, .int .i64 C.pages, .int .i64 C.room, .int .i64 C.chunk, .int .i64 C.buffer, .int .i64 C.queue, .int .i64 C.wear]] (by kernel_rfl) (wanted_some 5 34 false (by kernel_rfl) (by kernel_rfl) (by kernel_rfl) (by kernel_rfl)) (stable_val _) (args1 (.tmp 37) (.agg #[.int .i64 C.nodes, .int .i64 C.slots, .int .i64 C.pages, .int .i64 C.room, .int .i64 C.chunk, .int .i64 C.buffer, .int .i64 C.queue, .int .i64 C.wear]) (knows_new (V := isVal (.agg #[.int .i64 C.nodes, .int .i64 C.slots, .int .i64 C.pages, .int .i64 C.room, .int .i64 C.chunk, .int .i64 C.buffer, .int .i64 C.queue, .int .i64 C.wear])) 37 8 (by kernel_rfl) (by kernel_rfl) (by kernel_rfl))) (enters_of Try.func32 (by kernel_rfl) rfl) (by intro w' hb; exact cv1 (gc_rounds C rc w' hrc)), ?_⟩
  refine ⟨isVal (.bool true), step_bin .leq 3 3 (.tmp 36) (.tmp 38) (.int .i64 rd) (.int .i64 rc) (.bool true) (by kernel_rfl) (wanted_some 5 34 false (by kernel_rfl) (by kernel_rfl) (by kernel_rfl) (by kernel_rfl)) (knows_new (V := isVal (.int .i64 rd)) 36 7 (by kernel_rfl) (by kernel_rfl) (by kernel_rfl)) (knows_new (V := isVal (.int .i64 rc)) 38 9 (by kernel_rfl) (by kernel_rfl) (by kernel_rfl)) (fun _ => rfl) (leq_t _ _ (by omega)), ?_⟩
  refine ⟨isVal (.bool true), step_pick (.tmp 34) (.const (.bool true)) (.tmp 39) false (by kernel_rfl) (wanted_some 1 30 true (by kernel_rfl) (by kernel_rfl) (by kernel_rfl) (by kernel_rfl)) (stable_val _) (knows_new (V := isVal (.bool false)) 34 5 (by kernel_rfl) (by kernel_rfl) (by kernel_rfl)) (knows_new (V := isVal (.bool true)) 39 10 (by kernel_rfl) (by kernel_rfl) (by kernel_rfl)), ?_⟩
  refine ⟨isVal (.bool true), step_pick (.tmp 30) (.tmp 40) (.const (.bool false)) true (by kernel_rfl) (wanted_none (by kernel_rfl)) (stable_val _) (knows_new (V := isVal (.bool true)) 30 1 (by kernel_rfl) (by kernel_rfl) (by kernel_rfl)) (knows_new (V := isVal (.bool true)) 40 11 (by kernel_rfl) (by kernel_rfl) (by kernel_rfl)), ?_⟩
  refine ⟨isVal (.bool true), step_move (.tmp 41) (by kernel_rfl) (wanted_none (by kernel_rfl)) (stable_val _) (knows_new (V := isVal (.bool true)) 41 12 (by kernel_rfl) (by kernel_rfl) (by kernel_rfl)), ?_⟩
  refine ⟨isVal (.agg #[.int .i64 (C.nodes + 1), .int .i64 C.slots, .int .i64 C.pages, .int .i64 C.room, .int .i64 C.chunk, .int .i64 C.buffer, .int .i64 C.queue, .int .i64 C.wear]), step_loadN 38 (.tmp 5) (ge) [.int .i64 (C.nodes + 1), .int .i64 C.slots, .int .i64 C.pages, .int .i64 C.room, .int .i64 C.chunk, .int .i64 C.buffer, .int .i64 C.queue, .int .i64 C.wear] (by kernel_rfl) (wanted_some 13 42 true (by kernel_rfl) (by kernel_rfl) (by kernel_rfl) (by kernel_rfl)) (knows_old 5 (.pointer (some ⟨ge, 0, none⟩)) (by kernel_rfl) e5) size_cf agg_cf (he), ?_⟩
  refine ⟨isVal (.int .i64 1), step_call 29 #[.tmp 43] #[38] #[.agg #[.int .i64 (C.nodes + 1), .int .i64 C.slots, .int .i64 C.pages, .int .i64 C.room, .int .i64 C.chunk, .int .i64 C.buffer, .int .i64 C.queue, .int .i64 C.wear]] (by kernel_rfl) (wanted_some 13 42 true (by kernel_rfl) (by kernel_rfl) (by kernel_rfl) (by kernel_rfl)) (stable_val _) (args1 (.tmp 43) (.agg #[.int .i64 (C.nodes + 1), .int .i64 C.slots, .int .i64 C.pages, .int .i64 C.room, .int .i64 C.chunk, .int .i64 C.buffer, .int .i64 C.queue, .int .i64 C.wear]) (knows_new (V := isVal (.agg #[.int .i64 (C.nodes + 1), .int .i64 C.slots, .int .i64 C.pages, .int .i64 C.room, .int .i64 C.chunk, .int .i64 C.buffer, .int .i64 C.queue, .int .i64 C.wear])) 43 14 (by kernel_rfl) (by kernel_rfl) (by kernel_rfl))) (enters_of Try.func29 (by kernel_rfl) rfl) (by intro w' hb; exact cv1 (gc_check (⟨C.nodes + 1, C.slots, C.pages, C.room, C.chunk, C.buffer, C.queue, C.wear⟩ : Cf) 1 w' (chkC_no ke))), ?_⟩
  refine ⟨isVal (.bool true), step_bin .neq 28 28 (.tmp 44) (.const (.int .i64 0)) (.int .i64 1) (.int .i64 0) (.bool true) (by kernel_rfl) (wanted_some 13 42 true (by kernel_rfl) (by kernel_rfl) (by kernel_rfl) (by kernel_rfl)) (knows_new (V := isVal (.int .i64 1)) 44 15 (by kernel_rfl) (by kernel_rfl) (by kernel_rfl)) (knows_const _) (fun _ => rfl) (neq_t _ _ (by omega)), ?_⟩
  refine ⟨isVal (.bool true), step_move (.tmp 45) (by kernel_rfl) (wanted_some 13 42 true (by kernel_rfl) (by kernel_rfl) (by kernel_rfl) (by kernel_rfl)) (stable_val _) (knows_new (V := isVal (.bool true)) 45 16 (by kernel_rfl) (by kernel_rfl) (by kernel_rfl)), ?_⟩
  refine ⟨_, step_skip 17 46 false true (by kernel_rfl) (by kernel_rfl) (by kernel_rfl) (by kernel_rfl) rfl, ?_⟩
  refine ⟨_, step_skip 17 46 false true (by kernel_rfl) (by kernel_rfl) (by kernel_rfl) (by kernel_rfl) rfl, ?_⟩
  refine ⟨_, step_skip 17 46 false true (by kernel_rfl) (by kernel_rfl) (by kernel_rfl) (by kernel_rfl) rfl, ?_⟩
  refine ⟨_, step_skip 17 46 false true (by kernel_rfl) (by kernel_rfl) (by kernel_rfl) (by kernel_rfl) rfl, ?_⟩
  refine ⟨_, step_skip 17 46 false true (by kernel_rfl) (by kernel_rfl) (by kernel_rfl) (by kernel_rfl) rfl, ?_⟩
  refine ⟨isVal (.bool true), step_pick (.tmp 46) (.const (.bool true)) (.tmp 51) true (by kernel_rfl) (wanted_some 13 42 true (by kernel_rfl) (by kernel_rfl) (by kernel_rfl) (by kernel_rfl)) (stable_val _) (knows_new (V := isVal (.bool true)) 46 17 (by kernel_rfl) (by kernel_rfl) (by kernel_rfl)) (knows_const _), ?_⟩
  refine ⟨isVal (.bool true), step_pick (.tmp 42) (.tmp 52) (.const (.bool false)) true (by kernel_rfl) (wanted_none (by kernel_rfl)) (stable_val _) (knows_new (V := isVal (.bool true)) 42 13 (by kernel_rfl) (by kernel_rfl) (by kernel_rfl)) (knows_new (V := isVal (.bool true)) 52 23 (by kernel_rfl) (by kernel_rfl) (by kernel_rfl)), ?_⟩
  refine ⟨isVal (.bool true), step_move (.tmp 53) (by kernel_rfl) (wanted_none (by kernel_rfl)) (stable_val _) (knows_new (V := isVal (.bool true)) 53 24 (by kernel_rfl) (by kernel_rfl) (by kernel_rfl)), ?_⟩
  refine ⟨isVal (.agg #[.int .i64 C.nodes, .int .i64 (C.slots + 1), .int .i64 C.pages, .int .i64 C.room, .int .i64 C.chunk, .int .i64 C.buffer, .int .i64 C.queue, .int .i64 C.wear]), step_loadN 38 (.tmp 6) (gf) [.int .i64 C.nodes, .int .i64 (C.slots + 1), .int .i64 C.pages, .int .i64 C.room, .int .i64 C.chunk, .int .i64 C.buffer, .int .i64 C.queue, .int .i64 C.wear] (by kernel_rfl) (wanted_some 25 54 true (by kernel_rfl) (by kernel_rfl) (by kernel_rfl) (by kernel_rfl)) (knows_old 6 (.pointer (some ⟨gf, 0, none⟩)) (by kernel_rfl) e6) size_cf agg_cf (hf), ?_⟩
  refine ⟨isVal (.int .i64 1), step_call 29 #[.tmp 55] #[38] #[.agg #[.int .i64 C.nodes, .int .i64 (C.slots + 1), .int .i64 C.pages, .int .i64 C.room, .int .i64 C.chunk, .int .i64 C.buffer, .int .i64 C.queue, .int .i64 C.wear]] (by kernel_rfl) (wanted_some 25 54 true (by kernel_rfl) (by kernel_rfl) (by kernel_rfl) (by kernel_rfl)) (stable_val _) (args1 (.tmp 55) (.agg #[.int .i64 C.nodes, .int .i64 (C.slots + 1), .int .i64 C.pages, .int .i64 C.room, .int .i64 C.chunk, .int .i64 C.buffer, .int .i64 C.queue, .int .i64 C.wear]) (knows_new (V := isVal (.agg #[.int .i64 C.nodes, .int .i64 (C.slots + 1), .int .i64 C.pages, .int .i64 C.room, .int .i64 C.chunk, .int .i64 C.buffer, .int .i64 C.queue, .int .i64 C.wear])) 55 26 (by kernel_rfl) (by kernel_rfl) (by kernel_rfl))) (enters_of Try.func29 (by kernel_rfl) rfl) (by intro w' hb; exact cv1 (gc_check (⟨C.nodes, C.slots + 1, C.pages, C.room, C.chunk, C.buffer, C.queue, C.wear⟩ : Cf) 1 w' (chkC_no kf))), ?_⟩
  refine ⟨isVal (.bool true), step_bin .neq 28 28 (.tmp 56) (.const (.int .i64 0)) (.int .i64 1) (.int .i64 0) (.bool true) (by kernel_rfl) (wanted_some 25 54 true (by kernel_rfl) (by kernel_rfl) (by kernel_rfl) (by kernel_rfl)) (knows_new (V := isVal (.int .i64 1)) 56 27 (by kernel_rfl) (by kernel_rfl) (by kernel_rfl)) (knows_const _) (fun _ => rfl) (neq_t _ _ (by omega)), ?_⟩
  refine ⟨isVal (.bool true), step_move (.tmp 57) (by kernel_rfl) (wanted_some 25 54 true (by kernel_rfl) (by kernel_rfl) (by kernel_rfl) (by kernel_rfl)) (stable_val _) (knows_new (V := isVal (.bool true)) 57 28 (by kernel_rfl) (by kernel_rfl) (by kernel_rfl)), ?_⟩
  refine ⟨_, step_skip 29 58 false true (by kernel_rfl) (by kernel_rfl) (by kernel_rfl) (by kernel_rfl) rfl, ?_⟩
  refine ⟨_, step_skip 29 58 false true (by kernel_rfl) (by kernel_rfl) (by kernel_rfl) (by kernel_rfl) rfl, ?_⟩
  refine ⟨_, step_skip 29 58 false true (by kernel_rfl) (by kernel_rfl) (by kernel_rfl) (by kernel_rfl) rfl, ?_⟩
  refine ⟨_, step_skip 29 58 false true (by kernel_rfl) (by kernel_rfl) (by kernel_rfl) (by kernel_rfl) rfl, ?_⟩
  refine ⟨_, step_skip 29 58 false true (by kernel_rfl) (by kernel_rfl) (by kernel_rfl) (by kernel_rfl) rfl, ?_⟩
  refine ⟨_, step_skip 29 58 false true (by kernel_rfl) (by kernel_rfl) (by kernel_rfl) (by kernel_rfl) rfl, ?_⟩
  refine ⟨_, step_skipU 35 64 true (by kernel_rfl) (by kernel_rfl) (by kernel_rfl) (by kernel_rfl), ?_⟩
  refine ⟨_, step_skipU 35 64 true (by kernel_rfl) (by kernel_rfl) (by kernel_rfl) (by kernel_rfl), ?_⟩
  refine ⟨_, step_skipU 35 64 true (by kernel_rfl) (by kernel_rfl) (by kernel_rfl) (by kernel_rfl), ?_⟩
  refine ⟨_, step_skipU 35 64 true (by kernel_rfl) (by kernel_rfl) (by kernel_rfl) (by kernel_rfl), ?_⟩
  refine ⟨_, step_skipU 35 64 true (by kernel_rfl) (by kernel_rfl) (by kernel_rfl) (by kernel_rfl), ?_⟩
  refine ⟨_, step_skip 29 58 false true (by kernel_rfl) (by kernel_rfl) (by kernel_rfl) (by kernel_rfl) rfl, ?_⟩
  refine ⟨isVal (.bool true), step_pick (.tmp 58) (.const (.bool true)) (.tmp 70) true (by kernel_rfl) (wanted_some 25 54 true (by kernel_rfl) (by kernel_rfl) (by kernel_rfl) (by kernel_rfl)) (stable_val _) (knows_new (V := isVal (.bool true)) 58 29 (by kernel_rfl) (by kernel_rfl) (by kernel_rfl)) (knows_const _), ?_⟩
  refine ⟨isVal (.bool true), step_pick (.tmp 54) (.tmp 71) (.const (.bool false)) true (by kernel_rfl) (wanted_none (by kernel_rfl)) (stable_val _) (knows_new (V := isVal (.bool true)) 54 25 (by kernel_rfl) (by kernel_rfl) (by kernel_rfl)) (knows_new (V := isVal (.bool true)) 71 42 (by kernel_rfl) (by kernel_rfl) (by kernel_rfl)), ?_⟩
  refine ⟨isVal (.bool true), step_assign (.tmp 72) (by kernel_rfl) (wanted_none (by kernel_rfl)) (stable_val _) (knows_new (V := isVal (.bool true)) 72 43 (by kernel_rfl) (by kernel_rfl) (by kernel_rfl)), ?_⟩
  intro a w hkp hb hd
  rw [kept_of hkp [some 29, some 30, some 31, some 32, some 33, some 34, some 35, some 36, some 37, some 38, some 39, some 40, some 41, some 42, some 43, some 44, some 45, some 46, some 47, some 48, some 49, some 50, some 51, some 52, some 53, some 54, some 55, some 56, some 57, some 58, some 59, some 60, some 61, some 62, some 63, some 64, some 65, some 66, some 67, some 68, some 69, some 70, some 71, some 72, some 2] [29, 30, 31, 32, 33, 34, 35, 36, 37, 38, 39, 40, 41, 42, 43, 44, 45, 46, 47, 48, 49, 50, 51, 52, 53, 54, 55, 56, 57, 58, 59, 60, 61, 62, 63, 64, 65, 66, 67, 68, 69, 70, 71, 72, 2] (by kernel_rfl) (by decide)]
  have d2 := fdone_of (hd 44 (by rw [show mrynnOps.size = 45 by kernel_rfl]; decide)) (t := 2) (V := isVal (.bool true)) (by kernel_rfl) (by kernel_rfl)
  exact hQ (fun s => a.tmps.getD s undef) w d2 hb
noncomputable def mrnyyOps : Array Oper := regionOf Try.f6 12
set_option maxRecDepth 100000 in
set_option maxHeartbeats 2000000 in
theorem mrnyy_region (Q : Exit → Act → World → Prop) (a0 : Act) (w0 : World) (hsz : a0.tmps.size = 73) (g : Nat) (C : Cf) (hc : CellsN w0 g [.int .i64 C.nodes, .int .i64 C.slots, .int .i64 C.pages, .int .i64 C.room, .int .i64 C.chunk, .int .i64 C.buffer, .int .i64 C.queue, .int .i64 C.wear]) (e1 : a0.tmps.getD 1 undef = .pointer (some ⟨g, 0, none⟩)) (gd ge gf : Nat) (hd : CellsN w0 gd [.int .i64 C.nodes, .int .i64 C.slots, .int .i64 C.pages, .int .i64 C.room, .int .i64 (C.chunk + 1), .int .i64 C.buffer, .int .i64 C.queue, .int .i64 C.wear]) (he : CellsN w0 ge [.int .i64 (C.nodes + 1), .int .i64 C.slots, .int .i64 C.pages, .int .i64 C.room, .int .i64 C.chunk, .int .i64 C.buffer, .int .i64 C.queue, .int .i64 C.wear]) (hf : CellsN w0 gf [.int .i64 C.nodes, .int .i64 (C.slots + 1), .int .i64 C.pages, .int .i64 C.room, .int .i64 C.chunk, .int .i64 C.buffer, .int .i64 C.queue, .int .i64 C.wear]) (kd : okC ⟨C.nodes, C.slots, C.pages, C.room, C.chunk + 1, C.buffer, C.queue, C.wear⟩ = false) (ke : okC ⟨C.nodes + 1, C.slots, C.pages, C.room, C.chunk, C.buffer, C.queue, C.wear⟩ = true) (kf : okC ⟨C.nodes, C.slots + 1, C.pages, C.room, C.chunk, C.buffer, C.queue, C.wear⟩ = true) (rc rd re rf wc wf : Int) (hrc : roundsC C = rc) (hrd : roundsC ⟨C.nodes, C.slots, C.pages, C.room, C.chunk + 1, C.buffer, C.queue, C.wear⟩ = rd) (hre : roundsC ⟨C.nodes + 1, C.slots, C.pages, C.room, C.chunk, C.buffer, C.queue, C.wear⟩ = re) (hrf : roundsC ⟨C.nodes, C.slots + 1, C.pages, C.room, C.chunk, C.buffer, C.queue, C.wear⟩ = rf) (hwc : workC C = wc) (hwf : workC ⟨C.nodes, C.slots + 1, C.pages, C.room, C.chunk, C.buffer, C.queue, C.wear⟩ = wf) (q1 : True) (q2 : rc < re) (q3 : rc ≤ rf ∧ wc ≤ wf) (e3 : a0.tmps.getD 3 undef = .bool true) (e4 : a0.tmps.getD 4 undef = .pointer (some ⟨gd, 0, none⟩)) (e5 : a0.tmps.getD 5 undef = .pointer (some ⟨ge, 0, none⟩)) (e6 : a0.tmps.getD 6 undef = .pointer (some ⟨gf, 0, none⟩))
    (hQ : ∀ (g : Nat → Value) (w : World), g 2 = .bool true → Below w0.heap.size w0 w → Q .normal { tmps := [29, 30, 31, 32, 33, 34, 35, 36, 37, 38, 39, 40, 41, 42, 43, 44, 45, 46, 47, 48, 49, 50, 51, 52, 53, 54, 55, 56, 57, 58, 59, 60, 61, 62, 63, 64, 65, 66, 67, 68, 69, 70, 71, 72, 2].foldl (fun t s => t.setIfInBounds s (g s)) a0.tmps, defers := a0.defers } w) :
    (Code.region 12 mrnyyOps true).wp Try.prog Q a0 w0 := by
  refine wp_region_flow mixed (by rw [hsz]; kernel_rfl) ?_
  rw [show mrnyyOps.size = 45 by kernel_rfl]
  refine ⟨isVal (.bool true), step_move (.tmp 3) (by kernel_rfl) (wanted_none (by kernel_rfl)) (stable_val _) (knows_old 3 (.bool true) (by kernel_rfl) e3), ?_⟩
  refine ⟨isVal (.bool true), step_move (.tmp 29) (by kernel_rfl) (wanted_none (by kernel_rfl)) (stable_val _) (knows_new (V := isVal (.bool true)) 29 0 (by kernel_rfl) (by kernel_rfl) (by kernel_rfl)), ?_⟩
  refine ⟨isVal (.agg #[.int .i64 C.nodes, .int .i64 C.slots, .int .i64 C.pages, .int .i64 C.room, .int .i64 (C.chunk + 1), .int .i64 C.buffer, .int .i64 C.queue, .int .i64 C.wear]), step_loadN 38 (.tmp 4) (gd) [.int .i64 C.nodes, .int .i64 C.slots, .int .i64 C.pages, .int .i64 C.room, .int .i64 (C.chunk + 1), .int .i64 C.buffer, .int .i64 C.queue, .int .i64 C.wear] (by kernel_rfl) (wanted_some 1 30 true (by kernel_rfl) (by kernel_rfl) (by kernel_rfl) (by kernel_rfl)) (knows_old 4 (.pointer (some ⟨gd, 0, none⟩)) (by kernel_rfl) e4) size_cf agg_cf (hd), ?_⟩
  refine ⟨isVal (.int .i64 1), step_call 29 #[.tmp 31] #[38] #[.agg #[.int .i64 C.nodes, .int .i64 C.slots, .int .i64 C.pages, .int .i64 C.room, .int .i64 (C.chunk + 1), .int .i64 C.buffer, .int .i64 C.queue, .int .i64 C.wear]] (by kernel_rfl) (wanted_some 1 30 true (by kernel_rfl) (by kernel_rfl) (by kernel_rfl) (by kernel_rfl)) (stable_val _) (args1 (.tmp 31) (.agg #[.int .i64 C.nodes, .int .i64 C.slots, .int .i64 C.pages, .int .i64 C.room, .int .i64 (C.chunk + 1), .int .i64 C.buffer, .int .i64 C.queue, .int .i64 C.wear]) (knows_new (V := isVal (.agg #[.int .i64 C.nodes, .int .i64 C.slots, .int .i64 C.pages, .int .i64 C.room, .int .i64 (C.chunk + 1), .int .i64 C.buffer, .int .i64 C.queue, .int .i64 C.wear])) 31 2 (by kernel_rfl) (by kernel_rfl) (by kernel_rfl))) (enters_of Try.func29 (by kernel_rfl) rfl) (by intro w' hb; exact cv1 (gc_check (⟨C.nodes, C.slots, C.pages, C.room, C.chunk + 1, C.buffer, C.queue, C.wear⟩ : Cf) 1 w' (chkC_no kd))), ?_⟩
  refine ⟨isVal (.bool true), step_bin .neq 28 28 (.tmp 32) (.const (.int .i64 0)) (.int .i64 1) (.int .i64 0) (.bool true) (by kernel_rfl) (wanted_some 1 30 true (by kernel_rfl) (by kernel_rfl) (by kernel_rfl) (by kernel_rfl)) (knows_new (V := isVal (.int .i64 1)) 32 3 (by kernel_rfl) (by kernel_rfl) (by kernel_rfl)) (knows_const _) (fun _ => rfl) (neq_t _ _ (by omega)), ?_⟩
  refine ⟨isVal (.bool true), step_move (.tmp 33) (by kernel_rfl) (wanted_some 1 30 true (by kernel_rfl) (by kernel_rfl) (by kernel_rfl) (by kernel_rfl)) (stable_val _) (knows_new (V := isVal (.bool true)) 33 4 (by kernel_rfl) (by kernel_rfl) (by kernel_rfl)), ?_⟩
  refine ⟨_, step_skip 5 34 false true (by kernel_rfl) (by kernel_rfl) (by kernel_rfl) (by kernel_rfl) rfl, ?_⟩
  refine ⟨_, step_skip 5 34 false true (by kernel_rfl) (by kernel_rfl) (by kernel_rfl) (by kernel_rfl) rfl, ?_⟩
  refine ⟨_, step_skip 5 34 false true (by kernel_rfl) (by kernel_rfl) (by kernel_rfl) (by kernel_rfl) rfl, ?_⟩
  refine ⟨_, step_skip 5 34 false true (by kernel_rfl) (by kernel_rfl) (by kernel_rfl) (by kernel_rfl) rfl, ?_⟩
  refine ⟨_, step_skip 5 34 false true (by kernel_rfl) (by kernel_rfl) (by kernel_rfl) (by kernel_rfl) rfl, ?_⟩
  refine ⟨isVal (.bool true), step_pick (.tmp 34) (.const (.bool true)) (.tmp 39) true (by kernel_rfl) (wanted_some 1 30 true (by kernel_rfl) (by kernel_rfl) (by kernel_rfl) (by kernel_rfl)) (stable_val _) (knows_new (V := isVal (.bool true)) 34 5 (by kernel_rfl) (by kernel_rfl) (by kernel_rfl)) (knows_const _), ?_⟩
  refine ⟨isVal (.bool true), step_pick (.tmp 30) (.tmp 40) (.const (.bool false)) true (by kernel_rfl) (wanted_none (by kernel_rfl)) (stable_val _) (knows_new (V := isVal (.bool true)) 30 1 (by kernel_rfl) (by kernel_rfl) (by kernel_rfl)) (knows_new (V := isVal (.bool true)) 40 11 (by kernel_rfl) (by kernel_rfl) (by kernel_rfl)), ?_⟩
  refine ⟨isVal (.bool true), step_move (.tmp 41) (by kernel_rfl) (wanted_none (by kernel_rfl)) (stable_val _) (knows_new (V := isVal (.bool true)) 41 12 (by kernel_rfl) (by kernel_rfl) (by kernel_rfl)), ?_⟩
  refine ⟨isVal (.agg #[.int .i64 (C.nodes + 1), .int .i64 C.slots, .int .i64 C.pages, .int .i64 C.room, .int .i64 C.chunk, .int .i64 C.buffer, .int .i64 C.queue, .int .i64 C.wear]), step_loadN 38 (.tmp 5) (ge) [.int .i64 (C.nodes + 1), .int .i64 C.slots, .int .i64 C.pages, .int .i64 C.room, .int .i64 C.chunk, .int .i64 C.buffer, .int .i64 C.queue, .int .i64 C.wear] (by kernel_rfl) (wanted_some 13 42 true (by kernel_rfl) (by kernel_rfl) (by kernel_rfl) (by kernel_rfl)) (knows_old 5 (.pointer (some ⟨ge, 0, none⟩)) (by kernel_rfl) e5) size_cf agg_cf (he), ?_⟩
  refine ⟨isVal (.int .i64 0), step_call 29 #[.tmp 43] #[38] #[.agg #[.int .i64 (C.nodes + 1), .int .i64 C.slots, .int .i64 C.pages, .int .i64 C.room, .int .i64 C.chunk, .int .i64 C.buffer, .int .i64 C.queue, .int .i64 C.wear]] (by kernel_rfl) (wanted_some 13 42 true (by kernel_rfl) (by kernel_rfl) (by kernel_rfl) (by kernel_rfl)) (stable_val _) (args1 (.tmp 43) (.agg #[.int .i64 (C.nodes + 1), .int .i64 C.slots, .int .i64 C.pages, .int .i64 C.room, .int .i64 C.chunk, .int .i64 C.buffer, .int .i64 C.queue, .int .i64 C.wear]) (knows_new (V := isVal (.agg #[.int .i64 (C.nodes + 1), .int .i64 C.slots, .int .i64 C.pages, .int .i64 C.room, .int .i64 C.chunk, .int .i64 C.buffer, .int .i64 C.queue, .int .i64 C.wear])) 43 14 (by kernel_rfl) (by kernel_rfl) (by kernel_rfl))) (enters_of Try.func29 (by kernel_rfl) rfl) (by intro w' hb; exact cv1 (gc_check (⟨C.nodes + 1, C.slots, C.pages, C.room, C.chunk, C.buffer, C.queue, C.wear⟩ : Cf) 0 w' (chkC_yes ke))), ?_⟩
  refine ⟨isVal (.bool false), step_bin .neq 28 28 (.tmp 44) (.const (.int .i64 0)) (.int .i64 0) (.int .i64 0) (.bool false) (by kernel_rfl) (wanted_some 13 42 true (by kernel_rfl) (by kernel_rfl) (by kernel_rfl) (by kernel_rfl)) (knows_new (V := isVal (.int .i64 0)) 44 15 (by kernel_rfl) (by kernel_rfl) (by kernel_rfl)) (knows_const _) (fun _ => rfl) (neq_f _ _ (by omega)), ?_⟩
  refine ⟨isVal (.bool false), step_move (.tmp 45) (by kernel_rfl) (wanted_some 13 42 true (by kernel_rfl) (by kernel_rfl) (by kernel_rfl) (by kernel_rfl)) (stable_val _) (knows_new (V := isVal (.bool false)) 45 16 (by kernel_rfl) (by kernel_rfl) (by kernel_rfl)), ?_⟩
  refine ⟨isVal (.agg #[.int .i64 (C.nodes + 1), .int .i64 C.slots, .int .i64 C.pages, .int .i64 C.room, .int .i64 C.chunk, .int .i64 C.buffer, .int .i64 C.queue, .int .i64 C.wear]), step_loadN 38 (.tmp 5) (ge) [.int .i64 (C.nodes + 1), .int .i64 C.slots, .int .i64 C.pages, .int .i64 C.room, .int .i64 C.chunk, .int .i64 C.buffer, .int .i64 C.queue, .int .i64 C.wear] (by kernel_rfl) (wanted_some 17 46 false (by kernel_rfl) (by kernel_rfl) (by kernel_rfl) (by kernel_rfl)) (knows_old 5 (.pointer (some ⟨ge, 0, none⟩)) (by kernel_rfl) e5) size_cf agg_cf (he), ?_⟩
  refine ⟨isVal (.int .i64 re), step_call 32 #[.tmp 47] #[38] #[.agg #[.int .i64 (C.nodes + 1), .int .i64 C.slots, .int .i64 C.pages, .int .i64 C.room, .int .i64 C.chunk, .int .i64 C.buffer, .int .i64 C.queue, .int .i64 C.wear]] (by kernel_rfl) (wanted_some 17 46 false (by kernel_rfl) (by kernel_rfl) (by kernel_rfl) (by kernel_rfl)) (stable_val _) (args1 (.tmp 47) (.agg #[.int .i64 (C.nodes + 1), .int .i64 C.slots, .int .i64 C.pages, .int .i64 C.room, .int .i64 C.chunk, .int .i64 C.buffer, .int .i64 C.queue, .int .i64 C.wear]) (knows_new (V := isVal (.agg #[.int .i64 (C.nodes + 1), .int .i64 C.slots, .int .i64 C.pages, .int .i64 C.room, .int .i64 C.chunk, .int .i64 C.buffer, .int .i64 C.queue, .int .i64 C.wear])) 47 18 (by kernel_rfl) (by kernel_rfl) (by kernel_rfl))) (enters_of Try.func32 (by kernel_rfl) rfl) (by intro w' hb; exact cv1 (gc_rounds (⟨C.nodes + 1, C.slots, C.pages, C.room, C.chunk, C.buffer, C.queue, C.wear⟩ : Cf) re w' hre)), ?_⟩
  refine ⟨isVal (.agg #[.int .i64 C.nodes, .int .i64 C.slots, .int .i64 C.pages, .int .i64 C.room, .int .i64 C.chunk, .int .i64 C.buffer, .int .i64 C.queue, .int .i64 C.wear]), step_loadN 38 (.tmp 1) (g) [.int .i64 C.nodes, .int .i64 C.slots, .int .i64 C.pages, .int .i64 C.room, .int .i64 C.chunk, .int .i64 C.buffer, .int .i64 C.queue, .int .i64 C.wear] (by kernel_rfl) (wanted_some 17 46 false (by kernel_rfl) (by kernel_rfl) (by kernel_rfl) (by kernel_rfl)) (knows_old 1 (.pointer (some ⟨g, 0, none⟩)) (by kernel_rfl) e1) size_cf agg_cf (hc), ?_⟩
  refine ⟨isVal (.int .i64 rc), step_call 32 #[.tmp 49] #[38] #[.agg #[.int .i64 C.nodes, .int .i64 C.slots, .int .i64 C.pages, .int .i64 C.room, .int .i64 C.chunk, .int .i64 C.buffer, .int .i64 C.queue, .int .i64 C.wear]] (by kernel_rfl) (wanted_some 17 46 false (by kernel_rfl) (by kernel_rfl) (by kernel_rfl) (by kernel_rfl)) (stable_val _) (args1 (.tmp 49) (.agg #[.int .i64 C.nodes, .int .i64 C.slots, .int .i64 C.pages, .int .i64 C.room, .int .i64 C.chunk, .int .i64 C.buffer, .int .i64 C.queue, .int .i64 C.wear]) (knows_new (V := isVal (.agg #[.int .i64 C.nodes, .int .i64 C.slots, .int .i64 C.pages, .int .i64 C.room, .int .i64 C.chunk, .int .i64 C.buffer, .int .i64 C.queue, .int .i64 C.wear])) 49 20 (by kernel_rfl) (by kernel_rfl) (by kernel_rfl))) (enters_of Try.func32 (by kernel_rfl) rfl) (by intro w' hb; exact cv1 (gc_rounds C rc w' hrc)), ?_⟩
  refine ⟨isVal (.bool true), step_bin .gtr 3 3 (.tmp 48) (.tmp 50) (.int .i64 re) (.int .i64 rc) (.bool true) (by kernel_rfl) (wanted_some 17 46 false (by kernel_rfl) (by kernel_rfl) (by kernel_rfl) (by kernel_rfl)) (knows_new (V := isVal (.int .i64 re)) 48 19 (by kernel_rfl) (by kernel_rfl) (by kernel_rfl)) (knows_new (V := isVal (.int .i64 rc)) 50 21 (by kernel_rfl) (by kernel_rfl) (by kernel_rfl)) (fun _ => rfl) (gtr_t _ _ (by omega)), ?_⟩
  refine ⟨isVal (.bool true), step_pick (.tmp 46) (.const (.bool true)) (.tmp 51) false (by kernel_rfl) (wanted_some 13 42 true (by kernel_rfl) (by kernel_rfl) (by kernel_rfl) (by kernel_rfl)) (stable_val _) (knows_new (V := isVal (.bool false)) 46 17 (by kernel_rfl) (by kernel_rfl) (by kernel_rfl)) (knows_new (V := isVal (.bool true)) 51 22 (by kernel_rfl) (by kernel_rfl) (by kernel_rfl)), ?_⟩
  refine ⟨isVal (.bool true), step_pick (.tmp 42) (.tmp 52) (.const (.bool false)) true (by kernel_rfl) (wanted_none (by kernel_rfl)) (stable_val _) (knows_new (V := isVal (.bool true)) 42 13 (by kernel_rfl) (by kernel_rfl) (by kernel_rfl)) (knows_new (V := isVal (.bool true)) 52 23 (by kernel_rfl) (by kernel_rfl) (by kernel_rfl)), ?_⟩
  refine ⟨isVal (.bool true), step_move (.tmp 53) (by kernel_rfl) (wanted_none (by kernel_rfl)) (stable_val _) (knows_new (V := isVal (.bool true)) 53 24 (by kernel_rfl) (by kernel_rfl) (by kernel_rfl)), ?_⟩
  refine ⟨isVal (.agg #[.int .i64 C.nodes, .int .i64 (C.slots + 1), .int .i64 C.pages, .int .i64 C.room, .int .i64 C.chunk, .int .i64 C.buffer, .int .i64 C.queue, .int .i64 C.wear]), step_loadN 38 (.tmp 6) (gf) [.int .i64 C.nodes, .int .i64 (C.slots + 1), .int .i64 C.pages, .int .i64 C.room, .int .i64 C.chunk, .int .i64 C.buffer, .int .i64 C.queue, .int .i64 C.wear] (by kernel_rfl) (wanted_some 25 54 true (by kernel_rfl) (by kernel_rfl) (by kernel_rfl) (by kernel_rfl)) (knows_old 6 (.pointer (some ⟨gf, 0, none⟩)) (by kernel_rfl) e6) size_cf agg_cf (hf), ?_⟩
  refine ⟨isVal (.int .i64 0), step_call 29 #[.tmp 55] #[38] #[.agg #[.int .i64 C.nodes, .int .i64 (C.slots + 1), .int .i64 C.pages, .int .i64 C.room, .int .i64 C.chunk, .int .i64 C.buffer, .int .i64 C.queue, .int .i64 C.wear]] (by kernel_rfl) (wanted_some 25 54 true (by kernel_rfl) (by kernel_rfl) (by kernel_rfl) (by kernel_rfl)) (stable_val _) (args1 (.tmp 55) (.agg #[.int .i64 C.nodes, .int .i64 (C.slots + 1), .int .i64 C.pages, .int .i64 C.room, .int .i64 C.chunk, .int .i64 C.buffer, .int .i64 C.queue, .int .i64 C.wear]) (knows_new (V := isVal (.agg #[.int .i64 C.nodes, .int .i64 (C.slots + 1), .int .i64 C.pages, .int .i64 C.room, .int .i64 C.chunk, .int .i64 C.buffer, .int .i64 C.queue, .int .i64 C.wear])) 55 26 (by kernel_rfl) (by kernel_rfl) (by kernel_rfl))) (enters_of Try.func29 (by kernel_rfl) rfl) (by intro w' hb; exact cv1 (gc_check (⟨C.nodes, C.slots + 1, C.pages, C.room, C.chunk, C.buffer, C.queue, C.wear⟩ : Cf) 0 w' (chkC_yes kf))), ?_⟩
  refine ⟨isVal (.bool false), step_bin .neq 28 28 (.tmp 56) (.const (.int .i64 0)) (.int .i64 0) (.int .i64 0) (.bool false) (by kernel_rfl) (wanted_some 25 54 true (by kernel_rfl) (by kernel_rfl) (by kernel_rfl) (by kernel_rfl)) (knows_new (V := isVal (.int .i64 0)) 56 27 (by kernel_rfl) (by kernel_rfl) (by kernel_rfl)) (knows_const _) (fun _ => rfl) (neq_f _ _ (by omega)), ?_⟩
  refine ⟨isVal (.bool false), step_move (.tmp 57) (by kernel_rfl) (wanted_some 25 54 true (by kernel_rfl) (by kernel_rfl) (by kernel_rfl) (by kernel_rfl)) (stable_val _) (knows_new (V := isVal (.bool false)) 57 28 (by kernel_rfl) (by kernel_rfl) (by kernel_rfl)), ?_⟩
  refine ⟨isVal (.agg #[.int .i64 C.nodes, .int .i64 (C.slots + 1), .int .i64 C.pages, .int .i64 C.room, .int .i64 C.chunk, .int .i64 C.buffer, .int .i64 C.queue, .int .i64 C.wear]), step_loadN 38 (.tmp 6) (gf) [.int .i64 C.nodes, .int .i64 (C.slots + 1), .int .i64 C.pages, .int .i64 C.room, .int .i64 C.chunk, .int .i64 C.buffer, .int .i64 C.queue, .int .i64 C.wear] (by kernel_rfl) (wanted_some 29 58 false (by kernel_rfl) (by kernel_rfl) (by kernel_rfl) (by kernel_rfl)) (knows_old 6 (.pointer (some ⟨gf, 0, none⟩)) (by kernel_rfl) e6) size_cf agg_cf (hf), ?_⟩
  refine ⟨isVal (.int .i64 rf), step_call 32 #[.tmp 59] #[38] #[.agg #[.int .i64 C.nodes, .int .i64 (C.slots + 1), .int .i64 C.pages, .int .i64 C.room, .int .i64 C.chunk, .int .i64 C.buffer, .int .i64 C.queue, .int .i64 C.wear]] (by kernel_rfl) (wanted_some 29 58 false (by kernel_rfl) (by kernel_rfl) (by kernel_rfl) (by kernel_rfl)) (stable_val _) (args1 (.tmp 59) (.agg #[.int .i64 C.nodes, .int .i64 (C.slots + 1), .int .i64 C.pages, .int .i64 C.room, .int .i64 C.chunk, .int .i64 C.buffer, .int .i64 C.queue, .int .i64 C.wear]) (knows_new (V := isVal (.agg #[.int .i64 C.nodes, .int .i64 (C.slots + 1), .int .i64 C.pages, .int .i64 C.room, .int .i64 C.chunk, .int .i64 C.buffer, .int .i64 C.queue, .int .i64 C.wear])) 59 30 (by kernel_rfl) (by kernel_rfl) (by kernel_rfl))) (enters_of Try.func32 (by kernel_rfl) rfl) (by intro w' hb; exact cv1 (gc_rounds (⟨C.nodes, C.slots + 1, C.pages, C.room, C.chunk, C.buffer, C.queue, C.wear⟩ : Cf) rf w' hrf)), ?_⟩
  refine ⟨isVal (.agg #[.int .i64 C.nodes, .int .i64 C.slots, .int .i64 C.pages, .int .i64 C.room, .int .i64 C.chunk, .int .i64 C.buffer, .int .i64 C.queue, .int .i64 C.wear]), step_loadN 38 (.tmp 1) (g) [.int .i64 C.nodes, .int .i64 C.slots, .int .i64 C.pages, .int .i64 C.room, .int .i64 C.chunk, .int .i64 C.buffer, .int .i64 C.queue, .int .i64 C.wear] (by kernel_rfl) (wanted_some 29 58 false (by kernel_rfl) (by kernel_rfl) (by kernel_rfl) (by kernel_rfl)) (knows_old 1 (.pointer (some ⟨g, 0, none⟩)) (by kernel_rfl) e1) size_cf agg_cf (hc), ?_⟩
  refine ⟨isVal (.int .i64 rc), step_call 32 #[.tmp 61] #[38] #[.agg #[.int .i64 C.nodes, .int .i64 C.slots, .int .i64 C.pages, .int .i64 C.room, .int .i64 C.chunk, .int .i64 C.buffer, .int .i64 C.queue, .int .i64 C.wear]] (by kernel_rfl) (wanted_some 29 58 false (by kernel_rfl) (by kernel_rfl) (by kernel_rfl) (by kernel_rfl)) (stable_val _) (args1 (.tmp 61) (.agg #[.int .i64 C.nodes, .int .i64 C.slots, .int .i64 C.pages, .int .i64 C.room, .int .i64 C.chunk, .int .i64 C.buffer, .int .i64 C.queue, .int .i64 C.wear]) (knows_new (V := isVal (.agg #[.int .i64 C.nodes, .int .i64 C.slots, .int .i64 C.pages, .int .i64 C.room, .int .i64 C.chunk, .int .i64 C.buffer, .int .i64 C.queue, .int .i64 C.wear])) 61 32 (by kernel_rfl) (by kernel_rfl) (by kernel_rfl))) (enters_of Try.func32 (by kernel_rfl) rfl) (by intro w' hb; exact cv1 (gc_rounds C rc w' hrc)), ?_⟩
  refine ⟨isVal (.bool true), step_bin .geq 3 3 (.tmp 60) (.tmp 62) (.int .i64 rf) (.int .i64 rc) (.bool true) (by kernel_rfl) (wanted_some 29 58 false (by kernel_rfl) (by kernel_rfl) (by kernel_rfl) (by kernel_rfl)) (knows_new (V := isVal (.int .i64 rf)) 60 31 (by kernel_rfl) (by kernel_rfl) (by kernel_rfl)) (knows_new (V := isVal (.int .i64 rc)) 62 33 (by kernel_rfl) (by kernel_rfl) (by kernel_rfl)) (fun _ => rfl) (geq_t _ _ (by omega)), ?_⟩
  refine ⟨isVal (.bool true), step_move (.tmp 63) (by kernel_rfl) (wanted_some 29 58 false (by kernel_rfl) (by kernel_rfl) (by kernel_rfl) (by kernel_rfl)) (stable_val _) (knows_new (V := isVal (.bool true)) 63 34 (by kernel_rfl) (by kernel_rfl) (by kernel_rfl)), ?_⟩
  refine ⟨isVal (.agg #[.int .i64 C.nodes, .int .i64 (C.slots + 1), .int .i64 C.pages, .int .i64 C.room, .int .i64 C.chunk, .int .i64 C.buffer, .int .i64 C.queue, .int .i64 C.wear]), step_loadN 38 (.tmp 6) (gf) [.int .i64 C.nodes, .int .i64 (C.slots + 1), .int .i64 C.pages, .int .i64 C.room, .int .i64 C.chunk, .int .i64 C.buffer, .int .i64 C.queue, .int .i64 C.wear] (by kernel_rfl) (wanted_some 35 64 true (by kernel_rfl) (by kernel_rfl) (by kernel_rfl) (by kernel_rfl)) (knows_old 6 (.pointer (some ⟨gf, 0, none⟩)) (by kernel_rfl) e6) size_cf agg_cf (hf), ?_⟩
  refine ⟨isVal (.int .i64 wf), step_call 33 #[.tmp 65] #[38] #[.agg #[.int .i64 C.nodes, .int .i64 (C.slots + 1), .int .i64 C.pages, .int .i64 C.room, .int .i64 C.chunk, .int .i64 C.buffer, .int .i64 C.queue, .int .i64 C.wear]] (by kernel_rfl) (wanted_some 35 64 true (by kernel_rfl) (by kernel_rfl) (by kernel_rfl) (by kernel_rfl)) (stable_val _) (args1 (.tmp 65) (.agg #[.int .i64 C.nodes, .int .i64 (C.slots + 1), .int .i64 C.pages, .int .i64 C.room, .int .i64 C.chunk, .int .i64 C.buffer, .int .i64 C.queue, .int .i64 C.wear]) (knows_new (V := isVal (.agg #[.int .i64 C.nodes, .int .i64 (C.slots + 1), .int .i64 C.pages, .int .i64 C.room, .int .i64 C.chunk, .int .i64 C.buffer, .int .i64 C.queue, .int .i64 C.wear])) 65 36 (by kernel_rfl) (by kernel_rfl) (by kernel_rfl))) (enters_of Try.func33 (by kernel_rfl) rfl) (by intro w' hb; exact cv1 (gc_work (⟨C.nodes, C.slots + 1, C.pages, C.room, C.chunk, C.buffer, C.queue, C.wear⟩ : Cf) wf w' hwf)), ?_⟩
  refine ⟨isVal (.agg #[.int .i64 C.nodes, .int .i64 C.slots, .int .i64 C.pages, .int .i64 C.room, .int .i64 C.chunk, .int .i64 C.buffer, .int .i64 C.queue, .int .i64 C.wear]), step_loadN 38 (.tmp 1) (g) [.int .i64 C.nodes, .int .i64 C.slots, .int .i64 C.pages, .int .i64 C.room, .int .i64 C.chunk, .int .i64 C.buffer, .int .i64 C.queue, .int .i64 C.wear] (by kernel_rfl) (wanted_some 35 64 true (by kernel_rfl) (by kernel_rfl) (by kernel_rfl) (by kernel_rfl)) (knows_old 1 (.pointer (some ⟨g, 0, none⟩)) (by kernel_rfl) e1) size_cf agg_cf (hc), ?_⟩
  refine ⟨isVal (.int .i64 wc), step_call 33 #[.tmp 67] #[38] #[.agg #[.int .i64 C.nodes, .int .i64 C.slots, .int .i64 C.pages, .int .i64 C.room, .int .i64 C.chunk, .int .i64 C.buffer, .int .i64 C.queue, .int .i64 C.wear]] (by kernel_rfl) (wanted_some 35 64 true (by kernel_rfl) (by kernel_rfl) (by kernel_rfl) (by kernel_rfl)) (stable_val _) (args1 (.tmp 67) (.agg #[.int .i64 C.nodes, .int .i64 C.slots, .int .i64 C.pages, .int .i64 C.room, .int .i64 C.chunk, .int .i64 C.buffer, .int .i64 C.queue, .int .i64 C.wear]) (knows_new (V := isVal (.agg #[.int .i64 C.nodes, .int .i64 C.slots, .int .i64 C.pages, .int .i64 C.room, .int .i64 C.chunk, .int .i64 C.buffer, .int .i64 C.queue, .int .i64 C.wear])) 67 38 (by kernel_rfl) (by kernel_rfl) (by kernel_rfl))) (enters_of Try.func33 (by kernel_rfl) rfl) (by intro w' hb; exact cv1 (gc_work C wc w' hwc)), ?_⟩
  refine ⟨isVal (.bool true), step_bin .geq 3 3 (.tmp 66) (.tmp 68) (.int .i64 wf) (.int .i64 wc) (.bool true) (by kernel_rfl) (wanted_some 35 64 true (by kernel_rfl) (by kernel_rfl) (by kernel_rfl) (by kernel_rfl)) (knows_new (V := isVal (.int .i64 wf)) 66 37 (by kernel_rfl) (by kernel_rfl) (by kernel_rfl)) (knows_new (V := isVal (.int .i64 wc)) 68 39 (by kernel_rfl) (by kernel_rfl) (by kernel_rfl)) (fun _ => rfl) (geq_t _ _ (by omega)), ?_⟩
  refine ⟨isVal (.bool true), step_pick (.tmp 64) (.tmp 69) (.const (.bool false)) true (by kernel_rfl) (wanted_some 29 58 false (by kernel_rfl) (by kernel_rfl) (by kernel_rfl) (by kernel_rfl)) (stable_val _) (knows_new (V := isVal (.bool true)) 64 35 (by kernel_rfl) (by kernel_rfl) (by kernel_rfl)) (knows_new (V := isVal (.bool true)) 69 40 (by kernel_rfl) (by kernel_rfl) (by kernel_rfl)), ?_⟩
  refine ⟨isVal (.bool true), step_pick (.tmp 58) (.const (.bool true)) (.tmp 70) false (by kernel_rfl) (wanted_some 25 54 true (by kernel_rfl) (by kernel_rfl) (by kernel_rfl) (by kernel_rfl)) (stable_val _) (knows_new (V := isVal (.bool false)) 58 29 (by kernel_rfl) (by kernel_rfl) (by kernel_rfl)) (knows_new (V := isVal (.bool true)) 70 41 (by kernel_rfl) (by kernel_rfl) (by kernel_rfl)), ?_⟩
  refine ⟨isVal (.bool true), step_pick (.tmp 54) (.tmp 71) (.const (.bool false)) true (by kernel_rfl) (wanted_none (by kernel_rfl)) (stable_val _) (knows_new (V := isVal (.bool true)) 54 25 (by kernel_rfl) (by kernel_rfl) (by kernel_rfl)) (knows_new (V := isVal (.bool true)) 71 42 (by kernel_rfl) (by kernel_rfl) (by kernel_rfl)), ?_⟩
  refine ⟨isVal (.bool true), step_assign (.tmp 72) (by kernel_rfl) (wanted_none (by kernel_rfl)) (stable_val _) (knows_new (V := isVal (.bool true)) 72 43 (by kernel_rfl) (by kernel_rfl) (by kernel_rfl)), ?_⟩
  intro a w hkp hb hd
  rw [kept_of hkp [some 29, some 30, some 31, some 32, some 33, some 34, some 35, some 36, some 37, some 38, some 39, some 40, some 41, some 42, some 43, some 44, some 45, some 46, some 47, some 48, some 49, some 50, some 51, some 52, some 53, some 54, some 55, some 56, some 57, some 58, some 59, some 60, some 61, some 62, some 63, some 64, some 65, some 66, some 67, some 68, some 69, some 70, some 71, some 72, some 2] [29, 30, 31, 32, 33, 34, 35, 36, 37, 38, 39, 40, 41, 42, 43, 44, 45, 46, 47, 48, 49, 50, 51, 52, 53, 54, 55, 56, 57, 58, 59, 60, 61, 62, 63, 64, 65, 66, 67, 68, 69, 70, 71, 72, 2] (by kernel_rfl) (by decide)]
  have d2 := fdone_of (hd 44 (by rw [show mrnyyOps.size = 45 by kernel_rfl]; decide)) (t := 2) (V := isVal (.bool true)) (by kernel_rfl) (by kernel_rfl)
  exact hQ (fun s => a.tmps.getD s undef) w d2 hb
noncomputable def mrnynOps : Array Oper := regionOf Try.f6 12
set_option maxRecDepth 100000 in
set_option maxHeartbeats 2000000 in
theorem mrnyn_region (Q : Exit → Act → World → Prop) (a0 : Act) (w0 : World) (hsz : a0.tmps.size = 73) (g : Nat) (C : Cf) (hc : CellsN w0 g [.int .i64 C.nodes, .int .i64 C.slots, .int .i64 C.pages, .int .i64 C.room, .int .i64 C.chunk, .int .i64 C.buffer, .int .i64 C.queue, .int .i64 C.wear]) (e1 : a0.tmps.getD 1 undef = .pointer (some ⟨g, 0, none⟩)) (gd ge gf : Nat) (hd : CellsN w0 gd [.int .i64 C.nodes, .int .i64 C.slots, .int .i64 C.pages, .int .i64 C.room, .int .i64 (C.chunk + 1), .int .i64 C.buffer, .int .i64 C.queue, .int .i64 C.wear]) (he : CellsN w0 ge [.int .i64 (C.nodes + 1), .int .i64 C.slots, .int .i64 C.pages, .int .i64 C.room, .int .i64 C.chunk, .int .i64 C.buffer, .int .i64 C.queue, .int .i64 C.wear]) (hf : CellsN w0 gf [.int .i64 C.nodes, .int .i64 (C.slots + 1), .int .i64 C.pages, .int .i64 C.room, .int .i64 C.chunk, .int .i64 C.buffer, .int .i64 C.queue, .int .i64 C.wear]) (kd : okC ⟨C.nodes, C.slots, C.pages, C.room, C.chunk + 1, C.buffer, C.queue, C.wear⟩ = false) (ke : okC ⟨C.nodes + 1, C.slots, C.pages, C.room, C.chunk, C.buffer, C.queue, C.wear⟩ = true) (kf : okC ⟨C.nodes, C.slots + 1, C.pages, C.room, C.chunk, C.buffer, C.queue, C.wear⟩ = false) (rc rd re rf wc wf : Int) (hrc : roundsC C = rc) (hrd : roundsC ⟨C.nodes, C.slots, C.pages, C.room, C.chunk + 1, C.buffer, C.queue, C.wear⟩ = rd) (hre : roundsC ⟨C.nodes + 1, C.slots, C.pages, C.room, C.chunk, C.buffer, C.queue, C.wear⟩ = re) (hrf : roundsC ⟨C.nodes, C.slots + 1, C.pages, C.room, C.chunk, C.buffer, C.queue, C.wear⟩ = rf) (hwc : workC C = wc) (hwf : workC ⟨C.nodes, C.slots + 1, C.pages, C.room, C.chunk, C.buffer, C.queue, C.wear⟩ = wf) (q1 : True) (q2 : rc < re) (q3 : True) (e3 : a0.tmps.getD 3 undef = .bool true) (e4 : a0.tmps.getD 4 undef = .pointer (some ⟨gd, 0, none⟩)) (e5 : a0.tmps.getD 5 undef = .pointer (some ⟨ge, 0, none⟩)) (e6 : a0.tmps.getD 6 undef = .pointer (some ⟨gf, 0, none⟩))
    (hQ : ∀ (g : Nat → Value) (w : World), g 2 = .bool true → Below w0.heap.size w0 w → Q .normal { tmps := [29, 30, 31, 32, 33, 34, 35, 36, 37, 38, 39, 40, 41, 42, 43, 44, 45, 46, 47, 48, 49, 50, 51, 52, 53, 54, 55, 56, 57, 58, 59, 60, 61, 62, 63, 64, 65, 66, 67, 68, 69, 70, 71, 72, 2].foldl (fun t s => t.setIfInBounds s (g s)) a0.tmps, defers := a0.defers } w) :
    (Code.region 12 mrnynOps true).wp Try.prog Q a0 w0 := by
  refine wp_region_flow mixed (by rw [hsz]; kernel_rfl) ?_
  rw [show mrnynOps.size = 45 by kernel_rfl]
  refine ⟨isVal (.bool true), step_move (.tmp 3) (by kernel_rfl) (wanted_none (by kernel_rfl)) (stable_val _) (knows_old 3 (.bool true) (by kernel_rfl) e3), ?_⟩
  refine ⟨isVal (.bool true), step_move (.tmp 29) (by kernel_rfl) (wanted_none (by kernel_rfl)) (stable_val _) (knows_new (V := isVal (.bool true)) 29 0 (by kernel_rfl) (by kernel_rfl) (by kernel_rfl)), ?_⟩
  refine ⟨isVal (.agg #[.int .i64 C.nodes, .int .i64 C.slots, .int .i64 C.pages, .int .i64 C.room, .int .i64 (C.chunk + 1), .int .i64 C.buffer, .int .i64 C.queue, .int .i64 C.wear]), step_loadN 38 (.tmp 4) (gd) [.int .i64 C.nodes, .int .i64 C.slots, .int .i64 C.pages, .int .i64 C.room, .int .i64 (C.chunk + 1), .int .i64 C.buffer, .int .i64 C.queue, .int .i64 C.wear] (by kernel_rfl) (wanted_some 1 30 true (by kernel_rfl) (by kernel_rfl) (by kernel_rfl) (by kernel_rfl)) (knows_old 4 (.pointer (some ⟨gd, 0, none⟩)) (by kernel_rfl) e4) size_cf agg_cf (hd), ?_⟩
  refine ⟨isVal (.int .i64 1), step_call 29 #[.tmp 31] #[38] #[.agg #[.int .i64 C.nodes, .int .i64 C.slots, .int .i64 C.pages, .int .i64 C.room, .int .i64 (C.chunk + 1), .int .i64 C.buffer, .int .i64 C.queue, .int .i64 C.wear]] (by kernel_rfl) (wanted_some 1 30 true (by kernel_rfl) (by kernel_rfl) (by kernel_rfl) (by kernel_rfl)) (stable_val _) (args1 (.tmp 31) (.agg #[.int .i64 C.nodes, .int .i64 C.slots, .int .i64 C.pages, .int .i64 C.room, .int .i64 (C.chunk + 1), .int .i64 C.buffer, .int .i64 C.queue, .int .i64 C.wear]) (knows_new (V := isVal (.agg #[.int .i64 C.nodes, .int .i64 C.slots, .int .i64 C.pages, .int .i64 C.room, .int .i64 (C.chunk + 1), .int .i64 C.buffer, .int .i64 C.queue, .int .i64 C.wear])) 31 2 (by kernel_rfl) (by kernel_rfl) (by kernel_rfl))) (enters_of Try.func29 (by kernel_rfl) rfl) (by intro w' hb; exact cv1 (gc_check (⟨C.nodes, C.slots, C.pages, C.room, C.chunk + 1, C.buffer, C.queue, C.wear⟩ : Cf) 1 w' (chkC_no kd))), ?_⟩
  refine ⟨isVal (.bool true), step_bin .neq 28 28 (.tmp 32) (.const (.int .i64 0)) (.int .i64 1) (.int .i64 0) (.bool true) (by kernel_rfl) (wanted_some 1 30 true (by kernel_rfl) (by kernel_rfl) (by kernel_rfl) (by kernel_rfl)) (knows_new (V := isVal (.int .i64 1)) 32 3 (by kernel_rfl) (by kernel_rfl) (by kernel_rfl)) (knows_const _) (fun _ => rfl) (neq_t _ _ (by omega)), ?_⟩
  refine ⟨isVal (.bool true), step_move (.tmp 33) (by kernel_rfl) (wanted_some 1 30 true (by kernel_rfl) (by kernel_rfl) (by kernel_rfl) (by kernel_rfl)) (stable_val _) (knows_new (V := isVal (.bool true)) 33 4 (by kernel_rfl) (by kernel_rfl) (by kernel_rfl)), ?_⟩
  refine ⟨_, step_skip 5 34 false true (by kernel_rfl) (by kernel_rfl) (by kernel_rfl) (by kernel_rfl) rfl, ?_⟩
  refine ⟨_, step_skip 5 34 false true (by kernel_rfl) (by kernel_rfl) (by kernel_rfl) (by kernel_rfl) rfl, ?_⟩
  refine ⟨_, step_skip 5 34 false true (by kernel_rfl) (by kernel_rfl) (by kernel_rfl) (by kernel_rfl) rfl, ?_⟩
  refine ⟨_, step_skip 5 34 false true (by kernel_rfl) (by kernel_rfl) (by kernel_rfl) (by kernel_rfl) rfl, ?_⟩
  refine ⟨_, step_skip 5 34 false true (by kernel_rfl) (by kernel_rfl) (by kernel_rfl) (by kernel_rfl) rfl, ?_⟩
  refine ⟨isVal (.bool true), step_pick (.tmp 34) (.const (.bool true)) (.tmp 39) true (by kernel_rfl) (wanted_some 1 30 true (by kernel_rfl) (by kernel_rfl) (by kernel_rfl) (by kernel_rfl)) (stable_val _) (knows_new (V := isVal (.bool true)) 34 5 (by kernel_rfl) (by kernel_rfl) (by kernel_rfl)) (knows_const _), ?_⟩
  refine ⟨isVal (.bool true), step_pick (.tmp 30) (.tmp 40) (.const (.bool false)) true (by kernel_rfl) (wanted_none (by kernel_rfl)) (stable_val _) (knows_new (V := isVal (.bool true)) 30 1 (by kernel_rfl) (by kernel_rfl) (by kernel_rfl)) (knows_new (V := isVal (.bool true)) 40 11 (by kernel_rfl) (by kernel_rfl) (by kernel_rfl)), ?_⟩
  refine ⟨isVal (.bool true), step_move (.tmp 41) (by kernel_rfl) (wanted_none (by kernel_rfl)) (stable_val _) (knows_new (V := isVal (.bool true)) 41 12 (by kernel_rfl) (by kernel_rfl) (by kernel_rfl)), ?_⟩
  refine ⟨isVal (.agg #[.int .i64 (C.nodes + 1), .int .i64 C.slots, .int .i64 C.pages, .int .i64 C.room, .int .i64 C.chunk, .int .i64 C.buffer, .int .i64 C.queue, .int .i64 C.wear]), step_loadN 38 (.tmp 5) (ge) [.int .i64 (C.nodes + 1), .int .i64 C.slots, .int .i64 C.pages, .int .i64 C.room, .int .i64 C.chunk, .int .i64 C.buffer, .int .i64 C.queue, .int .i64 C.wear] (by kernel_rfl) (wanted_some 13 42 true (by kernel_rfl) (by kernel_rfl) (by kernel_rfl) (by kernel_rfl)) (knows_old 5 (.pointer (some ⟨ge, 0, none⟩)) (by kernel_rfl) e5) size_cf agg_cf (he), ?_⟩
  refine ⟨isVal (.int .i64 0), step_call 29 #[.tmp 43] #[38] #[.agg #[.int .i64 (C.nodes + 1), .int .i64 C.slots, .int .i64 C.pages, .int .i64 C.room, .int .i64 C.chunk, .int .i64 C.buffer, .int .i64 C.queue, .int .i64 C.wear]] (by kernel_rfl) (wanted_some 13 42 true (by kernel_rfl) (by kernel_rfl) (by kernel_rfl) (by kernel_rfl)) (stable_val _) (args1 (.tmp 43) (.agg #[.int .i64 (C.nodes + 1), .int .i64 C.slots, .int .i64 C.pages, .int .i64 C.room, .int .i64 C.chunk, .int .i64 C.buffer, .int .i64 C.queue, .int .i64 C.wear]) (knows_new (V := isVal (.agg #[.int .i64 (C.nodes + 1), .int .i64 C.slots, .int .i64 C.pages, .int .i64 C.room, .int .i64 C.chunk, .int .i64 C.buffer, .int .i64 C.queue, .int .i64 C.wear])) 43 14 (by kernel_rfl) (by kernel_rfl) (by kernel_rfl))) (enters_of Try.func29 (by kernel_rfl) rfl) (by intro w' hb; exact cv1 (gc_check (⟨C.nodes + 1, C.slots, C.pages, C.room, C.chunk, C.buffer, C.queue, C.wear⟩ : Cf) 0 w' (chkC_yes ke))), ?_⟩
  refine ⟨isVal (.bool false), step_bin .neq 28 28 (.tmp 44) (.const (.int .i64 0)) (.int .i64 0) (.int .i64 0) (.bool false) (by kernel_rfl) (wanted_some 13 42 true (by kernel_rfl) (by kernel_rfl) (by kernel_rfl) (by kernel_rfl)) (knows_new (V := isVal (.int .i64 0)) 44 15 (by kernel_rfl) (by kernel_rfl) (by kernel_rfl)) (knows_const _) (fun _ => rfl) (neq_f _ _ (by omega)), ?_⟩
  refine ⟨isVal (.bool false), step_move (.tmp 45) (by kernel_rfl) (wanted_some 13 42 true (by kernel_rfl) (by kernel_rfl) (by kernel_rfl) (by kernel_rfl)) (stable_val _) (knows_new (V := isVal (.bool false)) 45 16 (by kernel_rfl) (by kernel_rfl) (by kernel_rfl)), ?_⟩
  refine ⟨isVal (.agg #[.int .i64 (C.nodes + 1), .int .i64 C.slots, .int .i64 C.pages, .int .i64 C.room, .int .i64 C.chunk, .int .i64 C.buffer, .int .i64 C.queue, .int .i64 C.wear]), step_loadN 38 (.tmp 5) (ge) [.int .i64 (C.nodes + 1), .int .i64 C.slots, .int .i64 C.pages, .int .i64 C.room, .int .i64 C.chunk, .int .i64 C.buffer, .int .i64 C.queue, .int .i64 C.wear] (by kernel_rfl) (wanted_some 17 46 false (by kernel_rfl) (by kernel_rfl) (by kernel_rfl) (by kernel_rfl)) (knows_old 5 (.pointer (some ⟨ge, 0, none⟩)) (by kernel_rfl) e5) size_cf agg_cf (he), ?_⟩
  refine ⟨isVal (.int .i64 re), step_call 32 #[.tmp 47] #[38] #[.agg #[.int .i64 (C.nodes + 1), .int .i64 C.slots, .int .i64 C.pages, .int .i64 C.room, .int .i64 C.chunk, .int .i64 C.buffer, .int .i64 C.queue, .int .i64 C.wear]] (by kernel_rfl) (wanted_some 17 46 false (by kernel_rfl) (by kernel_rfl) (by kernel_rfl) (by kernel_rfl)) (stable_val _) (args1 (.tmp 47) (.agg #[.int .i64 (C.nodes + 1), .int .i64 C.slots, .int .i64 C.pages, .int .i64 C.room, .int .i64 C.chunk, .int .i64 C.buffer, .int .i64 C.queue, .int .i64 C.wear]) (knows_new (V := isVal (.agg #[.int .i64 (C.nodes + 1), .int .i64 C.slots, .int .i64 C.pages, .int .i64 C.room, .int .i64 C.chunk, .int .i64 C.buffer, .int .i64 C.queue, .int .i64 C.wear])) 47 18 (by kernel_rfl) (by kernel_rfl) (by kernel_rfl))) (enters_of Try.func32 (by kernel_rfl) rfl) (by intro w' hb; exact cv1 (gc_rounds (⟨C.nodes + 1, C.slots, C.pages, C.room, C.chunk, C.buffer, C.queue, C.wear⟩ : Cf) re w' hre)), ?_⟩
  refine ⟨isVal (.agg #[.int .i64 C.nodes, .int .i64 C.slots, .int .i64 C.pages, .int .i64 C.room, .int .i64 C.chunk, .int .i64 C.buffer, .int .i64 C.queue, .int .i64 C.wear]), step_loadN 38 (.tmp 1) (g) [.int .i64 C.nodes, .int .i64 C.slots, .int .i64 C.pages, .int .i64 C.room, .int .i64 C.chunk, .int .i64 C.buffer, .int .i64 C.queue, .int .i64 C.wear] (by kernel_rfl) (wanted_some 17 46 false (by kernel_rfl) (by kernel_rfl) (by kernel_rfl) (by kernel_rfl)) (knows_old 1 (.pointer (some ⟨g, 0, none⟩)) (by kernel_rfl) e1) size_cf agg_cf (hc), ?_⟩
  refine ⟨isVal (.int .i64 rc), step_call 32 #[.tmp 49] #[38] #[.agg #[.int .i64 C.nodes, .int .i64 C.slots, .int .i64 C.pages, .int .i64 C.room, .int .i64 C.chunk, .int .i64 C.buffer, .int .i64 C.queue, .int .i64 C.wear]] (by kernel_rfl) (wanted_some 17 46 false (by kernel_rfl) (by kernel_rfl) (by kernel_rfl) (by kernel_rfl)) (stable_val _) (args1 (.tmp 49) (.agg #[.int .i64 C.nodes, .int .i64 C.slots, .int .i64 C.pages, .int .i64 C.room, .int .i64 C.chunk, .int .i64 C.buffer, .int .i64 C.queue, .int .i64 C.wear]) (knows_new (V := isVal (.agg #[.int .i64 C.nodes, .int .i64 C.slots, .int .i64 C.pages, .int .i64 C.room, .int .i64 C.chunk, .int .i64 C.buffer, .int .i64 C.queue, .int .i64 C.wear])) 49 20 (by kernel_rfl) (by kernel_rfl) (by kernel_rfl))) (enters_of Try.func32 (by kernel_rfl) rfl) (by intro w' hb; exact cv1 (gc_rounds C rc w' hrc)), ?_⟩
  refine ⟨isVal (.bool true), step_bin .gtr 3 3 (.tmp 48) (.tmp 50) (.int .i64 re) (.int .i64 rc) (.bool true) (by kernel_rfl) (wanted_some 17 46 false (by kernel_rfl) (by kernel_rfl) (by kernel_rfl) (by kernel_rfl)) (knows_new (V := isVal (.int .i64 re)) 48 19 (by kernel_rfl) (by kernel_rfl) (by kernel_rfl)) (knows_new (V := isVal (.int .i64 rc)) 50 21 (by kernel_rfl) (by kernel_rfl) (by kernel_rfl)) (fun _ => rfl) (gtr_t _ _ (by omega)), ?_⟩
  refine ⟨isVal (.bool true), step_pick (.tmp 46) (.const (.bool true)) (.tmp 51) false (by kernel_rfl) (wanted_some 13 42 true (by kernel_rfl) (by kernel_rfl) (by kernel_rfl) (by kernel_rfl)) (stable_val _) (knows_new (V := isVal (.bool false)) 46 17 (by kernel_rfl) (by kernel_rfl) (by kernel_rfl)) (knows_new (V := isVal (.bool true)) 51 22 (by kernel_rfl) (by kernel_rfl) (by kernel_rfl)), ?_⟩
  refine ⟨isVal (.bool true), step_pick (.tmp 42) (.tmp 52) (.const (.bool false)) true (by kernel_rfl) (wanted_none (by kernel_rfl)) (stable_val _) (knows_new (V := isVal (.bool true)) 42 13 (by kernel_rfl) (by kernel_rfl) (by kernel_rfl)) (knows_new (V := isVal (.bool true)) 52 23 (by kernel_rfl) (by kernel_rfl) (by kernel_rfl)), ?_⟩
  refine ⟨isVal (.bool true), step_move (.tmp 53) (by kernel_rfl) (wanted_none (by kernel_rfl)) (stable_val _) (knows_new (V := isVal (.bool true)) 53 24 (by kernel_rfl) (by kernel_rfl) (by kernel_rfl)), ?_⟩
  refine ⟨isVal (.agg #[.int .i64 C.nodes, .int .i64 (C.slots + 1), .int .i64 C.pages, .int .i64 C.room, .int .i64 C.chunk, .int .i64 C.buffer, .int .i64 C.queue, .int .i64 C.wear]), step_loadN 38 (.tmp 6) (gf) [.int .i64 C.nodes, .int .i64 (C.slots + 1), .int .i64 C.pages, .int .i64 C.room, .int .i64 C.chunk, .int .i64 C.buffer, .int .i64 C.queue, .int .i64 C.wear] (by kernel_rfl) (wanted_some 25 54 true (by kernel_rfl) (by kernel_rfl) (by kernel_rfl) (by kernel_rfl)) (knows_old 6 (.pointer (some ⟨gf, 0, none⟩)) (by kernel_rfl) e6) size_cf agg_cf (hf), ?_⟩
  refine ⟨isVal (.int .i64 1), step_call 29 #[.tmp 55] #[38] #[.agg #[.int .i64 C.nodes, .int .i64 (C.slots + 1), .int .i64 C.pages, .int .i64 C.room, .int .i64 C.chunk, .int .i64 C.buffer, .int .i64 C.queue, .int .i64 C.wear]] (by kernel_rfl) (wanted_some 25 54 true (by kernel_rfl) (by kernel_rfl) (by kernel_rfl) (by kernel_rfl)) (stable_val _) (args1 (.tmp 55) (.agg #[.int .i64 C.nodes, .int .i64 (C.slots + 1), .int .i64 C.pages, .int .i64 C.room, .int .i64 C.chunk, .int .i64 C.buffer, .int .i64 C.queue, .int .i64 C.wear]) (knows_new (V := isVal (.agg #[.int .i64 C.nodes, .int .i64 (C.slots + 1), .int .i64 C.pages, .int .i64 C.room, .int .i64 C.chunk, .int .i64 C.buffer, .int .i64 C.queue, .int .i64 C.wear])) 55 26 (by kernel_rfl) (by kernel_rfl) (by kernel_rfl))) (enters_of Try.func29 (by kernel_rfl) rfl) (by intro w' hb; exact cv1 (gc_check (⟨C.nodes, C.slots + 1, C.pages, C.room, C.chunk, C.buffer, C.queue, C.wear⟩ : Cf) 1 w' (chkC_no kf))), ?_⟩
  refine ⟨isVal (.bool true), step_bin .neq 28 28 (.tmp 56) (.const (.int .i64 0)) (.int .i64 1) (.int .i64 0) (.bool true) (by kernel_rfl) (wanted_some 25 54 true (by kernel_rfl) (by kernel_rfl) (by kernel_rfl) (by kernel_rfl)) (knows_new (V := isVal (.int .i64 1)) 56 27 (by kernel_rfl) (by kernel_rfl) (by kernel_rfl)) (knows_const _) (fun _ => rfl) (neq_t _ _ (by omega)), ?_⟩
  refine ⟨isVal (.bool true), step_move (.tmp 57) (by kernel_rfl) (wanted_some 25 54 true (by kernel_rfl) (by kernel_rfl) (by kernel_rfl) (by kernel_rfl)) (stable_val _) (knows_new (V := isVal (.bool true)) 57 28 (by kernel_rfl) (by kernel_rfl) (by kernel_rfl)), ?_⟩
  refine ⟨_, step_skip 29 58 false true (by kernel_rfl) (by kernel_rfl) (by kernel_rfl) (by kernel_rfl) rfl, ?_⟩
  refine ⟨_, step_skip 29 58 false true (by kernel_rfl) (by kernel_rfl) (by kernel_rfl) (by kernel_rfl) rfl, ?_⟩
  refine ⟨_, step_skip 29 58 false true (by kernel_rfl) (by kernel_rfl) (by kernel_rfl) (by kernel_rfl) rfl, ?_⟩
  refine ⟨_, step_skip 29 58 false true (by kernel_rfl) (by kernel_rfl) (by kernel_rfl) (by kernel_rfl) rfl, ?_⟩
  refine ⟨_, step_skip 29 58 false true (by kernel_rfl) (by kernel_rfl) (by kernel_rfl) (by kernel_rfl) rfl, ?_⟩
  refine ⟨_, step_skip 29 58 false true (by kernel_rfl) (by kernel_rfl) (by kernel_rfl) (by kernel_rfl) rfl, ?_⟩
  refine ⟨_, step_skipU 35 64 true (by kernel_rfl) (by kernel_rfl) (by kernel_rfl) (by kernel_rfl), ?_⟩
  refine ⟨_, step_skipU 35 64 true (by kernel_rfl) (by kernel_rfl) (by kernel_rfl) (by kernel_rfl), ?_⟩
  refine ⟨_, step_skipU 35 64 true (by kernel_rfl) (by kernel_rfl) (by kernel_rfl) (by kernel_rfl), ?_⟩
  refine ⟨_, step_skipU 35 64 true (by kernel_rfl) (by kernel_rfl) (by kernel_rfl) (by kernel_rfl), ?_⟩
  refine ⟨_, step_skipU 35 64 true (by kernel_rfl) (by kernel_rfl) (by kernel_rfl) (by kernel_rfl), ?_⟩
  refine ⟨_, step_skip 29 58 false true (by kernel_rfl) (by kernel_rfl) (by kernel_rfl) (by kernel_rfl) rfl, ?_⟩
  refine ⟨isVal (.bool true), step_pick (.tmp 58) (.const (.bool true)) (.tmp 70) true (by kernel_rfl) (wanted_some 25 54 true (by kernel_rfl) (by kernel_rfl) (by kernel_rfl) (by kernel_rfl)) (stable_val _) (knows_new (V := isVal (.bool true)) 58 29 (by kernel_rfl) (by kernel_rfl) (by kernel_rfl)) (knows_const _), ?_⟩
  refine ⟨isVal (.bool true), step_pick (.tmp 54) (.tmp 71) (.const (.bool false)) true (by kernel_rfl) (wanted_none (by kernel_rfl)) (stable_val _) (knows_new (V := isVal (.bool true)) 54 25 (by kernel_rfl) (by kernel_rfl) (by kernel_rfl)) (knows_new (V := isVal (.bool true)) 71 42 (by kernel_rfl) (by kernel_rfl) (by kernel_rfl)), ?_⟩
  refine ⟨isVal (.bool true), step_assign (.tmp 72) (by kernel_rfl) (wanted_none (by kernel_rfl)) (stable_val _) (knows_new (V := isVal (.bool true)) 72 43 (by kernel_rfl) (by kernel_rfl) (by kernel_rfl)), ?_⟩
  intro a w hkp hb hd
  rw [kept_of hkp [some 29, some 30, some 31, some 32, some 33, some 34, some 35, some 36, some 37, some 38, some 39, some 40, some 41, some 42, some 43, some 44, some 45, some 46, some 47, some 48, some 49, some 50, some 51, some 52, some 53, some 54, some 55, some 56, some 57, some 58, some 59, some 60, some 61, some 62, some 63, some 64, some 65, some 66, some 67, some 68, some 69, some 70, some 71, some 72, some 2] [29, 30, 31, 32, 33, 34, 35, 36, 37, 38, 39, 40, 41, 42, 43, 44, 45, 46, 47, 48, 49, 50, 51, 52, 53, 54, 55, 56, 57, 58, 59, 60, 61, 62, 63, 64, 65, 66, 67, 68, 69, 70, 71, 72, 2] (by kernel_rfl) (by decide)]
  have d2 := fdone_of (hd 44 (by rw [show mrnynOps.size = 45 by kernel_rfl]; decide)) (t := 2) (V := isVal (.bool true)) (by kernel_rfl) (by kernel_rfl)
  exact hQ (fun s => a.tmps.getD s undef) w d2 hb
noncomputable def mrnnyOps : Array Oper := regionOf Try.f6 12
set_option maxRecDepth 100000 in
set_option maxHeartbeats 2000000 in
theorem mrnny_region (Q : Exit → Act → World → Prop) (a0 : Act) (w0 : World) (hsz : a0.tmps.size = 73) (g : Nat) (C : Cf) (hc : CellsN w0 g [.int .i64 C.nodes, .int .i64 C.slots, .int .i64 C.pages, .int .i64 C.room, .int .i64 C.chunk, .int .i64 C.buffer, .int .i64 C.queue, .int .i64 C.wear]) (e1 : a0.tmps.getD 1 undef = .pointer (some ⟨g, 0, none⟩)) (gd ge gf : Nat) (hd : CellsN w0 gd [.int .i64 C.nodes, .int .i64 C.slots, .int .i64 C.pages, .int .i64 C.room, .int .i64 (C.chunk + 1), .int .i64 C.buffer, .int .i64 C.queue, .int .i64 C.wear]) (he : CellsN w0 ge [.int .i64 (C.nodes + 1), .int .i64 C.slots, .int .i64 C.pages, .int .i64 C.room, .int .i64 C.chunk, .int .i64 C.buffer, .int .i64 C.queue, .int .i64 C.wear]) (hf : CellsN w0 gf [.int .i64 C.nodes, .int .i64 (C.slots + 1), .int .i64 C.pages, .int .i64 C.room, .int .i64 C.chunk, .int .i64 C.buffer, .int .i64 C.queue, .int .i64 C.wear]) (kd : okC ⟨C.nodes, C.slots, C.pages, C.room, C.chunk + 1, C.buffer, C.queue, C.wear⟩ = false) (ke : okC ⟨C.nodes + 1, C.slots, C.pages, C.room, C.chunk, C.buffer, C.queue, C.wear⟩ = false) (kf : okC ⟨C.nodes, C.slots + 1, C.pages, C.room, C.chunk, C.buffer, C.queue, C.wear⟩ = true) (rc rd re rf wc wf : Int) (hrc : roundsC C = rc) (hrd : roundsC ⟨C.nodes, C.slots, C.pages, C.room, C.chunk + 1, C.buffer, C.queue, C.wear⟩ = rd) (hre : roundsC ⟨C.nodes + 1, C.slots, C.pages, C.room, C.chunk, C.buffer, C.queue, C.wear⟩ = re) (hrf : roundsC ⟨C.nodes, C.slots + 1, C.pages, C.room, C.chunk, C.buffer, C.queue, C.wear⟩ = rf) (hwc : workC C = wc) (hwf : workC ⟨C.nodes, C.slots + 1, C.pages, C.room, C.chunk, C.buffer, C.queue, C.wear⟩ = wf) (q1 : True) (q2 : True) (q3 : rc ≤ rf ∧ wc ≤ wf) (e3 : a0.tmps.getD 3 undef = .bool true) (e4 : a0.tmps.getD 4 undef = .pointer (some ⟨gd, 0, none⟩)) (e5 : a0.tmps.getD 5 undef = .pointer (some ⟨ge, 0, none⟩)) (e6 : a0.tmps.getD 6 undef = .pointer (some ⟨gf, 0, none⟩))
    (hQ : ∀ (g : Nat → Value) (w : World), g 2 = .bool true → Below w0.heap.size w0 w → Q .normal { tmps := [29, 30, 31, 32, 33, 34, 35, 36, 37, 38, 39, 40, 41, 42, 43, 44, 45, 46, 47, 48, 49, 50, 51, 52, 53, 54, 55, 56, 57, 58, 59, 60, 61, 62, 63, 64, 65, 66, 67, 68, 69, 70, 71, 72, 2].foldl (fun t s => t.setIfInBounds s (g s)) a0.tmps, defers := a0.defers } w) :
    (Code.region 12 mrnnyOps true).wp Try.prog Q a0 w0 := by
  refine wp_region_flow mixed (by rw [hsz]; kernel_rfl) ?_
  rw [show mrnnyOps.size = 45 by kernel_rfl]
  refine ⟨isVal (.bool true), step_move (.tmp 3) (by kernel_rfl) (wanted_none (by kernel_rfl)) (stable_val _) (knows_old 3 (.bool true) (by kernel_rfl) e3), ?_⟩
  refine ⟨isVal (.bool true), step_move (.tmp 29) (by kernel_rfl) (wanted_none (by kernel_rfl)) (stable_val _) (knows_new (V := isVal (.bool true)) 29 0 (by kernel_rfl) (by kernel_rfl) (by kernel_rfl)), ?_⟩
  refine ⟨isVal (.agg #[.int .i64 C.nodes, .int .i64 C.slots, .int .i64 C.pages, .int .i64 C.room, .int .i64 (C.chunk + 1), .int .i64 C.buffer, .int .i64 C.queue, .int .i64 C.wear]), step_loadN 38 (.tmp 4) (gd) [.int .i64 C.nodes, .int .i64 C.slots, .int .i64 C.pages, .int .i64 C.room, .int .i64 (C.chunk + 1), .int .i64 C.buffer, .int .i64 C.queue, .int .i64 C.wear] (by kernel_rfl) (wanted_some 1 30 true (by kernel_rfl) (by kernel_rfl) (by kernel_rfl) (by kernel_rfl)) (knows_old 4 (.pointer (some ⟨gd, 0, none⟩)) (by kernel_rfl) e4) size_cf agg_cf (hd), ?_⟩
  refine ⟨isVal (.int .i64 1), step_call 29 #[.tmp 31] #[38] #[.agg #[.int .i64 C.nodes, .int .i64 C.slots, .int .i64 C.pages, .int .i64 C.room, .int .i64 (C.chunk + 1), .int .i64 C.buffer, .int .i64 C.queue, .int .i64 C.wear]] (by kernel_rfl) (wanted_some 1 30 true (by kernel_rfl) (by kernel_rfl) (by kernel_rfl) (by kernel_rfl)) (stable_val _) (args1 (.tmp 31) (.agg #[.int .i64 C.nodes, .int .i64 C.slots, .int .i64 C.pages, .int .i64 C.room, .int .i64 (C.chunk + 1), .int .i64 C.buffer, .int .i64 C.queue, .int .i64 C.wear]) (knows_new (V := isVal (.agg #[.int .i64 C.nodes, .int .i64 C.slots, .int .i64 C.pages, .int .i64 C.room, .int .i64 (C.chunk + 1), .int .i64 C.buffer, .int .i64 C.queue, .int .i64 C.wear])) 31 2 (by kernel_rfl) (by kernel_rfl) (by kernel_rfl))) (enters_of Try.func29 (by kernel_rfl) rfl) (by intro w' hb; exact cv1 (gc_check (⟨C.nodes, C.slots, C.pages, C.room, C.chunk + 1, C.buffer, C.queue, C.wear⟩ : Cf) 1 w' (chkC_no kd))), ?_⟩
  refine ⟨isVal (.bool true), step_bin .neq 28 28 (.tmp 32) (.const (.int .i64 0)) (.int .i64 1) (.int .i64 0) (.bool true) (by kernel_rfl) (wanted_some 1 30 true (by kernel_rfl) (by kernel_rfl) (by kernel_rfl) (by kernel_rfl)) (knows_new (V := isVal (.int .i64 1)) 32 3 (by kernel_rfl) (by kernel_rfl) (by kernel_rfl)) (knows_const _) (fun _ => rfl) (neq_t _ _ (by omega)), ?_⟩
  refine ⟨isVal (.bool true), step_move (.tmp 33) (by kernel_rfl) (wanted_some 1 30 true (by kernel_rfl) (by kernel_rfl) (by kernel_rfl) (by kernel_rfl)) (stable_val _) (knows_new (V := isVal (.bool true)) 33 4 (by kernel_rfl) (by kernel_rfl) (by kernel_rfl)), ?_⟩
  refine ⟨_, step_skip 5 34 false true (by kernel_rfl) (by kernel_rfl) (by kernel_rfl) (by kernel_rfl) rfl, ?_⟩
  refine ⟨_, step_skip 5 34 false true (by kernel_rfl) (by kernel_rfl) (by kernel_rfl) (by kernel_rfl) rfl, ?_⟩
  refine ⟨_, step_skip 5 34 false true (by kernel_rfl) (by kernel_rfl) (by kernel_rfl) (by kernel_rfl) rfl, ?_⟩
  refine ⟨_, step_skip 5 34 false true (by kernel_rfl) (by kernel_rfl) (by kernel_rfl) (by kernel_rfl) rfl, ?_⟩
  refine ⟨_, step_skip 5 34 false true (by kernel_rfl) (by kernel_rfl) (by kernel_rfl) (by kernel_rfl) rfl, ?_⟩
  refine ⟨isVal (.bool true), step_pick (.tmp 34) (.const (.bool true)) (.tmp 39) true (by kernel_rfl) (wanted_some 1 30 true (by kernel_rfl) (by kernel_rfl) (by kernel_rfl) (by kernel_rfl)) (stable_val _) (knows_new (V := isVal (.bool true)) 34 5 (by kernel_rfl) (by kernel_rfl) (by kernel_rfl)) (knows_const _), ?_⟩
  refine ⟨isVal (.bool true), step_pick (.tmp 30) (.tmp 40) (.const (.bool false)) true (by kernel_rfl) (wanted_none (by kernel_rfl)) (stable_val _) (knows_new (V := isVal (.bool true)) 30 1 (by kernel_rfl) (by kernel_rfl) (by kernel_rfl)) (knows_new (V := isVal (.bool true)) 40 11 (by kernel_rfl) (by kernel_rfl) (by kernel_rfl)), ?_⟩
  refine ⟨isVal (.bool true), step_move (.tmp 41) (by kernel_rfl) (wanted_none (by kernel_rfl)) (stable_val _) (knows_new (V := isVal (.bool true)) 41 12 (by kernel_rfl) (by kernel_rfl) (by kernel_rfl)), ?_⟩
  refine ⟨isVal (.agg #[.int .i64 (C.nodes + 1), .int .i64 C.slots, .int .i64 C.pages, .int .i64 C.room, .int .i64 C.chunk, .int .i64 C.buffer, .int .i64 C.queue, .int .i64 C.wear]), step_loadN 38 (.tmp 5) (ge) [.int .i64 (C.nodes + 1), .int .i64 C.slots, .int .i64 C.pages, .int .i64 C.room, .int .i64 C.chunk, .int .i64 C.buffer, .int .i64 C.queue, .int .i64 C.wear] (by kernel_rfl) (wanted_some 13 42 true (by kernel_rfl) (by kernel_rfl) (by kernel_rfl) (by kernel_rfl)) (knows_old 5 (.pointer (some ⟨ge, 0, none⟩)) (by kernel_rfl) e5) size_cf agg_cf (he), ?_⟩
  refine ⟨isVal (.int .i64 1), step_call 29 #[.tmp 43] #[38] #[.agg #[.int .i64 (C.nodes + 1), .int .i64 C.slots, .int .i64 C.pages, .int .i64 C.room, .int .i64 C.chunk, .int .i64 C.buffer, .int .i64 C.queue, .int .i64 C.wear]] (by kernel_rfl) (wanted_some 13 42 true (by kernel_rfl) (by kernel_rfl) (by kernel_rfl) (by kernel_rfl)) (stable_val _) (args1 (.tmp 43) (.agg #[.int .i64 (C.nodes + 1), .int .i64 C.slots, .int .i64 C.pages, .int .i64 C.room, .int .i64 C.chunk, .int .i64 C.buffer, .int .i64 C.queue, .int .i64 C.wear]) (knows_new (V := isVal (.agg #[.int .i64 (C.nodes + 1), .int .i64 C.slots, .int .i64 C.pages, .int .i64 C.room, .int .i64 C.chunk, .int .i64 C.buffer, .int .i64 C.queue, .int .i64 C.wear])) 43 14 (by kernel_rfl) (by kernel_rfl) (by kernel_rfl))) (enters_of Try.func29 (by kernel_rfl) rfl) (by intro w' hb; exact cv1 (gc_check (⟨C.nodes + 1, C.slots, C.pages, C.room, C.chunk, C.buffer, C.queue, C.wear⟩ : Cf) 1 w' (chkC_no ke))), ?_⟩
  refine ⟨isVal (.bool true), step_bin .neq 28 28 (.tmp 44) (.const (.int .i64 0)) (.int .i64 1) (.int .i64 0) (.bool true) (by kernel_rfl) (wanted_some 13 42 true (by kernel_rfl) (by kernel_rfl) (by kernel_rfl) (by kernel_rfl)) (knows_new (V := isVal (.int .i64 1)) 44 15 (by kernel_rfl) (by kernel_rfl) (by kernel_rfl)) (knows_const _) (fun _ => rfl) (neq_t _ _ (by omega)), ?_⟩
  refine ⟨isVal (.bool true), step_move (.tmp 45) (by kernel_rfl) (wanted_some 13 42 true (by kernel_rfl) (by kernel_rfl) (by kernel_rfl) (by kernel_rfl)) (stable_val _) (knows_new (V := isVal (.bool true)) 45 16 (by kernel_rfl) (by kernel_rfl) (by kernel_rfl)), ?_⟩
  refine ⟨_, step_skip 17 46 false true (by kernel_rfl) (by kernel_rfl) (by kernel_rfl) (by kernel_rfl) rfl, ?_⟩
  refine ⟨_, step_skip 17 46 false true (by kernel_rfl) (by kernel_rfl) (by kernel_rfl) (by kernel_rfl) rfl, ?_⟩
  refine ⟨_, step_skip 17 46 false true (by kernel_rfl) (by kernel_rfl) (by kernel_rfl) (by kernel_rfl) rfl, ?_⟩
  refine ⟨_, step_skip 17 46 false true (by kernel_rfl) (by kernel_rfl) (by kernel_rfl) (by kernel_rfl) rfl, ?_⟩
  refine ⟨_, step_skip 17 46 false true (by kernel_rfl) (by kernel_rfl) (by kernel_rfl) (by kernel_rfl) rfl, ?_⟩
  refine ⟨isVal (.bool true), step_pick (.tmp 46) (.const (.bool true)) (.tmp 51) true (by kernel_rfl) (wanted_some 13 42 true (by kernel_rfl) (by kernel_rfl) (by kernel_rfl) (by kernel_rfl)) (stable_val _) (knows_new (V := isVal (.bool true)) 46 17 (by kernel_rfl) (by kernel_rfl) (by kernel_rfl)) (knows_const _), ?_⟩
  refine ⟨isVal (.bool true), step_pick (.tmp 42) (.tmp 52) (.const (.bool false)) true (by kernel_rfl) (wanted_none (by kernel_rfl)) (stable_val _) (knows_new (V := isVal (.bool true)) 42 13 (by kernel_rfl) (by kernel_rfl) (by kernel_rfl)) (knows_new (V := isVal (.bool true)) 52 23 (by kernel_rfl) (by kernel_rfl) (by kernel_rfl)), ?_⟩
  refine ⟨isVal (.bool true), step_move (.tmp 53) (by kernel_rfl) (wanted_none (by kernel_rfl)) (stable_val _) (knows_new (V := isVal (.bool true)) 53 24 (by kernel_rfl) (by kernel_rfl) (by kernel_rfl)), ?_⟩
  refine ⟨isVal (.agg #[.int .i64 C.nodes, .int .i64 (C.slots + 1), .int .i64 C.pages, .int .i64 C.room, .int .i64 C.chunk, .int .i64 C.buffer, .int .i64 C.queue, .int .i64 C.wear]), step_loadN 38 (.tmp 6) (gf) [.int .i64 C.nodes, .int .i64 (C.slots + 1), .int .i64 C.pages, .int .i64 C.room, .int .i64 C.chunk, .int .i64 C.buffer, .int .i64 C.queue, .int .i64 C.wear] (by kernel_rfl) (wanted_some 25 54 true (by kernel_rfl) (by kernel_rfl) (by kernel_rfl) (by kernel_rfl)) (knows_old 6 (.pointer (some ⟨gf, 0, none⟩)) (by kernel_rfl) e6) size_cf agg_cf (hf), ?_⟩
  refine ⟨isVal (.int .i64 0), step_call 29 #[.tmp 55] #[38] #[.agg #[.int .i64 C.nodes, .int .i64 (C.slots + 1), .int .i64 C.pages, .int .i64 C.room, .int .i64 C.chunk, .int .i64 C.buffer, .int .i64 C.queue, .int .i64 C.wear]] (by kernel_rfl) (wanted_some 25 54 true (by kernel_rfl) (by kernel_rfl) (by kernel_rfl) (by kernel_rfl)) (stable_val _) (args1 (.tmp 55) (.agg #[.int .i64 C.nodes, .int .i64 (C.slots + 1), .int .i64 C.pages, .int .i64 C.room, .int .i64 C.chunk, .int .i64 C.buffer, .int .i64 C.queue, .int .i64 C.wear]) (knows_new (V := isVal (.agg #[.int .i64 C.nodes, .int .i64 (C.slots + 1), .int .i64 C.pages, .int .i64 C.room, .int .i64 C.chunk, .int .i64 C.buffer, .int .i64 C.queue, .int .i64 C.wear])) 55 26 (by kernel_rfl) (by kernel_rfl) (by kernel_rfl))) (enters_of Try.func29 (by kernel_rfl) rfl) (by intro w' hb; exact cv1 (gc_check (⟨C.nodes, C.slots + 1, C.pages, C.room, C.chunk, C.buffer, C.queue, C.wear⟩ : Cf) 0 w' (chkC_yes kf))), ?_⟩
  refine ⟨isVal (.bool false), step_bin .neq 28 28 (.tmp 56) (.const (.int .i64 0)) (.int .i64 0) (.int .i64 0) (.bool false) (by kernel_rfl) (wanted_some 25 54 true (by kernel_rfl) (by kernel_rfl) (by kernel_rfl) (by kernel_rfl)) (knows_new (V := isVal (.int .i64 0)) 56 27 (by kernel_rfl) (by kernel_rfl) (by kernel_rfl)) (knows_const _) (fun _ => rfl) (neq_f _ _ (by omega)), ?_⟩
  refine ⟨isVal (.bool false), step_move (.tmp 57) (by kernel_rfl) (wanted_some 25 54 true (by kernel_rfl) (by kernel_rfl) (by kernel_rfl) (by kernel_rfl)) (stable_val _) (knows_new (V := isVal (.bool false)) 57 28 (by kernel_rfl) (by kernel_rfl) (by kernel_rfl)), ?_⟩
  refine ⟨isVal (.agg #[.int .i64 C.nodes, .int .i64 (C.slots + 1), .int .i64 C.pages, .int .i64 C.room, .int .i64 C.chunk, .int .i64 C.buffer, .int .i64 C.queue, .int .i64 C.wear]), step_loadN 38 (.tmp 6) (gf) [.int .i64 C.nodes, .int .i64 (C.slots + 1), .int .i64 C.pages, .int .i64 C.room, .int .i64 C.chunk, .int .i64 C.buffer, .int .i64 C.queue, .int .i64 C.wear] (by kernel_rfl) (wanted_some 29 58 false (by kernel_rfl) (by kernel_rfl) (by kernel_rfl) (by kernel_rfl)) (knows_old 6 (.pointer (some ⟨gf, 0, none⟩)) (by kernel_rfl) e6) size_cf agg_cf (hf), ?_⟩
  refine ⟨isVal (.int .i64 rf), step_call 32 #[.tmp 59] #[38] #[.agg #[.int .i64 C.nodes, .int .i64 (C.slots + 1), .int .i64 C.pages, .int .i64 C.room, .int .i64 C.chunk, .int .i64 C.buffer, .int .i64 C.queue, .int .i64 C.wear]] (by kernel_rfl) (wanted_some 29 58 false (by kernel_rfl) (by kernel_rfl) (by kernel_rfl) (by kernel_rfl)) (stable_val _) (args1 (.tmp 59) (.agg #[.int .i64 C.nodes, .int .i64 (C.slots + 1), .int .i64 C.pages, .int .i64 C.room, .int .i64 C.chunk, .int .i64 C.buffer, .int .i64 C.queue, .int .i64 C.wear]) (knows_new (V := isVal (.agg #[.int .i64 C.nodes, .int .i64 (C.slots + 1), .int .i64 C.pages, .int .i64 C.room, .int .i64 C.chunk, .int .i64 C.buffer, .int .i64 C.queue, .int .i64 C.wear])) 59 30 (by kernel_rfl) (by kernel_rfl) (by kernel_rfl))) (enters_of Try.func32 (by kernel_rfl) rfl) (by intro w' hb; exact cv1 (gc_rounds (⟨C.nodes, C.slots + 1, C.pages, C.room, C.chunk, C.buffer, C.queue, C.wear⟩ : Cf) rf w' hrf)), ?_⟩
  refine ⟨isVal (.agg #[.int .i64 C.nodes, .int .i64 C.slots, .int .i64 C.pages, .int .i64 C.room, .int .i64 C.chunk, .int .i64 C.buffer, .int .i64 C.queue, .int .i64 C.wear]), step_loadN 38 (.tmp 1) (g) [.int .i64 C.nodes, .int .i64 C.slots, .int .i64 C.pages, .int .i64 C.room, .int .i64 C.chunk, .int .i64 C.buffer, .int .i64 C.queue, .int .i64 C.wear] (by kernel_rfl) (wanted_some 29 58 false (by kernel_rfl) (by kernel_rfl) (by kernel_rfl) (by kernel_rfl)) (knows_old 1 (.pointer (some ⟨g, 0, none⟩)) (by kernel_rfl) e1) size_cf agg_cf (hc), ?_⟩
  refine ⟨isVal (.int .i64 rc), step_call 32 #[.tmp 61] #[38] #[.agg #[.int .i64 C.nodes, .int .i64 C.slots, .int .i64 C.pages, .int .i64 C.room, .int .i64 C.chunk, .int .i64 C.buffer, .int .i64 C.queue, .int .i64 C.wear]] (by kernel_rfl) (wanted_some 29 58 false (by kernel_rfl) (by kernel_rfl) (by kernel_rfl) (by kernel_rfl)) (stable_val _) (args1 (.tmp 61) (.agg #[.int .i64 C.nodes, .int .i64 C.slots, .int .i64 C.pages, .int .i64 C.room, .int .i64 C.chunk, .int .i64 C.buffer, .int .i64 C.queue, .int .i64 C.wear]) (knows_new (V := isVal (.agg #[.int .i64 C.nodes, .int .i64 C.slots, .int .i64 C.pages, .int .i64 C.room, .int .i64 C.chunk, .int .i64 C.buffer, .int .i64 C.queue, .int .i64 C.wear])) 61 32 (by kernel_rfl) (by kernel_rfl) (by kernel_rfl))) (enters_of Try.func32 (by kernel_rfl) rfl) (by intro w' hb; exact cv1 (gc_rounds C rc w' hrc)), ?_⟩
  refine ⟨isVal (.bool true), step_bin .geq 3 3 (.tmp 60) (.tmp 62) (.int .i64 rf) (.int .i64 rc) (.bool true) (by kernel_rfl) (wanted_some 29 58 false (by kernel_rfl) (by kernel_rfl) (by kernel_rfl) (by kernel_rfl)) (knows_new (V := isVal (.int .i64 rf)) 60 31 (by kernel_rfl) (by kernel_rfl) (by kernel_rfl)) (knows_new (V := isVal (.int .i64 rc)) 62 33 (by kernel_rfl) (by kernel_rfl) (by kernel_rfl)) (fun _ => rfl) (geq_t _ _ (by omega)), ?_⟩
  refine ⟨isVal (.bool true), step_move (.tmp 63) (by kernel_rfl) (wanted_some 29 58 false (by kernel_rfl) (by kernel_rfl) (by kernel_rfl) (by kernel_rfl)) (stable_val _) (knows_new (V := isVal (.bool true)) 63 34 (by kernel_rfl) (by kernel_rfl) (by kernel_rfl)), ?_⟩
  refine ⟨isVal (.agg #[.int .i64 C.nodes, .int .i64 (C.slots + 1), .int .i64 C.pages, .int .i64 C.room, .int .i64 C.chunk, .int .i64 C.buffer, .int .i64 C.queue, .int .i64 C.wear]), step_loadN 38 (.tmp 6) (gf) [.int .i64 C.nodes, .int .i64 (C.slots + 1), .int .i64 C.pages, .int .i64 C.room, .int .i64 C.chunk, .int .i64 C.buffer, .int .i64 C.queue, .int .i64 C.wear] (by kernel_rfl) (wanted_some 35 64 true (by kernel_rfl) (by kernel_rfl) (by kernel_rfl) (by kernel_rfl)) (knows_old 6 (.pointer (some ⟨gf, 0, none⟩)) (by kernel_rfl) e6) size_cf agg_cf (hf), ?_⟩
  refine ⟨isVal (.int .i64 wf), step_call 33 #[.tmp 65] #[38] #[.agg #[.int .i64 C.nodes, .int .i64 (C.slots + 1), .int .i64 C.pages, .int .i64 C.room, .int .i64 C.chunk, .int .i64 C.buffer, .int .i64 C.queue, .int .i64 C.wear]] (by kernel_rfl) (wanted_some 35 64 true (by kernel_rfl) (by kernel_rfl) (by kernel_rfl) (by kernel_rfl)) (stable_val _) (args1 (.tmp 65) (.agg #[.int .i64 C.nodes, .int .i64 (C.slots + 1), .int .i64 C.pages, .int .i64 C.room, .int .i64 C.chunk, .int .i64 C.buffer, .int .i64 C.queue, .int .i64 C.wear]) (knows_new (V := isVal (.agg #[.int .i64 C.nodes, .int .i64 (C.slots + 1), .int .i64 C.pages, .int .i64 C.room, .int .i64 C.chunk, .int .i64 C.buffer, .int .i64 C.queue, .int .i64 C.wear])) 65 36 (by kernel_rfl) (by kernel_rfl) (by kernel_rfl))) (enters_of Try.func33 (by kernel_rfl) rfl) (by intro w' hb; exact cv1 (gc_work (⟨C.nodes, C.slots + 1, C.pages, C.room, C.chunk, C.buffer, C.queue, C.wear⟩ : Cf) wf w' hwf)), ?_⟩
  refine ⟨isVal (.agg #[.int .i64 C.nodes, .int .i64 C.slots, .int .i64 C.pages, .int .i64 C.room, .int .i64 C.chunk, .int .i64 C.buffer, .int .i64 C.queue, .int .i64 C.wear]), step_loadN 38 (.tmp 1) (g) [.int .i64 C.nodes, .int .i64 C.slots, .int .i64 C.pages, .int .i64 C.room, .int .i64 C.chunk, .int .i64 C.buffer, .int .i64 C.queue, .int .i64 C.wear] (by kernel_rfl) (wanted_some 35 64 true (by kernel_rfl) (by kernel_rfl) (by kernel_rfl) (by kernel_rfl)) (knows_old 1 (.pointer (some ⟨g, 0, none⟩)) (by kernel_rfl) e1) size_cf agg_cf (hc), ?_⟩
  refine ⟨isVal (.int .i64 wc), step_call 33 #[.tmp 67] #[38] #[.agg #[.int .i64 C.nodes, .int .i64 C.slots, .int .i64 C.pages, .int .i64 C.room, .int .i64 C.chunk, .int .i64 C.buffer, .int .i64 C.queue, .int .i64 C.wear]] (by kernel_rfl) (wanted_some 35 64 true (by kernel_rfl) (by kernel_rfl) (by kernel_rfl) (by kernel_rfl)) (stable_val _) (args1 (.tmp 67) (.agg #[.int .i64 C.nodes, .int .i64 C.slots, .int .i64 C.pages, .int .i64 C.room, .int .i64 C.chunk, .int .i64 C.buffer, .int .i64 C.queue, .int .i64 C.wear]) (knows_new (V := isVal (.agg #[.int .i64 C.nodes, .int .i64 C.slots, .int .i64 C.pages, .int .i64 C.room, .int .i64 C.chunk, .int .i64 C.buffer, .int .i64 C.queue, .int .i64 C.wear])) 67 38 (by kernel_rfl) (by kernel_rfl) (by kernel_rfl))) (enters_of Try.func33 (by kernel_rfl) rfl) (by intro w' hb; exact cv1 (gc_work C wc w' hwc)), ?_⟩
  refine ⟨isVal (.bool true), step_bin .geq 3 3 (.tmp 66) (.tmp 68) (.int .i64 wf) (.int .i64 wc) (.bool true) (by kernel_rfl) (wanted_some 35 64 true (by kernel_rfl) (by kernel_rfl) (by kernel_rfl) (by kernel_rfl)) (knows_new (V := isVal (.int .i64 wf)) 66 37 (by kernel_rfl) (by kernel_rfl) (by kernel_rfl)) (knows_new (V := isVal (.int .i64 wc)) 68 39 (by kernel_rfl) (by kernel_rfl) (by kernel_rfl)) (fun _ => rfl) (geq_t _ _ (by omega)), ?_⟩
  refine ⟨isVal (.bool true), step_pick (.tmp 64) (.tmp 69) (.const (.bool false)) true (by kernel_rfl) (wanted_some 29 58 false (by kernel_rfl) (by kernel_rfl) (by kernel_rfl) (by kernel_rfl)) (stable_val _) (knows_new (V := isVal (.bool true)) 64 35 (by kernel_rfl) (by kernel_rfl) (by kernel_rfl)) (knows_new (V := isVal (.bool true)) 69 40 (by kernel_rfl) (by kernel_rfl) (by kernel_rfl)), ?_⟩
  refine ⟨isVal (.bool true), step_pick (.tmp 58) (.const (.bool true)) (.tmp 70) false (by kernel_rfl) (wanted_some 25 54 true (by kernel_rfl) (by kernel_rfl) (by kernel_rfl) (by kernel_rfl)) (stable_val _) (knows_new (V := isVal (.bool false)) 58 29 (by kernel_rfl) (by kernel_rfl) (by kernel_rfl)) (knows_new (V := isVal (.bool true)) 70 41 (by kernel_rfl) (by kernel_rfl) (by kernel_rfl)), ?_⟩
  refine ⟨isVal (.bool true), step_pick (.tmp 54) (.tmp 71) (.const (.bool false)) true (by kernel_rfl) (wanted_none (by kernel_rfl)) (stable_val _) (knows_new (V := isVal (.bool true)) 54 25 (by kernel_rfl) (by kernel_rfl) (by kernel_rfl)) (knows_new (V := isVal (.bool true)) 71 42 (by kernel_rfl) (by kernel_rfl) (by kernel_rfl)), ?_⟩
  refine ⟨isVal (.bool true), step_assign (.tmp 72) (by kernel_rfl) (wanted_none (by kernel_rfl)) (stable_val _) (knows_new (V := isVal (.bool true)) 72 43 (by kernel_rfl) (by kernel_rfl) (by kernel_rfl)), ?_⟩
  intro a w hkp hb hd
  rw [kept_of hkp [some 29, some 30, some 31, some 32, some 33, some 34, some 35, some 36, some 37, some 38, some 39, some 40, some 41, some 42, some 43, some 44, some 45, some 46, some 47, some 48, some 49, some 50, some 51, some 52, some 53, some 54, some 55, some 56, some 57, some 58, some 59, some 60, some 61, some 62, some 63, some 64, some 65, some 66, some 67, some 68, some 69, some 70, some 71, some 72, some 2] [29, 30, 31, 32, 33, 34, 35, 36, 37, 38, 39, 40, 41, 42, 43, 44, 45, 46, 47, 48, 49, 50, 51, 52, 53, 54, 55, 56, 57, 58, 59, 60, 61, 62, 63, 64, 65, 66, 67, 68, 69, 70, 71, 72, 2] (by kernel_rfl) (by decide)]
  have d2 := fdone_of (hd 44 (by rw [show mrnnyOps.size = 45 by kernel_rfl]; decide)) (t := 2) (V := isVal (.bool true)) (by kernel_rfl) (by kernel_rfl)
  exact hQ (fun s => a.tmps.getD s undef) w d2 hb
noncomputable def mrnnnOps : Array Oper := regionOf Try.f6 12
set_option maxRecDepth 100000 in
set_option maxHeartbeats 2000000 in
theorem mrnnn_region (Q : Exit → Act → World → Prop) (a0 : Act) (w0 : World) (hsz : a0.tmps.size = 73) (g : Nat) (C : Cf) (hc : CellsN w0 g [.int .i64 C.nodes, .int .i64 C.slots, .int .i64 C.pages, .int .i64 C.room, .int .i64 C.chunk, .int .i64 C.buffer, .int .i64 C.queue, .int .i64 C.wear]) (e1 : a0.tmps.getD 1 undef = .pointer (some ⟨g, 0, none⟩)) (gd ge gf : Nat) (hd : CellsN w0 gd [.int .i64 C.nodes, .int .i64 C.slots, .int .i64 C.pages, .int .i64 C.room, .int .i64 (C.chunk + 1), .int .i64 C.buffer, .int .i64 C.queue, .int .i64 C.wear]) (he : CellsN w0 ge [.int .i64 (C.nodes + 1), .int .i64 C.slots, .int .i64 C.pages, .int .i64 C.room, .int .i64 C.chunk, .int .i64 C.buffer, .int .i64 C.queue, .int .i64 C.wear]) (hf : CellsN w0 gf [.int .i64 C.nodes, .int .i64 (C.slots + 1), .int .i64 C.pages, .int .i64 C.room, .int .i64 C.chunk, .int .i64 C.buffer, .int .i64 C.queue, .int .i64 C.wear]) (kd : okC ⟨C.nodes, C.slots, C.pages, C.room, C.chunk + 1, C.buffer, C.queue, C.wear⟩ = false) (ke : okC ⟨C.nodes + 1, C.slots, C.pages, C.room, C.chunk, C.buffer, C.queue, C.wear⟩ = false) (kf : okC ⟨C.nodes, C.slots + 1, C.pages, C.room, C.chunk, C.buffer, C.queue, C.wear⟩ = false) (rc rd re rf wc wf : Int) (hrc : roundsC C = rc) (hrd : roundsC ⟨C.nodes, C.slots, C.pages, C.room, C.chunk + 1, C.buffer, C.queue, C.wear⟩ = rd) (hre : roundsC ⟨C.nodes + 1, C.slots, C.pages, C.room, C.chunk, C.buffer, C.queue, C.wear⟩ = re) (hrf : roundsC ⟨C.nodes, C.slots + 1, C.pages, C.room, C.chunk, C.buffer, C.queue, C.wear⟩ = rf) (hwc : workC C = wc) (hwf : workC ⟨C.nodes, C.slots + 1, C.pages, C.room, C.chunk, C.buffer, C.queue, C.wear⟩ = wf) (q1 : True) (q2 : True) (q3 : True) (e3 : a0.tmps.getD 3 undef = .bool true) (e4 : a0.tmps.getD 4 undef = .pointer (some ⟨gd, 0, none⟩)) (e5 : a0.tmps.getD 5 undef = .pointer (some ⟨ge, 0, none⟩)) (e6 : a0.tmps.getD 6 undef = .pointer (some ⟨gf, 0, none⟩))
    (hQ : ∀ (g : Nat → Value) (w : World), g 2 = .bool true → Below w0.heap.size w0 w → Q .normal { tmps := [29, 30, 31, 32, 33, 34, 35, 36, 37, 38, 39, 40, 41, 42, 43, 44, 45, 46, 47, 48, 49, 50, 51, 52, 53, 54, 55, 56, 57, 58, 59, 60, 61, 62, 63, 64, 65, 66, 67, 68, 69, 70, 71, 72, 2].foldl (fun t s => t.setIfInBounds s (g s)) a0.tmps, defers := a0.defers } w) :
    (Code.region 12 mrnnnOps true).wp Try.prog Q a0 w0 := by
  refine wp_region_flow mixed (by rw [hsz]; kernel_rfl) ?_
  rw [show mrnnnOps.size = 45 by kernel_rfl]
  refine ⟨isVal (.bool true), step_move (.tmp 3) (by kernel_rfl) (wanted_none (by kernel_rfl)) (stable_val _) (knows_old 3 (.bool true) (by kernel_rfl) e3), ?_⟩
  refine ⟨isVal (.bool true), step_move (.tmp 29) (by kernel_rfl) (wanted_none (by kernel_rfl)) (stable_val _) (knows_new (V := isVal (.bool true)) 29 0 (by kernel_rfl) (by kernel_rfl) (by kernel_rfl)), ?_⟩
  refine ⟨isVal (.agg #[.int .i64 C.nodes, .int .i64 C.slots, .int .i64 C.pages, .int .i64 C.room, .int .i64 (C.chunk + 1), .int .i64 C.buffer, .int .i64 C.queue, .int .i64 C.wear]), step_loadN 38 (.tmp 4) (gd) [.int .i64 C.nodes, .int .i64 C.slots, .int .i64 C.pages, .int .i64 C.room, .int .i64 (C.chunk + 1), .int .i64 C.buffer, .int .i64 C.queue, .int .i64 C.wear] (by kernel_rfl) (wanted_some 1 30 true (by kernel_rfl) (by kernel_rfl) (by kernel_rfl) (by kernel_rfl)) (knows_old 4 (.pointer (some ⟨gd, 0, none⟩)) (by kernel_rfl) e4) size_cf agg_cf (hd), ?_⟩
  refine ⟨isVal (.int .i64 1), step_call 29 #[.tmp 31] #[38] #[.agg #[.int .i64 C.nodes, .int .i64 C.slots, .int .i64 C.pages, .int .i64 C.room, .int .i64 (C.chunk + 1), .int .i64 C.buffer, .int .i64 C.queue, .int .i64 C.wear]] (by kernel_rfl) (wanted_some 1 30 true (by kernel_rfl) (by kernel_rfl) (by kernel_rfl) (by kernel_rfl)) (stable_val _) (args1 (.tmp 31) (.agg #[.int .i64 C.nodes, .int .i64 C.slots, .int .i64 C.pages, .int .i64 C.room, .int .i64 (C.chunk + 1), .int .i64 C.buffer, .int .i64 C.queue, .int .i64 C.wear]) (knows_new (V := isVal (.agg #[.int .i64 C.nodes, .int .i64 C.slots, .int .i64 C.pages, .int .i64 C.room, .int .i64 (C.chunk + 1), .int .i64 C.buffer, .int .i64 C.queue, .int .i64 C.wear])) 31 2 (by kernel_rfl) (by kernel_rfl) (by kernel_rfl))) (enters_of Try.func29 (by kernel_rfl) rfl) (by intro w' hb; exact cv1 (gc_check (⟨C.nodes, C.slots, C.pages, C.room, C.chunk + 1, C.buffer, C.queue, C.wear⟩ : Cf) 1 w' (chkC_no kd))), ?_⟩
  refine ⟨isVal (.bool true), step_bin .neq 28 28 (.tmp 32) (.const (.int .i64 0)) (.int .i64 1) (.int .i64 0) (.bool true) (by kernel_rfl) (wanted_some 1 30 true (by kernel_rfl) (by kernel_rfl) (by kernel_rfl) (by kernel_rfl)) (knows_new (V := isVal (.int .i64 1)) 32 3 (by kernel_rfl) (by kernel_rfl) (by kernel_rfl)) (knows_const _) (fun _ => rfl) (neq_t _ _ (by omega)), ?_⟩
  refine ⟨isVal (.bool true), step_move (.tmp 33) (by kernel_rfl) (wanted_some 1 30 true (by kernel_rfl) (by kernel_rfl) (by kernel_rfl) (by kernel_rfl)) (stable_val _) (knows_new (V := isVal (.bool true)) 33 4 (by kernel_rfl) (by kernel_rfl) (by kernel_rfl)), ?_⟩
  refine ⟨_, step_skip 5 34 false true (by kernel_rfl) (by kernel_rfl) (by kernel_rfl) (by kernel_rfl) rfl, ?_⟩
  refine ⟨_, step_skip 5 34 false true (by kernel_rfl) (by kernel_rfl) (by kernel_rfl) (by kernel_rfl) rfl, ?_⟩
  refine ⟨_, step_skip 5 34 false true (by kernel_rfl) (by kernel_rfl) (by kernel_rfl) (by kernel_rfl) rfl, ?_⟩
  refine ⟨_, step_skip 5 34 false true (by kernel_rfl) (by kernel_rfl) (by kernel_rfl) (by kernel_rfl) rfl, ?_⟩
  refine ⟨_, step_skip 5 34 false true (by kernel_rfl) (by kernel_rfl) (by kernel_rfl) (by kernel_rfl) rfl, ?_⟩
  refine ⟨isVal (.bool true), step_pick (.tmp 34) (.const (.bool true)) (.tmp 39) true (by kernel_rfl) (wanted_some 1 30 true (by kernel_rfl) (by kernel_rfl) (by kernel_rfl) (by kernel_rfl)) (stable_val _) (knows_new (V := isVal (.bool true)) 34 5 (by kernel_rfl) (by kernel_rfl) (by kernel_rfl)) (knows_const _), ?_⟩
  refine ⟨isVal (.bool true), step_pick (.tmp 30) (.tmp 40) (.const (.bool false)) true (by kernel_rfl) (wanted_none (by kernel_rfl)) (stable_val _) (knows_new (V := isVal (.bool true)) 30 1 (by kernel_rfl) (by kernel_rfl) (by kernel_rfl)) (knows_new (V := isVal (.bool true)) 40 11 (by kernel_rfl) (by kernel_rfl) (by kernel_rfl)), ?_⟩
  refine ⟨isVal (.bool true), step_move (.tmp 41) (by kernel_rfl) (wanted_none (by kernel_rfl)) (stable_val _) (knows_new (V := isVal (.bool true)) 41 12 (by kernel_rfl) (by kernel_rfl) (by kernel_rfl)), ?_⟩
  refine ⟨isVal (.agg #[.int .i64 (C.nodes + 1), .int .i64 C.slots, .int .i64 C.pages, .int .i64 C.room, .int .i64 C.chunk, .int .i64 C.buffer, .int .i64 C.queue, .int .i64 C.wear]), step_loadN 38 (.tmp 5) (ge) [.int .i64 (C.nodes + 1), .int .i64 C.slots, .int .i64 C.pages, .int .i64 C.room, .int .i64 C.chunk, .int .i64 C.buffer, .int .i64 C.queue, .int .i64 C.wear] (by kernel_rfl) (wanted_some 13 42 true (by kernel_rfl) (by kernel_rfl) (by kernel_rfl) (by kernel_rfl)) (knows_old 5 (.pointer (some ⟨ge, 0, none⟩)) (by kernel_rfl) e5) size_cf agg_cf (he), ?_⟩
  refine ⟨isVal (.int .i64 1), step_call 29 #[.tmp 43] #[38] #[.agg #[.int .i64 (C.nodes + 1), .int .i64 C.slots, .int .i64 C.pages, .int .i64 C.room, .int .i64 C.chunk, .int .i64 C.buffer, .int .i64 C.queue, .int .i64 C.wear]] (by kernel_rfl) (wanted_some 13 42 true (by kernel_rfl) (by kernel_rfl) (by kernel_rfl) (by kernel_rfl)) (stable_val _) (args1 (.tmp 43) (.agg #[.int .i64 (C.nodes + 1), .int .i64 C.slots, .int .i64 C.pages, .int .i64 C.room, .int .i64 C.chunk, .int .i64 C.buffer, .int .i64 C.queue, .int .i64 C.wear]) (knows_new (V := isVal (.agg #[.int .i64 (C.nodes + 1), .int .i64 C.slots, .int .i64 C.pages, .int .i64 C.room, .int .i64 C.chunk, .int .i64 C.buffer, .int .i64 C.queue, .int .i64 C.wear])) 43 14 (by kernel_rfl) (by kernel_rfl) (by kernel_rfl))) (enters_of Try.func29 (by kernel_rfl) rfl) (by intro w' hb; exact cv1 (gc_check (⟨C.nodes + 1, C.slots, C.pages, C.room, C.chunk, C.buffer, C.queue, C.wear⟩ : Cf) 1 w' (chkC_no ke))), ?_⟩
  refine ⟨isVal (.bool true), step_bin .neq 28 28 (.tmp 44) (.const (.int .i64 0)) (.int .i64 1) (.int .i64 0) (.bool true) (by kernel_rfl) (wanted_some 13 42 true (by kernel_rfl) (by kernel_rfl) (by kernel_rfl) (by kernel_rfl)) (knows_new (V := isVal (.int .i64 1)) 44 15 (by kernel_rfl) (by kernel_rfl) (by kernel_rfl)) (knows_const _) (fun _ => rfl) (neq_t _ _ (by omega)), ?_⟩
  refine ⟨isVal (.bool true), step_move (.tmp 45) (by kernel_rfl) (wanted_some 13 42 true (by kernel_rfl) (by kernel_rfl) (by kernel_rfl) (by kernel_rfl)) (stable_val _) (knows_new (V := isVal (.bool true)) 45 16 (by kernel_rfl) (by kernel_rfl) (by kernel_rfl)), ?_⟩
  refine ⟨_, step_skip 17 46 false true (by kernel_rfl) (by kernel_rfl) (by kernel_rfl) (by kernel_rfl) rfl, ?_⟩
  refine ⟨_, step_skip 17 46 false true (by kernel_rfl) (by kernel_rfl) (by kernel_rfl) (by kernel_rfl) rfl, ?_⟩
  refine ⟨_, step_skip 17 46 false true (by kernel_rfl) (by kernel_rfl) (by kernel_rfl) (by kernel_rfl) rfl, ?_⟩
  refine ⟨_, step_skip 17 46 false true (by kernel_rfl) (by kernel_rfl) (by kernel_rfl) (by kernel_rfl) rfl, ?_⟩
  refine ⟨_, step_skip 17 46 false true (by kernel_rfl) (by kernel_rfl) (by kernel_rfl) (by kernel_rfl) rfl, ?_⟩
  refine ⟨isVal (.bool true), step_pick (.tmp 46) (.const (.bool true)) (.tmp 51) true (by kernel_rfl) (wanted_some 13 42 true (by kernel_rfl) (by kernel_rfl) (by kernel_rfl) (by kernel_rfl)) (stable_val _) (knows_new (V := isVal (.bool true)) 46 17 (by kernel_rfl) (by kernel_rfl) (by kernel_rfl)) (knows_const _), ?_⟩
  refine ⟨isVal (.bool true), step_pick (.tmp 42) (.tmp 52) (.const (.bool false)) true (by kernel_rfl) (wanted_none (by kernel_rfl)) (stable_val _) (knows_new (V := isVal (.bool true)) 42 13 (by kernel_rfl) (by kernel_rfl) (by kernel_rfl)) (knows_new (V := isVal (.bool true)) 52 23 (by kernel_rfl) (by kernel_rfl) (by kernel_rfl)), ?_⟩
  refine ⟨isVal (.bool true), step_move (.tmp 53) (by kernel_rfl) (wanted_none (by kernel_rfl)) (stable_val _) (knows_new (V := isVal (.bool true)) 53 24 (by kernel_rfl) (by kernel_rfl) (by kernel_rfl)), ?_⟩
  refine ⟨isVal (.agg #[.int .i64 C.nodes, .int .i64 (C.slots + 1), .int .i64 C.pages, .int .i64 C.room, .int .i64 C.chunk, .int .i64 C.buffer, .int .i64 C.queue, .int .i64 C.wear]), step_loadN 38 (.tmp 6) (gf) [.int .i64 C.nodes, .int .i64 (C.slots + 1), .int .i64 C.pages, .int .i64 C.room, .int .i64 C.chunk, .int .i64 C.buffer, .int .i64 C.queue, .int .i64 C.wear] (by kernel_rfl) (wanted_some 25 54 true (by kernel_rfl) (by kernel_rfl) (by kernel_rfl) (by kernel_rfl)) (knows_old 6 (.pointer (some ⟨gf, 0, none⟩)) (by kernel_rfl) e6) size_cf agg_cf (hf), ?_⟩
  refine ⟨isVal (.int .i64 1), step_call 29 #[.tmp 55] #[38] #[.agg #[.int .i64 C.nodes, .int .i64 (C.slots + 1), .int .i64 C.pages, .int .i64 C.room, .int .i64 C.chunk, .int .i64 C.buffer, .int .i64 C.queue, .int .i64 C.wear]] (by kernel_rfl) (wanted_some 25 54 true (by kernel_rfl) (by kernel_rfl) (by kernel_rfl) (by kernel_rfl)) (stable_val _) (args1 (.tmp 55) (.agg #[.int .i64 C.nodes, .int .i64 (C.slots + 1), .int .i64 C.pages, .int .i64 C.room, .int .i64 C.chunk, .int .i64 C.buffer, .int .i64 C.queue, .int .i64 C.wear]) (knows_new (V := isVal (.agg #[.int .i64 C.nodes, .int .i64 (C.slots + 1), .int .i64 C.pages, .int .i64 C.room, .int .i64 C.chunk, .int .i64 C.buffer, .int .i64 C.queue, .int .i64 C.wear])) 55 26 (by kernel_rfl) (by kernel_rfl) (by kernel_rfl))) (enters_of Try.func29 (by kernel_rfl) rfl) (by intro w' hb; exact cv1 (gc_check (⟨C.nodes, C.slots + 1, C.pages, C.room, C.chunk, C.buffer, C.queue, C.wear⟩ : Cf) 1 w' (chkC_no kf))), ?_⟩
  refine ⟨isVal (.bool true), step_bin .neq 28 28 (.tmp 56) (.const (.int .i64 0)) (.int .i64 1) (.int .i64 0) (.bool true) (by kernel_rfl) (wanted_some 25 54 true (by kernel_rfl) (by kernel_rfl) (by kernel_rfl) (by kernel_rfl)) (knows_new (V := isVal (.int .i64 1)) 56 27 (by kernel_rfl) (by kernel_rfl) (by kernel_rfl)) (knows_const _) (fun _ => rfl) (neq_t _ _ (by omega)), ?_⟩
  refine ⟨isVal (.bool true), step_move (.tmp 57) (by kernel_rfl) (wanted_some 25 54 true (by kernel_rfl) (by kernel_rfl) (by kernel_rfl) (by kernel_rfl)) (stable_val _) (knows_new (V := isVal (.bool true)) 57 28 (by kernel_rfl) (by kernel_rfl) (by kernel_rfl)), ?_⟩
  refine ⟨_, step_skip 29 58 false true (by kernel_rfl) (by kernel_rfl) (by kernel_rfl) (by kernel_rfl) rfl, ?_⟩
  refine ⟨_, step_skip 29 58 false true (by kernel_rfl) (by kernel_rfl) (by kernel_rfl) (by kernel_rfl) rfl, ?_⟩
  refine ⟨_, step_skip 29 58 false true (by kernel_rfl) (by kernel_rfl) (by kernel_rfl) (by kernel_rfl) rfl, ?_⟩
  refine ⟨_, step_skip 29 58 false true (by kernel_rfl) (by kernel_rfl) (by kernel_rfl) (by kernel_rfl) rfl, ?_⟩
  refine ⟨_, step_skip 29 58 false true (by kernel_rfl) (by kernel_rfl) (by kernel_rfl) (by kernel_rfl) rfl, ?_⟩
  refine ⟨_, step_skip 29 58 false true (by kernel_rfl) (by kernel_rfl) (by kernel_rfl) (by kernel_rfl) rfl, ?_⟩
  refine ⟨_, step_skipU 35 64 true (by kernel_rfl) (by kernel_rfl) (by kernel_rfl) (by kernel_rfl), ?_⟩
  refine ⟨_, step_skipU 35 64 true (by kernel_rfl) (by kernel_rfl) (by kernel_rfl) (by kernel_rfl), ?_⟩
  refine ⟨_, step_skipU 35 64 true (by kernel_rfl) (by kernel_rfl) (by kernel_rfl) (by kernel_rfl), ?_⟩
  refine ⟨_, step_skipU 35 64 true (by kernel_rfl) (by kernel_rfl) (by kernel_rfl) (by kernel_rfl), ?_⟩
  refine ⟨_, step_skipU 35 64 true (by kernel_rfl) (by kernel_rfl) (by kernel_rfl) (by kernel_rfl), ?_⟩
  refine ⟨_, step_skip 29 58 false true (by kernel_rfl) (by kernel_rfl) (by kernel_rfl) (by kernel_rfl) rfl, ?_⟩
  refine ⟨isVal (.bool true), step_pick (.tmp 58) (.const (.bool true)) (.tmp 70) true (by kernel_rfl) (wanted_some 25 54 true (by kernel_rfl) (by kernel_rfl) (by kernel_rfl) (by kernel_rfl)) (stable_val _) (knows_new (V := isVal (.bool true)) 58 29 (by kernel_rfl) (by kernel_rfl) (by kernel_rfl)) (knows_const _), ?_⟩
  refine ⟨isVal (.bool true), step_pick (.tmp 54) (.tmp 71) (.const (.bool false)) true (by kernel_rfl) (wanted_none (by kernel_rfl)) (stable_val _) (knows_new (V := isVal (.bool true)) 54 25 (by kernel_rfl) (by kernel_rfl) (by kernel_rfl)) (knows_new (V := isVal (.bool true)) 71 42 (by kernel_rfl) (by kernel_rfl) (by kernel_rfl)), ?_⟩
  refine ⟨isVal (.bool true), step_assign (.tmp 72) (by kernel_rfl) (wanted_none (by kernel_rfl)) (stable_val _) (knows_new (V := isVal (.bool true)) 72 43 (by kernel_rfl) (by kernel_rfl) (by kernel_rfl)), ?_⟩
  intro a w hkp hb hd
  rw [kept_of hkp [some 29, some 30, some 31, some 32, some 33, some 34, some 35, some 36, some 37, some 38, some 39, some 40, some 41, some 42, some 43, some 44, some 45, some 46, some 47, some 48, some 49, some 50, some 51, some 52, some 53, some 54, some 55, some 56, some 57, some 58, some 59, some 60, some 61, some 62, some 63, some 64, some 65, some 66, some 67, some 68, some 69, some 70, some 71, some 72, some 2] [29, 30, 31, 32, 33, 34, 35, 36, 37, 38, 39, 40, 41, 42, 43, 44, 45, 46, 47, 48, 49, 50, 51, 52, 53, 54, 55, 56, 57, 58, 59, 60, 61, 62, 63, 64, 65, 66, 67, 68, 69, 70, 71, 72, 2] (by kernel_rfl) (by decide)]
  have d2 := fdone_of (hd 44 (by rw [show mrnnnOps.size = 45 by kernel_rfl]; decide)) (t := 2) (V := isVal (.bool true)) (by kernel_rfl) (by kernel_rfl)
  exact hQ (fun s => a.tmps.getD s undef) w d2 hb
set_option maxRecDepth 100000 in
set_option maxHeartbeats 2000000 in
theorem configMore_walk (C : Cf) (v0 : Value) (w0 : CameC C) (w : World) (fl0 : isCf C v0 w) :
    Calls Try.prog 6 #[v0] w fun e w' => e = .returned (.bool true) ∧ Below w.heap.size w w' := by
  unfold isCf at fl0
  subst fl0
  obtain ⟨hB, HC⟩ := cbox w C w.heap.size rfl
  obtain ⟨hn, hn2⟩ : w.heap.size ≤ w.heap.size ∧ True := ⟨Nat.le_refl _, trivial⟩
  clear hn hn2
  go_enter Try.func6, Try.ntmps6
  go_wp2_with fail
  generalize w.alloc (.cells #[.int .i64 C.nodes, .int .i64 C.slots, .int .i64 C.pages, .int .i64 C.room, .int .i64 C.chunk, .int .i64 C.buffer, .int .i64 C.queue, .int .i64 C.wear] 38) = W0 at *
  refine (cfworks_any W0).mono ?_
  rintro e W1 ⟨rfl, hb⟩
  replace hB := Kept.mk (hB.out.trans (hb.mono hB.out.size))
  replace HC := Kept.mk (HC.out.keep hb)
  clear hb
  have kc0 := HC.out.cells.2 0 _ rfl
  have kc1 := HC.out.cells.2 1 _ rfl
  have kc2 := HC.out.cells.2 2 _ rfl
  have kc3 := HC.out.cells.2 3 _ rfl
  have kc4 := HC.out.cells.2 4 _ rfl
  have kc5 := HC.out.cells.2 5 _ rfl
  have kc6 := HC.out.cells.2 6 _ rfl
  have kc7 := HC.out.cells.2 7 _ rfl
  go_wp2_with fail
  clear kc0 kc1 kc2 kc3 kc4 kc5 kc6 kc7
  cases hok : okC C with
  | false =>
    have HOK := Kept.mk hok
    clear hok
    refine (gc_check C 1 W1 (chkC_no HOK.out)).mono ?_
    rintro e W2 ⟨rfl, hb⟩
    replace hB := Kept.mk (hB.out.trans (hb.mono hB.out.size))
    replace HC := Kept.mk (HC.out.keep hb)
    clear hb
    go_wp2
    go_ret
    exact ⟨rfl, hB.out⟩
  | true =>
    have HOK := Kept.mk hok
    clear hok
    refine (gc_check C 0 W1 (chkC_yes HOK.out)).mono ?_
    rintro e W2 ⟨rfl, hb⟩
    replace hB := Kept.mk (hB.out.trans (hb.mono hB.out.size))
    replace HC := Kept.mk (HC.out.keep hb)
    clear hb
    have kc0 := HC.out.cells.2 0 _ rfl
    have kc1 := HC.out.cells.2 1 _ rfl
    have kc2 := HC.out.cells.2 2 _ rfl
    have kc3 := HC.out.cells.2 3 _ rfl
    have kc4 := HC.out.cells.2 4 _ rfl
    have kc5 := HC.out.cells.2 5 _ rfl
    have kc6 := HC.out.cells.2 6 _ rfl
    have kc7 := HC.out.cells.2 7 _ rfl
    have hO := okC_spec.1 HOK.out
    have n1 := hO.nodes
    have n2 := hO.slots
    have n4 := hO.chunk
    clear hO
    have HVd := Kept.mk (Hold.new W2 38 [.int .i64 C.nodes, .int .i64 C.slots, .int .i64 C.pages, .int .i64 C.room, .int .i64 (C.chunk + 1), .int .i64 C.buffer, .int .i64 C.queue, .int .i64 C.wear] (W2.heap.size) (by first | rfl | simp))
    replace HVd := Kept.mk (HVd.out.alloc (.cells #[.int .i64 (C.nodes + 1), .int .i64 C.slots, .int .i64 C.pages, .int .i64 C.room, .int .i64 C.chunk, .int .i64 C.buffer, .int .i64 C.queue, .int .i64 C.wear] 38))
    replace HVd := Kept.mk (HVd.out.alloc (.cells #[.int .i64 C.nodes, .int .i64 (C.slots + 1), .int .i64 C.pages, .int .i64 C.room, .int .i64 C.chunk, .int .i64 C.buffer, .int .i64 C.queue, .int .i64 C.wear] 38))
    have HVe := Kept.mk (Hold.new (W2.alloc (.cells #[.int .i64 C.nodes, .int .i64 C.slots, .int .i64 C.pages, .int .i64 C.room, .int .i64 (C.chunk + 1), .int .i64 C.buffer, .int .i64 C.queue, .int .i64 C.wear] 38)) 38 [.int .i64 (C.nodes + 1), .int .i64 C.slots, .int .i64 C.pages, .int .i64 C.room, .int .i64 C.chunk, .int .i64 C.buffer, .int .i64 C.queue, .int .i64 C.wear] (W2.heap.size + 1) (by first | rfl | simp))
    replace HVe := Kept.mk (HVe.out.alloc (.cells #[.int .i64 C.nodes, .int .i64 (C.slots + 1), .int .i64 C.pages, .int .i64 C.room, .int .i64 C.chunk, .int .i64 C.buffer, .int .i64 C.queue, .int .i64 C.wear] 38))
    have HVf := Kept.mk (Hold.new ((W2.alloc (.cells #[.int .i64 C.nodes, .int .i64 C.slots, .int .i64 C.pages, .int .i64 C.room, .int .i64 (C.chunk + 1), .int .i64 C.buffer, .int .i64 C.queue, .int .i64 C.wear] 38)).alloc (.cells #[.int .i64 (C.nodes + 1), .int .i64 C.slots, .int .i64 C.pages, .int .i64 C.room, .int .i64 C.chunk, .int .i64 C.buffer, .int .i64 C.queue, .int .i64 C.wear] 38)) 38 [.int .i64 C.nodes, .int .i64 (C.slots + 1), .int .i64 C.pages, .int .i64 C.room, .int .i64 C.chunk, .int .i64 C.buffer, .int .i64 C.queue, .int .i64 C.wear] (W2.heap.size + 1 + 1) (by first | rfl | simp))
    have ka0 := (Hold.alloc HC.out (.cells #[.int .i64 C.nodes, .int .i64 C.slots, .int .i64 C.pages, .int .i64 C.room, .int .i64 C.chunk, .int .i64 C.buffer, .int .i64 C.queue, .int .i64 C.wear] 38)).cells.2 4 _ rfl
    have ke10 := (HC.out.alloc (.cells #[.int .i64 C.nodes, .int .i64 C.slots, .int .i64 C.pages, .int .i64 C.room, .int .i64 (C.chunk + 1), .int .i64 C.buffer, .int .i64 C.queue, .int .i64 C.wear] 38)).cells.2 0 _ rfl
    have ke11 := (HC.out.alloc (.cells #[.int .i64 C.nodes, .int .i64 C.slots, .int .i64 C.pages, .int .i64 C.room, .int .i64 (C.chunk + 1), .int .i64 C.buffer, .int .i64 C.queue, .int .i64 C.wear] 38)).cells.2 1 _ rfl
    have ke12 := (HC.out.alloc (.cells #[.int .i64 C.nodes, .int .i64 C.slots, .int .i64 C.pages, .int .i64 C.room, .int .i64 (C.chunk + 1), .int .i64 C.buffer, .int .i64 C.queue, .int .i64 C.wear] 38)).cells.2 2 _ rfl
    have ke13 := (HC.out.alloc (.cells #[.int .i64 C.nodes, .int .i64 C.slots, .int .i64 C.pages, .int .i64 C.room, .int .i64 (C.chunk + 1), .int .i64 C.buffer, .int .i64 C.queue, .int .i64 C.wear] 38)).cells.2 3 _ rfl
    have ke14 := (HC.out.alloc (.cells #[.int .i64 C.nodes, .int .i64 C.slots, .int .i64 C.pages, .int .i64 C.room, .int .i64 (C.chunk + 1), .int .i64 C.buffer, .int .i64 C.queue, .int .i64 C.wear] 38)).cells.2 4 _ rfl
    have ke15 := (HC.out.alloc (.cells #[.int .i64 C.nodes, .int .i64 C.slots, .int .i64 C.pages, .int .i64 C.room, .int .i64 (C.chunk + 1), .int .i64 C.buffer, .int .i64 C.queue, .int .i64 C.wear] 38)).cells.2 5 _ rfl
    have ke16 := (HC.out.alloc (.cells #[.int .i64 C.nodes, .int .i64 C.slots, .int .i64 C.pages, .int .i64 C.room, .int .i64 (C.chunk + 1), .int .i64 C.buffer, .int .i64 C.queue, .int .i64 C.wear] 38)).cells.2 6 _ rfl
    have ke17 := (HC.out.alloc (.cells #[.int .i64 C.nodes, .int .i64 C.slots, .int .i64 C.pages, .int .i64 C.room, .int .i64 (C.chunk + 1), .int .i64 C.buffer, .int .i64 C.queue, .int .i64 C.wear] 38)).cells.2 7 _ rfl
    have ka1 := (Hold.alloc (HC.out.alloc (.cells #[.int .i64 C.nodes, .int .i64 C.slots, .int .i64 C.pages, .int .i64 C.room, .int .i64 (C.chunk + 1), .int .i64 C.buffer, .int .i64 C.queue, .int .i64 C.wear] 38)) (.cells #[.int .i64 C.nodes, .int .i64 C.slots, .int .i64 C.pages, .int .i64 C.room, .int .i64 C.chunk, .int .i64 C.buffer, .int .i64 C.queue, .int .i64 C.wear] 38)).cells.2 0 _ rfl
    have ke20 := ((HC.out.alloc (.cells #[.int .i64 C.nodes, .int .i64 C.slots, .int .i64 C.pages, .int .i64 C.room, .int .i64 (C.chunk + 1), .int .i64 C.buffer, .int .i64 C.queue, .int .i64 C.wear] 38)).alloc (.cells #[.int .i64 (C.nodes + 1), .int .i64 C.slots, .int .i64 C.pages, .int .i64 C.room, .int .i64 C.chunk, .int .i64 C.buffer, .int .i64 C.queue, .int .i64 C.wear] 38)).cells.2 0 _ rfl
    have ke21 := ((HC.out.alloc (.cells #[.int .i64 C.nodes, .int .i64 C.slots, .int .i64 C.pages, .int .i64 C.room, .int .i64 (C.chunk + 1), .int .i64 C.buffer, .int .i64 C.queue, .int .i64 C.wear] 38)).alloc (.cells #[.int .i64 (C.nodes + 1), .int .i64 C.slots, .int .i64 C.pages, .int .i64 C.room, .int .i64 C.chunk, .int .i64 C.buffer, .int .i64 C.queue, .int .i64 C.wear] 38)).cells.2 1 _ rfl
    have ke22 := ((HC.out.alloc (.cells #[.int .i64 C.nodes, .int .i64 C.slots, .int .i64 C.pages, .int .i64 C.room, .int .i64 (C.chunk + 1), .int .i64 C.buffer, .int .i64 C.queue, .int .i64 C.wear] 38)).alloc (.cells #[.int .i64 (C.nodes + 1), .int .i64 C.slots, .int .i64 C.pages, .int .i64 C.room, .int .i64 C.chunk, .int .i64 C.buffer, .int .i64 C.queue, .int .i64 C.wear] 38)).cells.2 2 _ rfl
    have ke23 := ((HC.out.alloc (.cells #[.int .i64 C.nodes, .int .i64 C.slots, .int .i64 C.pages, .int .i64 C.room, .int .i64 (C.chunk + 1), .int .i64 C.buffer, .int .i64 C.queue, .int .i64 C.wear] 38)).alloc (.cells #[.int .i64 (C.nodes + 1), .int .i64 C.slots, .int .i64 C.pages, .int .i64 C.room, .int .i64 C.chunk, .int .i64 C.buffer, .int .i64 C.queue, .int .i64 C.wear] 38)).cells.2 3 _ rfl
    have ke24 := ((HC.out.alloc (.cells #[.int .i64 C.nodes, .int .i64 C.slots, .int .i64 C.pages, .int .i64 C.room, .int .i64 (C.chunk + 1), .int .i64 C.buffer, .int .i64 C.queue, .int .i64 C.wear] 38)).alloc (.cells #[.int .i64 (C.nodes + 1), .int .i64 C.slots, .int .i64 C.pages, .int .i64 C.room, .int .i64 C.chunk, .int .i64 C.buffer, .int .i64 C.queue, .int .i64 C.wear] 38)).cells.2 4 _ rfl
    have ke25 := ((HC.out.alloc (.cells #[.int .i64 C.nodes, .int .i64 C.slots, .int .i64 C.pages, .int .i64 C.room, .int .i64 (C.chunk + 1), .int .i64 C.buffer, .int .i64 C.queue, .int .i64 C.wear] 38)).alloc (.cells #[.int .i64 (C.nodes + 1), .int .i64 C.slots, .int .i64 C.pages, .int .i64 C.room, .int .i64 C.chunk, .int .i64 C.buffer, .int .i64 C.queue, .int .i64 C.wear] 38)).cells.2 5 _ rfl
    have ke26 := ((HC.out.alloc (.cells #[.int .i64 C.nodes, .int .i64 C.slots, .int .i64 C.pages, .int .i64 C.room, .int .i64 (C.chunk + 1), .int .i64 C.buffer, .int .i64 C.queue, .int .i64 C.wear] 38)).alloc (.cells #[.int .i64 (C.nodes + 1), .int .i64 C.slots, .int .i64 C.pages, .int .i64 C.room, .int .i64 C.chunk, .int .i64 C.buffer, .int .i64 C.queue, .int .i64 C.wear] 38)).cells.2 6 _ rfl
    have ke27 := ((HC.out.alloc (.cells #[.int .i64 C.nodes, .int .i64 C.slots, .int .i64 C.pages, .int .i64 C.room, .int .i64 (C.chunk + 1), .int .i64 C.buffer, .int .i64 C.queue, .int .i64 C.wear] 38)).alloc (.cells #[.int .i64 (C.nodes + 1), .int .i64 C.slots, .int .i64 C.pages, .int .i64 C.room, .int .i64 C.chunk, .int .i64 C.buffer, .int .i64 C.queue, .int .i64 C.wear] 38)).cells.2 7 _ rfl
    have ka2 := (Hold.alloc ((HC.out.alloc (.cells #[.int .i64 C.nodes, .int .i64 C.slots, .int .i64 C.pages, .int .i64 C.room, .int .i64 (C.chunk + 1), .int .i64 C.buffer, .int .i64 C.queue, .int .i64 C.wear] 38)).alloc (.cells #[.int .i64 (C.nodes + 1), .int .i64 C.slots, .int .i64 C.pages, .int .i64 C.room, .int .i64 C.chunk, .int .i64 C.buffer, .int .i64 C.queue, .int .i64 C.wear] 38)) (.cells #[.int .i64 C.nodes, .int .i64 C.slots, .int .i64 C.pages, .int .i64 C.room, .int .i64 C.chunk, .int .i64 C.buffer, .int .i64 C.queue, .int .i64 C.wear] 38)).cells.2 1 _ rfl
    have hb : Below W2.heap.size W2 (((W2.alloc (.cells #[.int .i64 C.nodes, .int .i64 C.slots, .int .i64 C.pages, .int .i64 C.room, .int .i64 (C.chunk + 1), .int .i64 C.buffer, .int .i64 C.queue, .int .i64 C.wear] 38)).alloc (.cells #[.int .i64 (C.nodes + 1), .int .i64 C.slots, .int .i64 C.pages, .int .i64 C.room, .int .i64 C.chunk, .int .i64 C.buffer, .int .i64 C.queue, .int .i64 C.wear] 38)).alloc (.cells #[.int .i64 C.nodes, .int .i64 (C.slots + 1), .int .i64 C.pages, .int .i64 C.room, .int .i64 C.chunk, .int .i64 C.buffer, .int .i64 C.queue, .int .i64 C.wear] 38)) := (((Below.refl _ _).alloc (Nat.le_refl _) _).alloc (by simp) _).alloc (by simp; omega) _
    replace hB := Kept.mk (hB.out.trans (hb.mono hB.out.size))
    replace HC := Kept.mk (HC.out.keep hb)
    clear hb
    go_wp2_with fail
    clear ka0 ke10 ke11 ke12 ke13 ke14 ke15 ke16 ke17 ka1 ke20 ke21 ke22 ke23 ke24 ke25 ke26 ke27 ka2
    clear kc0 kc1 kc2 kc3 kc4 kc5 kc6 kc7
    generalize (((W2.alloc (.cells #[.int .i64 C.nodes, .int .i64 C.slots, .int .i64 C.pages, .int .i64 C.room, .int .i64 (C.chunk + 1), .int .i64 C.buffer, .int .i64 C.queue, .int .i64 C.wear] 38)).alloc (.cells #[.int .i64 (C.nodes + 1), .int .i64 C.slots, .int .i64 C.pages, .int .i64 C.room, .int .i64 C.chunk, .int .i64 C.buffer, .int .i64 C.queue, .int .i64 C.wear] 38)).alloc (.cells #[.int .i64 C.nodes, .int .i64 (C.slots + 1), .int .i64 C.pages, .int .i64 C.room, .int .i64 C.chunk, .int .i64 C.buffer, .int .i64 C.queue, .int .i64 C.wear] 38)) = W3 at *
    obtain ⟨rc, hrrc⟩ : ∃ r : Int, roundsC C = r := ⟨_, rfl⟩
    obtain ⟨rd, hrrd⟩ : ∃ r : Int, roundsC ⟨C.nodes, C.slots, C.pages, C.room, C.chunk + 1, C.buffer, C.queue, C.wear⟩ = r := ⟨_, rfl⟩
    obtain ⟨re, hrre⟩ : ∃ r : Int, roundsC ⟨C.nodes + 1, C.slots, C.pages, C.room, C.chunk, C.buffer, C.queue, C.wear⟩ = r := ⟨_, rfl⟩
    obtain ⟨rf, hrrf⟩ : ∃ r : Int, roundsC ⟨C.nodes, C.slots + 1, C.pages, C.room, C.chunk, C.buffer, C.queue, C.wear⟩ = r := ⟨_, rfl⟩
    obtain ⟨wc, hwc⟩ : ∃ r : Int, workC C = r := ⟨_, rfl⟩
    obtain ⟨wf, hwf⟩ : ∃ r : Int, workC ⟨C.nodes, C.slots + 1, C.pages, C.room, C.chunk, C.buffer, C.queue, C.wear⟩ = r := ⟨_, rfl⟩
    cases kd : okC ⟨C.nodes, C.slots, C.pages, C.room, C.chunk + 1, C.buffer, C.queue, C.wear⟩ with
    | false =>
      cases ke : okC ⟨C.nodes + 1, C.slots, C.pages, C.room, C.chunk, C.buffer, C.queue, C.wear⟩ with
      | false =>
        cases kf : okC ⟨C.nodes, C.slots + 1, C.pages, C.room, C.chunk, C.buffer, C.queue, C.wear⟩ with
        | false =>
          refine mrnnn_region _ _ _ rfl w.heap.size C HC.out.cells rfl (W2.heap.size) (W2.heap.size + 1) (W2.heap.size + 1 + 1) HVd.out.cells HVe.out.cells HVf.out.cells kd ke kf rc rd re rf wc wf hrrc hrrd hrre hrrf hwc hwf trivial trivial trivial rfl rfl rfl rfl ?_
          intro f9 W9 d2 hb9
          simp only [List.foldl_cons, List.foldl_nil, d2]
          generalize f9 29 = y29
          generalize f9 30 = y30
          generalize f9 31 = y31
          generalize f9 32 = y32
          generalize f9 33 = y33
          generalize f9 34 = y34
          generalize f9 35 = y35
          generalize f9 36 = y36
          generalize f9 37 = y37
          generalize f9 38 = y38
          generalize f9 39 = y39
          generalize f9 40 = y40
          generalize f9 41 = y41
          generalize f9 42 = y42
          generalize f9 43 = y43
          generalize f9 44 = y44
          generalize f9 45 = y45
          generalize f9 46 = y46
          generalize f9 47 = y47
          generalize f9 48 = y48
          generalize f9 49 = y49
          generalize f9 50 = y50
          generalize f9 51 = y51
          generalize f9 52 = y52
          generalize f9 53 = y53
          generalize f9 54 = y54
          generalize f9 55 = y55
          generalize f9 56 = y56
          generalize f9 57 = y57
          generalize f9 58 = y58
          generalize f9 59 = y59
          generalize f9 60 = y60
          generalize f9 61 = y61
          generalize f9 62 = y62
          generalize f9 63 = y63
          generalize f9 64 = y64
          generalize f9 65 = y65
          generalize f9 66 = y66
          generalize f9 67 = y67
          generalize f9 68 = y68
          generalize f9 69 = y69
          generalize f9 70 = y70
          generalize f9 71 = y71
          generalize f9 72 = y72
          clear d2
          simp only [List.setIfInBounds_toArray, List.set_cons_succ, List.set_cons_zero]
          replace hB := Kept.mk (hB.out.trans (hb9.mono hB.out.size))
          replace HC := Kept.mk (HC.out.keep hb9)
          clear hb9
          go_wp2
          go_ret
          exact ⟨rfl, hB.out⟩
        | true =>
          refine mrnny_region _ _ _ rfl w.heap.size C HC.out.cells rfl (W2.heap.size) (W2.heap.size + 1) (W2.heap.size + 1 + 1) HVd.out.cells HVe.out.cells HVf.out.cells kd ke kf rc rd re rf wc wf hrrc hrrd hrre hrrf hwc hwf trivial trivial (by rw [← hrrc, ← hrrf, ← hwc, ← hwf]; exact more_f HOK.out kf) rfl rfl rfl rfl ?_
          intro f9 W9 d2 hb9
          simp only [List.foldl_cons, List.foldl_nil, d2]
          generalize f9 29 = y29
          generalize f9 30 = y30
          generalize f9 31 = y31
          generalize f9 32 = y32
          generalize f9 33 = y33
          generalize f9 34 = y34
          generalize f9 35 = y35
          generalize f9 36 = y36
          generalize f9 37 = y37
          generalize f9 38 = y38
          generalize f9 39 = y39
          generalize f9 40 = y40
          generalize f9 41 = y41
          generalize f9 42 = y42
          generalize f9 43 = y43
          generalize f9 44 = y44
          generalize f9 45 = y45
          generalize f9 46 = y46
          generalize f9 47 = y47
          generalize f9 48 = y48
          generalize f9 49 = y49
          generalize f9 50 = y50
          generalize f9 51 = y51
          generalize f9 52 = y52
          generalize f9 53 = y53
          generalize f9 54 = y54
          generalize f9 55 = y55
          generalize f9 56 = y56
          generalize f9 57 = y57
          generalize f9 58 = y58
          generalize f9 59 = y59
          generalize f9 60 = y60
          generalize f9 61 = y61
          generalize f9 62 = y62
          generalize f9 63 = y63
          generalize f9 64 = y64
          generalize f9 65 = y65
          generalize f9 66 = y66
          generalize f9 67 = y67
          generalize f9 68 = y68
          generalize f9 69 = y69
          generalize f9 70 = y70
          generalize f9 71 = y71
          generalize f9 72 = y72
          clear d2
          simp only [List.setIfInBounds_toArray, List.set_cons_succ, List.set_cons_zero]
          replace hB := Kept.mk (hB.out.trans (hb9.mono hB.out.size))
          replace HC := Kept.mk (HC.out.keep hb9)
          clear hb9
          go_wp2
          go_ret
          exact ⟨rfl, hB.out⟩
      | true =>
        cases kf : okC ⟨C.nodes, C.slots + 1, C.pages, C.room, C.chunk, C.buffer, C.queue, C.wear⟩ with
        | false =>
          refine mrnyn_region _ _ _ rfl w.heap.size C HC.out.cells rfl (W2.heap.size) (W2.heap.size + 1) (W2.heap.size + 1 + 1) HVd.out.cells HVe.out.cells HVf.out.cells kd ke kf rc rd re rf wc wf hrrc hrrd hrre hrrf hwc hwf trivial (by rw [← hrrc, ← hrre]; exact more_e HOK.out ke) trivial rfl rfl rfl rfl ?_
          intro f9 W9 d2 hb9
          simp only [List.foldl_cons, List.foldl_nil, d2]
          generalize f9 29 = y29
          generalize f9 30 = y30
          generalize f9 31 = y31
          generalize f9 32 = y32
          generalize f9 33 = y33
          generalize f9 34 = y34
          generalize f9 35 = y35
          generalize f9 36 = y36
          generalize f9 37 = y37
          generalize f9 38 = y38
          generalize f9 39 = y39
          generalize f9 40 = y40
          generalize f9 41 = y41
          generalize f9 42 = y42
          generalize f9 43 = y43
          generalize f9 44 = y44
          generalize f9 45 = y45
          generalize f9 46 = y46
          generalize f9 47 = y47
          generalize f9 48 = y48
          generalize f9 49 = y49
          generalize f9 50 = y50
          generalize f9 51 = y51
          generalize f9 52 = y52
          generalize f9 53 = y53
          generalize f9 54 = y54
          generalize f9 55 = y55
          generalize f9 56 = y56
          generalize f9 57 = y57
          generalize f9 58 = y58
          generalize f9 59 = y59
          generalize f9 60 = y60
          generalize f9 61 = y61
          generalize f9 62 = y62
          generalize f9 63 = y63
          generalize f9 64 = y64
          generalize f9 65 = y65
          generalize f9 66 = y66
          generalize f9 67 = y67
          generalize f9 68 = y68
          generalize f9 69 = y69
          generalize f9 70 = y70
          generalize f9 71 = y71
          generalize f9 72 = y72
          clear d2
          simp only [List.setIfInBounds_toArray, List.set_cons_succ, List.set_cons_zero]
          replace hB := Kept.mk (hB.out.trans (hb9.mono hB.out.size))
          replace HC := Kept.mk (HC.out.keep hb9)
          clear hb9
          go_wp2
          go_ret
          exact ⟨rfl, hB.out⟩
        | true =>
          refine mrnyy_region _ _ _ rfl w.heap.size C HC.out.cells rfl (W2.heap.size) (W2.heap.size + 1) (W2.heap.size + 1 + 1) HVd.out.cells HVe.out.cells HVf.out.cells kd ke kf rc rd re rf wc wf hrrc hrrd hrre hrrf hwc hwf trivial (by rw [← hrrc, ← hrre]; exact more_e HOK.out ke) (by rw [← hrrc, ← hrrf, ← hwc, ← hwf]; exact more_f HOK.out kf) rfl rfl rfl rfl ?_
          intro f9 W9 d2 hb9
          simp only [List.foldl_cons, List.foldl_nil, d2]
          generalize f9 29 = y29
          generalize f9 30 = y30
          generalize f9 31 = y31
          generalize f9 32 = y32
          generalize f9 33 = y33
          generalize f9 34 = y34
          generalize f9 35 = y35
          generalize f9 36 = y36
          generalize f9 37 = y37
          generalize f9 38 = y38
          generalize f9 39 = y39
          generalize f9 40 = y40
          generalize f9 41 = y41
          generalize f9 42 = y42
          generalize f9 43 = y43
          generalize f9 44 = y44
          generalize f9 45 = y45
          generalize f9 46 = y46
          generalize f9 47 = y47
          generalize f9 48 = y48
          generalize f9 49 = y49
          generalize f9 50 = y50
          generalize f9 51 = y51
          generalize f9 52 = y52
          generalize f9 53 = y53
          generalize f9 54 = y54
          generalize f9 55 = y55
          generalize f9 56 = y56
          generalize f9 57 = y57
          generalize f9 58 = y58
          generalize f9 59 = y59
          generalize f9 60 = y60
          generalize f9 61 = y61
          generalize f9 62 = y62
          generalize f9 63 = y63
          generalize f9 64 = y64
          generalize f9 65 = y65
          generalize f9 66 = y66
          generalize f9 67 = y67
          generalize f9 68 = y68
          generalize f9 69 = y69
          generalize f9 70 = y70
          generalize f9 71 = y71
          generalize f9 72 = y72
          clear d2
          simp only [List.setIfInBounds_toArray, List.set_cons_succ, List.set_cons_zero]
          replace hB := Kept.mk (hB.out.trans (hb9.mono hB.out.size))
          replace HC := Kept.mk (HC.out.keep hb9)
          clear hb9
          go_wp2
          go_ret
          exact ⟨rfl, hB.out⟩
    | true =>
      cases ke : okC ⟨C.nodes + 1, C.slots, C.pages, C.room, C.chunk, C.buffer, C.queue, C.wear⟩ with
      | false =>
        cases kf : okC ⟨C.nodes, C.slots + 1, C.pages, C.room, C.chunk, C.buffer, C.queue, C.wear⟩ with
        | false =>
          refine mrynn_region _ _ _ rfl w.heap.size C HC.out.cells rfl (W2.heap.size) (W2.heap.size + 1) (W2.heap.size + 1 + 1) HVd.out.cells HVe.out.cells HVf.out.cells kd ke kf rc rd re rf wc wf hrrc hrrd hrre hrrf hwc hwf (by rw [← hrrd, ← hrrc]; exact more_d HOK.out kd) trivial trivial rfl rfl rfl rfl ?_
          intro f9 W9 d2 hb9
          simp only [List.foldl_cons, List.foldl_nil, d2]
          generalize f9 29 = y29
          generalize f9 30 = y30
          generalize f9 31 = y31
          generalize f9 32 = y32
          generalize f9 33 = y33
          generalize f9 34 = y34
          generalize f9 35 = y35
          generalize f9 36 = y36
          generalize f9 37 = y37
          generalize f9 38 = y38
          generalize f9 39 = y39
          generalize f9 40 = y40
          generalize f9 41 = y41
          generalize f9 42 = y42
          generalize f9 43 = y43
          generalize f9 44 = y44
          generalize f9 45 = y45
          generalize f9 46 = y46
          generalize f9 47 = y47
          generalize f9 48 = y48
          generalize f9 49 = y49
          generalize f9 50 = y50
          generalize f9 51 = y51
          generalize f9 52 = y52
          generalize f9 53 = y53
          generalize f9 54 = y54
          generalize f9 55 = y55
          generalize f9 56 = y56
          generalize f9 57 = y57
          generalize f9 58 = y58
          generalize f9 59 = y59
          generalize f9 60 = y60
          generalize f9 61 = y61
          generalize f9 62 = y62
          generalize f9 63 = y63
          generalize f9 64 = y64
          generalize f9 65 = y65
          generalize f9 66 = y66
          generalize f9 67 = y67
          generalize f9 68 = y68
          generalize f9 69 = y69
          generalize f9 70 = y70
          generalize f9 71 = y71
          generalize f9 72 = y72
          clear d2
          simp only [List.setIfInBounds_toArray, List.set_cons_succ, List.set_cons_zero]
          replace hB := Kept.mk (hB.out.trans (hb9.mono hB.out.size))
          replace HC := Kept.mk (HC.out.keep hb9)
          clear hb9
          go_wp2
          go_ret
          exact ⟨rfl, hB.out⟩
        | true =>
          refine mryny_region _ _ _ rfl w.heap.size C HC.out.cells rfl (W2.heap.size) (W2.heap.size + 1) (W2.heap.size + 1 + 1) HVd.out.cells HVe.out.cells HVf.out.cells kd ke kf rc rd re rf wc wf hrrc hrrd hrre hrrf hwc hwf (by rw [← hrrd, ← hrrc]; exact more_d HOK.out kd) trivial (by rw [← hrrc, ← hrrf, ← hwc, ← hwf]; exact more_f HOK.out kf) rfl rfl rfl rfl ?_
          intro f9 W9 d2 hb9
          simp only [List.foldl_cons, List.foldl_nil, d2]
          generalize f9 29 = y29
          generalize f9 30 = y30
          generalize f9 31 = y31
          generalize f9 32 = y32
          generalize f9 33 = y33
          generalize f9 34 = y34
          generalize f9 35 = y35
          generalize f9 36 = y36
          generalize f9 37 = y37
          generalize f9 38 = y38
          generalize f9 39 = y39
          generalize f9 40 = y40
          generalize f9 41 = y41
          generalize f9 42 = y42
          generalize f9 43 = y43
          generalize f9 44 = y44
          generalize f9 45 = y45
          generalize f9 46 = y46
          generalize f9 47 = y47
          generalize f9 48 = y48
          generalize f9 49 = y49
          generalize f9 50 = y50
          generalize f9 51 = y51
          generalize f9 52 = y52
          generalize f9 53 = y53
          generalize f9 54 = y54
          generalize f9 55 = y55
          generalize f9 56 = y56
          generalize f9 57 = y57
          generalize f9 58 = y58
          generalize f9 59 = y59
          generalize f9 60 = y60
          generalize f9 61 = y61
          generalize f9 62 = y62
          generalize f9 63 = y63
          generalize f9 64 = y64
          generalize f9 65 = y65
          generalize f9 66 = y66
          generalize f9 67 = y67
          generalize f9 68 = y68
          generalize f9 69 = y69
          generalize f9 70 = y70
          generalize f9 71 = y71
          generalize f9 72 = y72
          clear d2
          simp only [List.setIfInBounds_toArray, List.set_cons_succ, List.set_cons_zero]
          replace hB := Kept.mk (hB.out.trans (hb9.mono hB.out.size))
          replace HC := Kept.mk (HC.out.keep hb9)
          clear hb9
          go_wp2
          go_ret
          exact ⟨rfl, hB.out⟩
      | true =>
        cases kf : okC ⟨C.nodes, C.slots + 1, C.pages, C.room, C.chunk, C.buffer, C.queue, C.wear⟩ with
        | false =>
          refine mryyn_region _ _ _ rfl w.heap.size C HC.out.cells rfl (W2.heap.size) (W2.heap.size + 1) (W2.heap.size + 1 + 1) HVd.out.cells HVe.out.cells HVf.out.cells kd ke kf rc rd re rf wc wf hrrc hrrd hrre hrrf hwc hwf (by rw [← hrrd, ← hrrc]; exact more_d HOK.out kd) (by rw [← hrrc, ← hrre]; exact more_e HOK.out ke) trivial rfl rfl rfl rfl ?_
          intro f9 W9 d2 hb9
          simp only [List.foldl_cons, List.foldl_nil, d2]
          generalize f9 29 = y29
          generalize f9 30 = y30
          generalize f9 31 = y31
          generalize f9 32 = y32
          generalize f9 33 = y33
          generalize f9 34 = y34
          generalize f9 35 = y35
          generalize f9 36 = y36
          generalize f9 37 = y37
          generalize f9 38 = y38
          generalize f9 39 = y39
          generalize f9 40 = y40
          generalize f9 41 = y41
          generalize f9 42 = y42
          generalize f9 43 = y43
          generalize f9 44 = y44
          generalize f9 45 = y45
          generalize f9 46 = y46
          generalize f9 47 = y47
          generalize f9 48 = y48
          generalize f9 49 = y49
          generalize f9 50 = y50
          generalize f9 51 = y51
          generalize f9 52 = y52
          generalize f9 53 = y53
          generalize f9 54 = y54
          generalize f9 55 = y55
          generalize f9 56 = y56
          generalize f9 57 = y57
          generalize f9 58 = y58
          generalize f9 59 = y59
          generalize f9 60 = y60
          generalize f9 61 = y61
          generalize f9 62 = y62
          generalize f9 63 = y63
          generalize f9 64 = y64
          generalize f9 65 = y65
          generalize f9 66 = y66
          generalize f9 67 = y67
          generalize f9 68 = y68
          generalize f9 69 = y69
          generalize f9 70 = y70
          generalize f9 71 = y71
          generalize f9 72 = y72
          clear d2
          simp only [List.setIfInBounds_toArray, List.set_cons_succ, List.set_cons_zero]
          replace hB := Kept.mk (hB.out.trans (hb9.mono hB.out.size))
          replace HC := Kept.mk (HC.out.keep hb9)
          clear hb9
          go_wp2
          go_ret
          exact ⟨rfl, hB.out⟩
        | true =>
          refine mryyy_region _ _ _ rfl w.heap.size C HC.out.cells rfl (W2.heap.size) (W2.heap.size + 1) (W2.heap.size + 1 + 1) HVd.out.cells HVe.out.cells HVf.out.cells kd ke kf rc rd re rf wc wf hrrc hrrd hrre hrrf hwc hwf (by rw [← hrrd, ← hrrc]; exact more_d HOK.out kd) (by rw [← hrrc, ← hrre]; exact more_e HOK.out ke) (by rw [← hrrc, ← hrrf, ← hwc, ← hwf]; exact more_f HOK.out kf) rfl rfl rfl rfl ?_
          intro f9 W9 d2 hb9
          simp only [List.foldl_cons, List.foldl_nil, d2]
          generalize f9 29 = y29
          generalize f9 30 = y30
          generalize f9 31 = y31
          generalize f9 32 = y32
          generalize f9 33 = y33
          generalize f9 34 = y34
          generalize f9 35 = y35
          generalize f9 36 = y36
          generalize f9 37 = y37
          generalize f9 38 = y38
          generalize f9 39 = y39
          generalize f9 40 = y40
          generalize f9 41 = y41
          generalize f9 42 = y42
          generalize f9 43 = y43
          generalize f9 44 = y44
          generalize f9 45 = y45
          generalize f9 46 = y46
          generalize f9 47 = y47
          generalize f9 48 = y48
          generalize f9 49 = y49
          generalize f9 50 = y50
          generalize f9 51 = y51
          generalize f9 52 = y52
          generalize f9 53 = y53
          generalize f9 54 = y54
          generalize f9 55 = y55
          generalize f9 56 = y56
          generalize f9 57 = y57
          generalize f9 58 = y58
          generalize f9 59 = y59
          generalize f9 60 = y60
          generalize f9 61 = y61
          generalize f9 62 = y62
          generalize f9 63 = y63
          generalize f9 64 = y64
          generalize f9 65 = y65
          generalize f9 66 = y66
          generalize f9 67 = y67
          generalize f9 68 = y68
          generalize f9 69 = y69
          generalize f9 70 = y70
          generalize f9 71 = y71
          generalize f9 72 = y72
          clear d2
          simp only [List.setIfInBounds_toArray, List.set_cons_succ, List.set_cons_zero]
          replace hB := Kept.mk (hB.out.trans (hb9.mono hB.out.size))
          replace HC := Kept.mk (HC.out.keep hb9)
          clear hb9
          go_wp2
          go_ret
          exact ⟨rfl, hB.out⟩
set_option maxRecDepth 100000 in
theorem configMore_lifted (os : Os) (started : os.Started) (H : Type) (enc : TypeId × Value → H) :
    ReturnsInHanded {} Try.checked os 6 .any (Rows.configMoreSpec.pre6 enc Try.prog Try.f6 Rows.configMoreRow.domain false) (Rows.configMoreSpec.post enc Try.prog Try.f6 false true false false) := by
  refine returnsInHanded_of_change (C := Try.checked) (by kernel_rfl : ownKnob Try.prog.godebug = none) started (by kernel_rfl) Try.func6
    (ChangeSpec.witness6 (enc := enc) (C := Try.checked) false ⟨#[], #[.agg #[.int .i64 0, .int .i64 0, .int .i64 0, .int .i64 0, .int .i64 0, .int .i64 0, .int .i64 0, .int .i64 0]], []⟩ 8 (by kernel_rfl) (by kernel_rfl) (by kernel_rfl) (by kernel_rfl)) ?_
  intro W base args ds gs before hval0 hW hcnd _
  have hval : ∀ (j : Nat) t v, Try.f6.params[j]? = some t → args[j]? = some v → Value.okWide Try.prog W .any base t v := hval0
  have hW' := hW
  obtain ⟨p, q, hA0, hV, rfl, hfz, hnd⟩ := hW
  have hA : DataW.TrodAll enc Try.prog W 0 (fun _ => true) true Try.f6.params.toList args.toList ds p := hA0
  rw [Try.params6] at hA hval
  obtain ⟨v0, vs0, d0, ds0, p0, q0, hargs, rfl, rfl, h0, r0⟩ := trodAll_cons hA
  obtain ⟨rfl, rfl, rfl⟩ := trodAll_nil r0
  obtain rfl : args = #[v0] := by cases args; simp_all
  obtain ⟨rfl, rfl⟩ := trodVars_none hV
  obtain ⟨F0, fl0, w0⟩ := open_cf (hval 0 38 v0 rfl rfl) h0
  have lt0 : ∀ x ∈ p0, x.block < W.heap.size := fun x hx => by obtain ⟨fuel, hf⟩ := h0; exact DataW.trod_lt fuel _ _ _ hf x hx
  clear hA0 hval0
  simp only [List.append_nil] at hW'
  refine (configMore_walk F0 v0 w0 W fl0).mono fun e W' ⟨he, bel⟩ => ?_
  subst he
  exact ⟨_, rfl, _, _, _, [], _, [], hW', trodAll_mk1 (shut_bool Try.underlying4 _), (trodAll_cons_mk (Below.trod (by kernel_rfl) (by kernel_rfl) (of_decide_eq_true (by kernel_rfl)) h0 bel lt0) trodAll_mk0), rfl, bel.frame _, fun h => by cases h⟩
/-- THE STATEMENT. -/
theorem configMore_proved : Rows.ConfigMoreSaid :=
  OpenClaim.holds_of_wide 6 Try.f6 rfl rfl rfl rfl rfl rfl rfl ⟨rfl, rfl, rfl, rfl, rfl⟩ rfl rfl rfl rfl rfl (by kernel_rfl) Try.func6 (by kernel_rfl)
    (of_decide_eq_true (by kernel_rfl)) (by unfold Func.isWrapper; first | (rw [if_pos (by decide +kernel)]; kernel_rfl) | (rw [if_neg (by decide +kernel)]; exact ⟨rfl, rfl⟩))
    (fun os started H enc _ => configMore_lifted os started H enc)
#print axioms configMore_proved
end Go.Proofs.Ytpjafjnokgeifaa
