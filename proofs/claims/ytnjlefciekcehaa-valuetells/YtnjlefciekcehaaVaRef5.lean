/- The document's Least. -/
import Derived.Test.YtnjlefciekcehaaVaRef4
namespace Go.Proofs.Ytnjlefciekcehaa
open Go.RowKit
set_option linter.unusedVariables false
set_option linter.unusedSimpArgs false
attribute [local irreducible] setN

set_option maxRecDepth 20000 in
set_option maxHeartbeats 2000000 in
theorem rleast_1 (w : World) : Calls Try.prog 16 #[.int .i64 1] w fun e w' => ∃ v', e = .returned (.tuple #[v', .int .i64 0]) ∧ isVa (leastF 1) v' w' ∧ Below w.heap.size w w' := by
  have b1 := lit_below w (.cells #[.int .i64 0, .int .i64 0, .int .i64 0, .bool false, .string ⟨#[]⟩, .slice none 0 0, .slice none 0 0, .int .u64 0] 25)
  have b2 := lit_below (w.alloc (.cells #[.int .i64 0, .int .i64 0, .int .i64 0, .bool false, .string ⟨#[]⟩, .slice none 0 0, .slice none 0 0, .int .u64 0] 25)) (.cells #[.int .i64 1, .int .i64 0, .int .i64 0, .bool false, .string ⟨#[]⟩, .slice none 0 0, .slice none 0 0, .int .u64 0] 25)
  have hB := Kept.mk (b1.trans (b2.mono b1.size))
  have HZ := Kept.mk ((cellsN_at w 25 [.int .i64 0, .int .i64 0, .int .i64 0, .bool false, .string ⟨#[]⟩, .slice none 0 0, .slice none 0 0, .int .u64 0] w.heap.size rfl).keep b2 (by simp <;> omega))
  have HF := Kept.mk ((free5_at w #[.int .i64 0, .int .i64 0, .int .i64 0, .bool false, .string ⟨#[]⟩, .slice none 0 0, .slice none 0 0, .int .u64 0] 25 w.heap.size rfl).keep b2 (by simp <;> omega))
  obtain ⟨hBK, K4, K5⟩ := vset (leastF 1) (.slice none 0 0) (.slice none 0 0) (g := w.heap.size) (Nat.le_refl _) hB.out HZ.out rfl (.inl ⟨rfl, rfl⟩) (.inl ⟨rfl, rfl⟩) (by intro h; cases h) (by intro h; cases h)
  obtain ⟨hc', hp', hm'⟩ := K4.out
  clear K4 b1 b2
  go_enter Try.func16, Try.ntmps16
  go_wp2_with (have hz0 := K5; refine wpList_storeN 25 rfl (.tmp 2) (.tmp 20) rfl w.heap.size [.int .i64 1, .int .i64 0, .int .i64 0, .bool false, .string ⟨#[]⟩, .slice none 0 0, .slice none 0 0, .int .u64 0] size_va rfl rfl HZ.out rfl HF.out K5.out ?_; clear hz0 K5)
  exact bodyPost_ret (resultsN2 rfl _ _ w.heap.size _ (.int .i64 0) size_va agg_va rfl rfl hc') rfl ⟨_, rfl, ⟨(.slice none 0 0), (.slice none 0 0), rfl, hp', hm'⟩, hBK.out⟩
set_option maxRecDepth 20000 in
set_option maxHeartbeats 2000000 in
theorem rleast_3 (w : World) : Calls Try.prog 16 #[.int .i64 3] w fun e w' => ∃ v', e = .returned (.tuple #[v', .int .i64 0]) ∧ isVa (leastF 3) v' w' ∧ Below w.heap.size w w' := by
  have b1 := lit_below w (.cells #[.int .i64 0, .int .i64 0, .int .i64 0, .bool false, .string ⟨#[]⟩, .slice none 0 0, .slice none 0 0, .int .u64 0] 25)
  have b2 := lit_below (w.alloc (.cells #[.int .i64 0, .int .i64 0, .int .i64 0, .bool false, .string ⟨#[]⟩, .slice none 0 0, .slice none 0 0, .int .u64 0] 25)) (.cells #[.int .i64 3, .int .i64 0, .int .i64 0, .bool false, .string ⟨#[]⟩, .slice none 0 0, .slice none 0 0, .int .u64 0] 25)
  have hB := Kept.mk (b1.trans (b2.mono b1.size))
  have HZ := Kept.mk ((cellsN_at w 25 [.int .i64 0, .int .i64 0, .int .i64 0, .bool false, .string ⟨#[]⟩, .slice none 0 0, .slice none 0 0, .int .u64 0] w.heap.size rfl).keep b2 (by simp <;> omega))
  have HF := Kept.mk ((free5_at w #[.int .i64 0, .int .i64 0, .int .i64 0, .bool false, .string ⟨#[]⟩, .slice none 0 0, .slice none 0 0, .int .u64 0] 25 w.heap.size rfl).keep b2 (by simp <;> omega))
  obtain ⟨hBK, K4, K5⟩ := vset (leastF 3) (.slice none 0 0) (.slice none 0 0) (g := w.heap.size) (Nat.le_refl _) hB.out HZ.out rfl (.inl ⟨rfl, rfl⟩) (.inl ⟨rfl, rfl⟩) (by intro h; cases h) (by intro h; cases h)
  obtain ⟨hc', hp', hm'⟩ := K4.out
  clear K4 b1 b2
  go_enter Try.func16, Try.ntmps16
  go_wp2_with (have hz0 := K5; refine wpList_storeN 25 rfl (.tmp 2) (.tmp 20) rfl w.heap.size [.int .i64 3, .int .i64 0, .int .i64 0, .bool false, .string ⟨#[]⟩, .slice none 0 0, .slice none 0 0, .int .u64 0] size_va rfl rfl HZ.out rfl HF.out K5.out ?_; clear hz0 K5)
  exact bodyPost_ret (resultsN2 rfl _ _ w.heap.size _ (.int .i64 0) size_va agg_va rfl rfl hc') rfl ⟨_, rfl, ⟨(.slice none 0 0), (.slice none 0 0), rfl, hp', hm'⟩, hBK.out⟩
set_option maxRecDepth 20000 in
set_option maxHeartbeats 2000000 in
theorem rleast_2 (w : World) : Calls Try.prog 16 #[.int .i64 2] w fun e w' => ∃ v', e = .returned (.tuple #[v', .int .i64 0]) ∧ isVa (leastF 2) v' w' ∧ Below w.heap.size w w' := by
  have b1 := lit_below w (.cells #[.int .i64 0, .int .i64 0, .int .i64 0, .bool false, .string ⟨#[]⟩, .slice none 0 0, .slice none 0 0, .int .u64 0] 25)
  have b2 := lit_below (w.alloc (.cells #[.int .i64 0, .int .i64 0, .int .i64 0, .bool false, .string ⟨#[]⟩, .slice none 0 0, .slice none 0 0, .int .u64 0] 25)) (.cells #[.int .i64 2, .int .i64 0, .int .i64 0, .bool false, .string ⟨#[]⟩, .slice (some ⟨w.heap.size + 1 + 1, 0, none⟩) 8 8, .slice (some ⟨w.heap.size + 1 + 1 + 1, 0, none⟩) 8 8, .int .u64 0] 25)
  have b3 := lit_below ((w.alloc (.cells #[.int .i64 0, .int .i64 0, .int .i64 0, .bool false, .string ⟨#[]⟩, .slice none 0 0, .slice none 0 0, .int .u64 0] 25)).alloc (.cells #[.int .i64 2, .int .i64 0, .int .i64 0, .bool false, .string ⟨#[]⟩, .slice (some ⟨w.heap.size + 1 + 1, 0, none⟩) 8 8, .slice (some ⟨w.heap.size + 1 + 1 + 1, 0, none⟩) 8 8, .int .u64 0] 25)) (.cells (madeCells #[Value.int .i64 0] 8) 3)
  have b4 := lit_below (((w.alloc (.cells #[.int .i64 0, .int .i64 0, .int .i64 0, .bool false, .string ⟨#[]⟩, .slice none 0 0, .slice none 0 0, .int .u64 0] 25)).alloc (.cells #[.int .i64 2, .int .i64 0, .int .i64 0, .bool false, .string ⟨#[]⟩, .slice (some ⟨w.heap.size + 1 + 1, 0, none⟩) 8 8, .slice (some ⟨w.heap.size + 1 + 1 + 1, 0, none⟩) 8 8, .int .u64 0] 25)).alloc (.cells (madeCells #[Value.int .i64 0] 8) 3)) (.cells (madeCells #[Value.int .i64 0] 8) 3)
  have hB := Kept.mk (((b1.trans (b2.mono b1.size)).trans (b3.mono (b1.trans (b2.mono b1.size)).size)).trans (b4.mono ((b1.trans (b2.mono b1.size)).trans (b3.mono (b1.trans (b2.mono b1.size)).size)).size))
  have HZ := Kept.mk ((((cellsN_at w 25 [.int .i64 0, .int .i64 0, .int .i64 0, .bool false, .string ⟨#[]⟩, .slice none 0 0, .slice none 0 0, .int .u64 0] w.heap.size rfl).keep b2 (by simp <;> omega)).keep b3 (by simp <;> omega)).keep b4 (by simp <;> omega))
  have HF := Kept.mk ((((free5_at w #[.int .i64 0, .int .i64 0, .int .i64 0, .bool false, .string ⟨#[]⟩, .slice none 0 0, .slice none 0 0, .int .u64 0] 25 w.heap.size rfl).keep b2 (by simp <;> omega)).keep b3 (by simp <;> omega)).keep b4 (by simp <;> omega))
  have r1 := (World.rowIs_made ((w.alloc (.cells #[.int .i64 0, .int .i64 0, .int .i64 0, .bool false, .string ⟨#[]⟩, .slice none 0 0, .slice none 0 0, .int .u64 0] 25)).alloc (.cells #[.int .i64 2, .int .i64 0, .int .i64 0, .bool false, .string ⟨#[]⟩, .slice (some ⟨w.heap.size + 1 + 1, 0, none⟩) 8 8, .slice (some ⟨w.heap.size + 1 + 1 + 1, 0, none⟩) 8 8, .int .u64 0] 25)) (.int .i64 0) 8 3).of_block (b4.block _ (by simp))
  have r2 := World.rowIs_made (((w.alloc (.cells #[.int .i64 0, .int .i64 0, .int .i64 0, .bool false, .string ⟨#[]⟩, .slice none 0 0, .slice none 0 0, .int .u64 0] 25)).alloc (.cells #[.int .i64 2, .int .i64 0, .int .i64 0, .bool false, .string ⟨#[]⟩, .slice (some ⟨w.heap.size + 1 + 1, 0, none⟩) 8 8, .slice (some ⟨w.heap.size + 1 + 1 + 1, 0, none⟩) 8 8, .int .u64 0] 25)).alloc (.cells (madeCells #[Value.int .i64 0] 8) 3)) (.int .i64 0) 8 3
  rw [show ((w.alloc (.cells #[.int .i64 0, .int .i64 0, .int .i64 0, .bool false, .string ⟨#[]⟩, .slice none 0 0, .slice none 0 0, .int .u64 0] 25)).alloc (.cells #[.int .i64 2, .int .i64 0, .int .i64 0, .bool false, .string ⟨#[]⟩, .slice (some ⟨w.heap.size + 1 + 1, 0, none⟩) 8 8, .slice (some ⟨w.heap.size + 1 + 1 + 1, 0, none⟩) 8 8, .int .u64 0] 25)).heap.size = w.heap.size + 1 + 1 by simp] at r1
  rw [show (((w.alloc (.cells #[.int .i64 0, .int .i64 0, .int .i64 0, .bool false, .string ⟨#[]⟩, .slice none 0 0, .slice none 0 0, .int .u64 0] 25)).alloc (.cells #[.int .i64 2, .int .i64 0, .int .i64 0, .bool false, .string ⟨#[]⟩, .slice (some ⟨w.heap.size + 1 + 1, 0, none⟩) 8 8, .slice (some ⟨w.heap.size + 1 + 1 + 1, 0, none⟩) 8 8, .int .u64 0] 25)).alloc (.cells (madeCells #[Value.int .i64 0] 8) 3)).heap.size = w.heap.size + 1 + 1 + 1 by simp] at r2
  have hmk : ∀ W : World, (Instr.makeSlice 22 (.int .i64 8) (.int .i64 8)).run Try.prog W = .ok (.slice (some ⟨W.heap.size, 0, none⟩) 8 8) (W.alloc (.cells (madeCells #[Value.int .i64 0] 8) 3)) := fun W => run_make_row' (P := Try.prog) 22 3 (.int .i64 0) 8 Try.underlying22 Try.infoInt rfl .i64 .i64 8 (by omega) (by omega) W
  obtain ⟨hBK, K4, K5⟩ := vset (leastF 2) (.slice (some ⟨w.heap.size + 1 + 1, 0, none⟩) 8 8) (.slice (some ⟨w.heap.size + 1 + 1 + 1, 0, none⟩) 8 8) (g := w.heap.size) (Nat.le_refl _) hB.out HZ.out rfl (cells_row8 (f := fun _ => 0) r1 (by decide)) (cells_row8 (f := fun _ => 0) r2 (by decide)) (by simp [blk]; omega) (by simp [blk]; omega)
  obtain ⟨hc', hp', hm'⟩ := K4.out
  clear K4 b1 b2 b3 b4 r1 r2
  go_enter Try.func16, Try.ntmps16
  go_wp2_with (have hz0 := K5; refine wpList_storeN 25 rfl (.tmp 2) (.tmp 20) rfl w.heap.size [.int .i64 2, .int .i64 0, .int .i64 0, .bool false, .string ⟨#[]⟩, .slice (some ⟨w.heap.size + 1 + 1, 0, none⟩) 8 8, .slice (some ⟨w.heap.size + 1 + 1 + 1, 0, none⟩) 8 8, .int .u64 0] size_va rfl rfl HZ.out rfl HF.out K5.out ?_; clear hz0 K5)
  exact bodyPost_ret (resultsN2 rfl _ _ w.heap.size _ (.int .i64 0) size_va agg_va rfl rfl hc') rfl ⟨_, rfl, ⟨(.slice (some ⟨w.heap.size + 1 + 1, 0, none⟩) 8 8), (.slice (some ⟨w.heap.size + 1 + 1 + 1, 0, none⟩) 8 8), rfl, hp', hm'⟩, hBK.out⟩
set_option maxRecDepth 20000 in
set_option maxHeartbeats 2000000 in
theorem rleast_lo (k : Int) (hk : k < 1) (w : World) : Calls Try.prog 16 #[.int .i64 k] w fun e w' => ∃ v', e = .returned (.tuple #[v', .int .i64 3]) ∧ isVa zeroV v' w' ∧ Below w.heap.size w w' := by
  have b1 := lit_below w (.cells #[.int .i64 0, .int .i64 0, .int .i64 0, .bool false, .string ⟨#[]⟩, .slice none 0 0, .slice none 0 0, .int .u64 0] 25)
  have b2 := lit_below (w.alloc (.cells #[.int .i64 0, .int .i64 0, .int .i64 0, .bool false, .string ⟨#[]⟩, .slice none 0 0, .slice none 0 0, .int .u64 0] 25)) (.cells #[.int .i64 k, .int .i64 0, .int .i64 0, .bool false, .string ⟨#[]⟩, .slice none 0 0, .slice none 0 0, .int .u64 0] 25)
  have hB := Kept.mk (b1.trans (b2.mono b1.size))
  have HZ := Kept.mk ((cellsN_at w 25 [.int .i64 0, .int .i64 0, .int .i64 0, .bool false, .string ⟨#[]⟩, .slice none 0 0, .slice none 0 0, .int .u64 0] w.heap.size rfl).keep b2 (by simp <;> omega))
  have HF := Kept.mk ((free5_at w #[.int .i64 0, .int .i64 0, .int .i64 0, .bool false, .string ⟨#[]⟩, .slice none 0 0, .slice none 0 0, .int .u64 0] 25 w.heap.size rfl).keep b2 (by simp <;> omega))
  obtain ⟨hBK, K4, K5⟩ := vset zeroV (.slice none 0 0) (.slice none 0 0) (g := w.heap.size) (Nat.le_refl _) hB.out HZ.out rfl (.inl ⟨rfl, rfl⟩) (.inl ⟨rfl, rfl⟩) (by intro h; cases h) (by intro h; cases h)
  obtain ⟨hc', hp', hm'⟩ := K4.out
  clear K4 b1 b2
  have d1 : decide (k < 1) = true := by simpa using hk
  clear hk
  go_enter Try.func16, Try.ntmps16
  go_wp2_with (have hz0 := K5; refine wpList_storeN 25 rfl (.tmp 2) (.tmp 13) rfl w.heap.size [.int .i64 0, .int .i64 0, .int .i64 0, .bool false, .string ⟨#[]⟩, .slice none 0 0, .slice none 0 0, .int .u64 0] size_va rfl rfl HZ.out rfl HF.out K5.out ?_; clear hz0 K5)
  exact bodyPost_ret (resultsN2 rfl _ _ w.heap.size _ (.int .i64 3) size_va agg_va rfl rfl hc') rfl ⟨_, rfl, ⟨(.slice none 0 0), (.slice none 0 0), rfl, hp', hm'⟩, hBK.out⟩
set_option maxRecDepth 20000 in
set_option maxHeartbeats 2000000 in
theorem rleast_hi (k : Int) (hk : 3 < k) (w : World) : Calls Try.prog 16 #[.int .i64 k] w fun e w' => ∃ v', e = .returned (.tuple #[v', .int .i64 3]) ∧ isVa zeroV v' w' ∧ Below w.heap.size w w' := by
  have b1 := lit_below w (.cells #[.int .i64 0, .int .i64 0, .int .i64 0, .bool false, .string ⟨#[]⟩, .slice none 0 0, .slice none 0 0, .int .u64 0] 25)
  have b2 := lit_below (w.alloc (.cells #[.int .i64 0, .int .i64 0, .int .i64 0, .bool false, .string ⟨#[]⟩, .slice none 0 0, .slice none 0 0, .int .u64 0] 25)) (.cells #[.int .i64 k, .int .i64 0, .int .i64 0, .bool false, .string ⟨#[]⟩, .slice none 0 0, .slice none 0 0, .int .u64 0] 25)
  have hB := Kept.mk (b1.trans (b2.mono b1.size))
  have HZ := Kept.mk ((cellsN_at w 25 [.int .i64 0, .int .i64 0, .int .i64 0, .bool false, .string ⟨#[]⟩, .slice none 0 0, .slice none 0 0, .int .u64 0] w.heap.size rfl).keep b2 (by simp <;> omega))
  have HF := Kept.mk ((free5_at w #[.int .i64 0, .int .i64 0, .int .i64 0, .bool false, .string ⟨#[]⟩, .slice none 0 0, .slice none 0 0, .int .u64 0] 25 w.heap.size rfl).keep b2 (by simp <;> omega))
  obtain ⟨hBK, K4, K5⟩ := vset zeroV (.slice none 0 0) (.slice none 0 0) (g := w.heap.size) (Nat.le_refl _) hB.out HZ.out rfl (.inl ⟨rfl, rfl⟩) (.inl ⟨rfl, rfl⟩) (by intro h; cases h) (by intro h; cases h)
  obtain ⟨hc', hp', hm'⟩ := K4.out
  clear K4 b1 b2
  have d1 : decide (k < 1) = false := by simp; omega
  have d2 : decide (3 < k) = true := by simpa using hk
  clear hk
  go_enter Try.func16, Try.ntmps16
  go_wp2_with (have hz0 := K5; refine wpList_storeN 25 rfl (.tmp 2) (.tmp 13) rfl w.heap.size [.int .i64 0, .int .i64 0, .int .i64 0, .bool false, .string ⟨#[]⟩, .slice none 0 0, .slice none 0 0, .int .u64 0] size_va rfl rfl HZ.out rfl HF.out K5.out ?_; clear hz0 K5)
  exact bodyPost_ret (resultsN2 rfl _ _ w.heap.size _ (.int .i64 3) size_va agg_va rfl rfl hc') rfl ⟨_, rfl, ⟨(.slice none 0 0), (.slice none 0 0), rfl, hp', hm'⟩, hBK.out⟩
theorem rleast_any (k : Int) (w : World) : Calls Try.prog 16 #[.int .i64 k] w fun e w' => ∃ v', e = .returned (.tuple #[v', .int .i64 (leastE k)]) ∧ isVa (leastF k) v' w' ∧ Below w.heap.size w w' := by
  by_cases h1 : k = 1
  · subst h1; exact rleast_1 w
  · by_cases h2 : k = 2
    · subst h2; exact rleast_2 w
    · by_cases h3 : k = 3
      · subst h3; exact rleast_3 w
      · rw [show leastE k = 3 by unfold leastE; rw [if_neg (by omega)], show leastF k = zeroV by unfold leastF; rw [if_neg h1, if_neg h2, if_neg h3]]
        by_cases h4 : k < 1
        · exact rleast_lo k h4 w
        · exact rleast_hi k (by omega) w
end Go.Proofs.Ytnjlefciekcehaa
