/- Contracts of package value: Check, Least, Sum. -/
import Derived.Test.YtnjlefciekcehaaVaKindOf
namespace Go.Proofs.Ytnjlefciekcehaa
open Go.RowKit
set_option linter.unusedVariables false
set_option linter.unusedSimpArgs false
attribute [local irreducible] setN

theorem kv_any (A : Va) (v : Value) (w : World) (hv : isVa A v w) (hF : Fit A) :
    Calls Try.prog 27 #[v] w fun e w' => e = .returned (.tuple #[ifaceK (kindN A), .bool (okV A)]) ∧ Below w.heap.size w w' := by
  unfold okV
  by_cases h1 : A.kind = 1
  · have hk : kindN A = if (inReg A && decide (A = onlyReg A)) = true then 1 else 0 := by unfold kindN; rw [if_pos h1]
    cases hI : inReg A with
    | false => rw [hk, hI]; exact kv_reg0_any A v w hv hF h1 hI
    | true =>
      have := kv_reg1_any A v w hv hF h1 hI _ rfl
      rw [hk, hI, Bool.true_and]
      cases hz : decide (A = onlyReg A) with
      | false => rw [hz] at this; exact this
      | true => rw [hz] at this; exact this
  · by_cases h2 : A.kind = 2
    · have hk : kindN A = if (inCount A && decide (A = onlyCount A)) = true then 2 else 0 := by unfold kindN; rw [if_neg h1, if_pos h2]
      cases hI : inCount A with
      | false => rw [hk, hI]; exact kv_count0_any A v w hv hF h2 hI
      | true =>
        have := kv_count1_any A v w hv hF h2 hI _ rfl
        rw [hk, hI, Bool.true_and]
        cases hz : decide (A = onlyCount A) with
        | false => rw [hz] at this; exact this
        | true => rw [hz] at this; exact this
    · by_cases h3 : A.kind = 3
      · have hk : kindN A = if decide (A = onlyFlags A) = true then 3 else 0 := by unfold kindN; rw [if_neg h1, if_neg h2, if_pos h3]
        have := kv_flags1_any A v w hv hF h3 _ rfl
        rw [hk]
        cases hz : decide (A = onlyFlags A) with
        | false => rw [hz] at this; exact this
        | true => rw [hz] at this; exact this
      · have hk : kindN A = 0 := by unfold kindN; rw [if_neg h1, if_neg h2, if_neg h3]
        rw [hk]
        exact kv_none_any A v w hv hF (by unfold kOf; rw [if_neg h1, if_neg h2, if_neg h3])
def checkV (A : Va) : Int := if okV A = true then 0 else 2
set_option maxRecDepth 20000 in
set_option maxHeartbeats 1000000 in
theorem vcheck_any (A : Va) (v : Value) (w : World) (hv : isVa A v w) (hF : Fit A) :
    Calls Try.prog 20 #[v] w fun e w' => e = .returned (.int .i64 (checkV A)) ∧ Below w.heap.size w w' := by
  obtain ⟨vp, vm, rfl, hp, hm⟩ := hv
  obtain ⟨hB, hV⟩ := vbox w A vp vm hp hm w.heap.size rfl
  have hX := Kept.mk (show isVa A (.agg #[.int .i64 A.kind, .int .i64 A.time, .int .i64 A.node, .bool A.dead, .string ⟨A.text.toArray⟩, vp, vm, .int .u64 (A.flags.toNat : Int)]) (w.alloc (.cells #[.int .i64 A.kind, .int .i64 A.time, .int .i64 A.node, .bool A.dead, .string ⟨A.text.toArray⟩, vp, vm, .int .u64 (A.flags.toNat : Int)] 25)) from ⟨vp, vm, rfl, stable_cells _ _ _ _ hp hB.out, stable_cells _ _ _ _ hm hB.out⟩)
  clear hp hm
  have HC := Kept.mk (show checkV A = if okV A = true then 0 else 2 from rfl)
  go_enter Try.func20, Try.ntmps20
  go_wp2_with fail
  refine (kv_any A _ _ hX.out hF).mono ?_
  rintro e w1 ⟨rfl, hb1⟩
  replace hB := Kept.mk (hB.out.trans (hb1.mono hB.out.size))
  clear hb1 hX hV
  generalize kindN A = kn
  cases hz : okV A with
  | false =>
    rw [hz] at HC
    go_wp2
    go_ret
    exact ⟨by rw [HC.out]; rfl, hB.out⟩
  | true =>
    rw [hz] at HC
    go_wp2
    go_ret
    exact ⟨by rw [HC.out]; rfl, hB.out⟩
theorem leastF_rows (k : Int) : (leastF k).plus.length ≤ 8 ∧ (leastF k).minus.length ≤ 8 := by
  unfold leastF
  split
  · exact ⟨by simp, by simp⟩
  · split
    · exact ⟨by simp, by simp⟩
    · split <;> exact ⟨by simp [zeroV], by simp [zeroV]⟩
set_option maxRecDepth 20000 in
set_option maxHeartbeats 1000000 in
theorem vleast_reg (w : World) : Calls Try.prog 15 #[.int .i64 1] w fun e w' => ∃ v', e = .returned (.tuple #[v', .int .i64 0]) ∧ isVaN w.heap.size (leastF 1) v' w' ∧ Below w.heap.size w w' := by
  have hB := Kept.mk (lit_below w (.cells #[.int .i64 0, .int .i64 0, .int .i64 0, .bool false, .string ⟨#[]⟩, .slice none 0 0, .slice none 0 0, .int .u64 0] 25))
  have HZ := Kept.mk (cellsN_at w 25 [.int .i64 0, .int .i64 0, .int .i64 0, .bool false, .string ⟨#[]⟩, .slice none 0 0, .slice none 0 0, .int .u64 0] w.heap.size rfl)
  have HF := Kept.mk (free5_at w #[.int .i64 0, .int .i64 0, .int .i64 0, .bool false, .string ⟨#[]⟩, .slice none 0 0, .slice none 0 0, .int .u64 0] 25 w.heap.size rfl)
  have hs : (w.alloc (.cells #[.int .i64 0, .int .i64 0, .int .i64 0, .bool false, .string ⟨#[]⟩, .slice none 0 0, .slice none 0 0, .int .u64 0] 25)).heap.size = w.heap.size + 1 := by simp
  have hinv : ∀ W : World, (invoke (.fn (.method "ouroboros/value.least") #[]) #[.iface 54 (.agg #[])]).run Try.prog W = .ok (.enter 51 #[.agg #[]]) W := fun W => by kernel_rfl
  have HK : Kept (kOf 1 = 1) := ⟨by decide⟩
  have HI : Kept (ifaceK 1 = .iface 54 (.agg #[])) := ⟨rfl⟩
  go_enter Try.func15, Try.ntmps15
  go_wp2_with fail
  refine (kindOf_any _ _).mono ?_; rintro e w' ⟨rfl, rfl⟩
  rewrite [HK.out, HI.out]
  go_wp2_with fail
  generalize w.alloc (.cells #[.int .i64 0, .int .i64 0, .int .i64 0, .bool false, .string ⟨#[]⟩, .slice none 0 0, .slice none 0 0, .int .u64 0] 25) = W0 at *
  refine (regLeast_any _).mono ?_
  rintro e w1 ⟨v', rfl, ⟨p', m', rfl, hp1, hm1, np, nm⟩, hb1⟩
  have hZ1 := HZ.out.keep hb1 HZ.out.1
  have K1 := Kept.mk hZ1
  have K2 := Kept.mk (HF.out.keep hb1 HZ.out.1)
  obtain ⟨hBK, K4, K5⟩ := vset (leastF 1) p' m' (g := w.heap.size) (Nat.le_refl _) (hB.out.trans (hb1.mono hB.out.size)) hZ1 rfl hp1 hm1 (np.ne (by omega)) (nm.ne (by omega))
  obtain ⟨hc', hp', hm'⟩ := K4.out
  replace np := np.low (B' := w.heap.size) (by omega)
  replace nm := nm.low (B' := w.heap.size) (by omega)
  clear K4 hp1 hm1 hZ1 hb1 hinv
  go_wp2_with (refine wpList_storeN 25 rfl (.tmp 2) (.tmp 15) rfl w.heap.size [.int .i64 (leastF 1).kind, .int .i64 (leastF 1).time, .int .i64 (leastF 1).node, .bool (leastF 1).dead, .string ⟨(leastF 1).text.toArray⟩, p', m', .int .u64 ((leastF 1).flags.toNat : Int)] size_va rfl rfl K1.out rfl K2.out K5.out ?_)
  exact bodyPost_ret (resultsN2 rfl _ _ w.heap.size _ (.int .i64 0) size_va agg_va rfl rfl hc') rfl ⟨_, rfl, ⟨_, _, rfl, hp', hm', np, nm⟩, hBK.out⟩
set_option maxRecDepth 20000 in
set_option maxHeartbeats 1000000 in
theorem vleast_count (w : World) : Calls Try.prog 15 #[.int .i64 2] w fun e w' => ∃ v', e = .returned (.tuple #[v', .int .i64 0]) ∧ isVaN w.heap.size (leastF 2) v' w' ∧ Below w.heap.size w w' := by
  have hB := Kept.mk (lit_below w (.cells #[.int .i64 0, .int .i64 0, .int .i64 0, .bool false, .string ⟨#[]⟩, .slice none 0 0, .slice none 0 0, .int .u64 0] 25))
  have HZ := Kept.mk (cellsN_at w 25 [.int .i64 0, .int .i64 0, .int .i64 0, .bool false, .string ⟨#[]⟩, .slice none 0 0, .slice none 0 0, .int .u64 0] w.heap.size rfl)
  have HF := Kept.mk (free5_at w #[.int .i64 0, .int .i64 0, .int .i64 0, .bool false, .string ⟨#[]⟩, .slice none 0 0, .slice none 0 0, .int .u64 0] 25 w.heap.size rfl)
  have hs : (w.alloc (.cells #[.int .i64 0, .int .i64 0, .int .i64 0, .bool false, .string ⟨#[]⟩, .slice none 0 0, .slice none 0 0, .int .u64 0] 25)).heap.size = w.heap.size + 1 := by simp
  have hinv : ∀ W : World, (invoke (.fn (.method "ouroboros/value.least") #[]) #[.iface 55 (.agg #[])]).run Try.prog W = .ok (.enter 63 #[.agg #[]]) W := fun W => by kernel_rfl
  have HK : Kept (kOf 2 = 2) := ⟨by decide⟩
  have HI : Kept (ifaceK 2 = .iface 55 (.agg #[])) := ⟨rfl⟩
  go_enter Try.func15, Try.ntmps15
  go_wp2_with fail
  refine (kindOf_any _ _).mono ?_; rintro e w' ⟨rfl, rfl⟩
  rewrite [HK.out, HI.out]
  go_wp2_with fail
  generalize w.alloc (.cells #[.int .i64 0, .int .i64 0, .int .i64 0, .bool false, .string ⟨#[]⟩, .slice none 0 0, .slice none 0 0, .int .u64 0] 25) = W0 at *
  refine (countLeast_any _).mono ?_
  rintro e w1 ⟨v', rfl, ⟨p', m', rfl, hp1, hm1, np, nm⟩, hb1⟩
  have hZ1 := HZ.out.keep hb1 HZ.out.1
  have K1 := Kept.mk hZ1
  have K2 := Kept.mk (HF.out.keep hb1 HZ.out.1)
  obtain ⟨hBK, K4, K5⟩ := vset (leastF 2) p' m' (g := w.heap.size) (Nat.le_refl _) (hB.out.trans (hb1.mono hB.out.size)) hZ1 rfl hp1 hm1 (np.ne (by omega)) (nm.ne (by omega))
  obtain ⟨hc', hp', hm'⟩ := K4.out
  replace np := np.low (B' := w.heap.size) (by omega)
  replace nm := nm.low (B' := w.heap.size) (by omega)
  clear K4 hp1 hm1 hZ1 hb1 hinv
  go_wp2_with (refine wpList_storeN 25 rfl (.tmp 2) (.tmp 15) rfl w.heap.size [.int .i64 (leastF 2).kind, .int .i64 (leastF 2).time, .int .i64 (leastF 2).node, .bool (leastF 2).dead, .string ⟨(leastF 2).text.toArray⟩, p', m', .int .u64 ((leastF 2).flags.toNat : Int)] size_va rfl rfl K1.out rfl K2.out K5.out ?_)
  exact bodyPost_ret (resultsN2 rfl _ _ w.heap.size _ (.int .i64 0) size_va agg_va rfl rfl hc') rfl ⟨_, rfl, ⟨_, _, rfl, hp', hm', np, nm⟩, hBK.out⟩
set_option maxRecDepth 20000 in
set_option maxHeartbeats 1000000 in
theorem vleast_flags (w : World) : Calls Try.prog 15 #[.int .i64 3] w fun e w' => ∃ v', e = .returned (.tuple #[v', .int .i64 0]) ∧ isVaN w.heap.size (leastF 3) v' w' ∧ Below w.heap.size w w' := by
  have hB := Kept.mk (lit_below w (.cells #[.int .i64 0, .int .i64 0, .int .i64 0, .bool false, .string ⟨#[]⟩, .slice none 0 0, .slice none 0 0, .int .u64 0] 25))
  have HZ := Kept.mk (cellsN_at w 25 [.int .i64 0, .int .i64 0, .int .i64 0, .bool false, .string ⟨#[]⟩, .slice none 0 0, .slice none 0 0, .int .u64 0] w.heap.size rfl)
  have HF := Kept.mk (free5_at w #[.int .i64 0, .int .i64 0, .int .i64 0, .bool false, .string ⟨#[]⟩, .slice none 0 0, .slice none 0 0, .int .u64 0] 25 w.heap.size rfl)
  have hs : (w.alloc (.cells #[.int .i64 0, .int .i64 0, .int .i64 0, .bool false, .string ⟨#[]⟩, .slice none 0 0, .slice none 0 0, .int .u64 0] 25)).heap.size = w.heap.size + 1 := by simp
  have hinv : ∀ W : World, (invoke (.fn (.method "ouroboros/value.least") #[]) #[.iface 56 (.agg #[])]).run Try.prog W = .ok (.enter 78 #[.agg #[]]) W := fun W => by kernel_rfl
  have HK : Kept (kOf 3 = 3) := ⟨by decide⟩
  have HI : Kept (ifaceK 3 = .iface 56 (.agg #[])) := ⟨rfl⟩
  go_enter Try.func15, Try.ntmps15
  go_wp2_with fail
  refine (kindOf_any _ _).mono ?_; rintro e w' ⟨rfl, rfl⟩
  rewrite [HK.out, HI.out]
  go_wp2_with fail
  generalize w.alloc (.cells #[.int .i64 0, .int .i64 0, .int .i64 0, .bool false, .string ⟨#[]⟩, .slice none 0 0, .slice none 0 0, .int .u64 0] 25) = W0 at *
  refine (flagsLeast_any _).mono ?_
  rintro e w1 ⟨v', rfl, ⟨p', m', rfl, hp1, hm1, np, nm⟩, hb1⟩
  have hZ1 := HZ.out.keep hb1 HZ.out.1
  have K1 := Kept.mk hZ1
  have K2 := Kept.mk (HF.out.keep hb1 HZ.out.1)
  obtain ⟨hBK, K4, K5⟩ := vset (leastF 3) p' m' (g := w.heap.size) (Nat.le_refl _) (hB.out.trans (hb1.mono hB.out.size)) hZ1 rfl hp1 hm1 (np.ne (by omega)) (nm.ne (by omega))
  obtain ⟨hc', hp', hm'⟩ := K4.out
  replace np := np.low (B' := w.heap.size) (by omega)
  replace nm := nm.low (B' := w.heap.size) (by omega)
  clear K4 hp1 hm1 hZ1 hb1 hinv
  go_wp2_with (refine wpList_storeN 25 rfl (.tmp 2) (.tmp 15) rfl w.heap.size [.int .i64 (leastF 3).kind, .int .i64 (leastF 3).time, .int .i64 (leastF 3).node, .bool (leastF 3).dead, .string ⟨(leastF 3).text.toArray⟩, p', m', .int .u64 ((leastF 3).flags.toNat : Int)] size_va rfl rfl K1.out rfl K2.out K5.out ?_)
  exact bodyPost_ret (resultsN2 rfl _ _ w.heap.size _ (.int .i64 0) size_va agg_va rfl rfl hc') rfl ⟨_, rfl, ⟨_, _, rfl, hp', hm', np, nm⟩, hBK.out⟩
end Go.Proofs.Ytnjlefciekcehaa
