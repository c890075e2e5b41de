/- Contracts of the three kinds' methods. -/
import Derived.Test.YtebjljiklacolaaVaSame
namespace Go.Proofs.Ytebjljiklacolaa
open Go.RowKit
set_option linter.unusedVariables false
set_option linter.unusedSimpArgs false
attribute [local irreducible] setN

set_option maxRecDepth 20000 in
set_option maxHeartbeats 1000000 in
theorem flagsInrange_any (A : Va) (v : Value) (w : World) (hv : isVa A v w) :
    Calls Try.prog 104 #[.agg #[], v] w fun e w' => e = .returned (.bool true) ∧ Below w.heap.size w w' := by
  obtain ⟨vp, vm, rfl, hp, hm⟩ := hv
  have hB0 := lit_below w (.cells #[] 87)
  obtain ⟨hB1, hV⟩ := vbox _ A vp vm (stable_cells _ _ _ _ hp hB0) (stable_cells _ _ _ _ hm hB0) (w.heap.size + 1) (by simp)
  have hB := Kept.mk (hB0.trans (hB1.out.mono hB0.size))
  clear hp hm hB0 hB1 hV
  go_enter Try.func104, Try.ntmps104
  go_wp2
  go_ret
  exact ⟨rfl, hB.out⟩
set_option maxRecDepth 20000 in
set_option maxHeartbeats 1000000 in
theorem regIn_any (A : Va) (v : Value) (w : World) (hv : isVa A v w) (hl : A.text.length ≤ 1000000000) :
    Calls Try.prog 79 #[.agg #[], v] w fun e w' => e = .returned (.bool (inReg A)) ∧ Below w.heap.size w w' := by
  obtain ⟨vp, vm, rfl, hp, hm⟩ := hv
  have hB0 := lit_below w (.cells #[] 85)
  obtain ⟨hB1, hV⟩ := vbox _ A vp vm (stable_cells _ _ _ _ hp hB0) (stable_cells _ _ _ _ hm hB0) (w.heap.size + 1) (by simp)
  have hB := Kept.mk (hB0.trans (hB1.out.mono hB0.size))
  clear hp hm hB0 hB1 hV
  have HI := Kept.mk (show inReg A = ((decide (0 ≤ A.time) && decide (A.time ≤ 2147483647)) && (decide (0 ≤ A.node) && decide (A.node ≤ 7)) && decide ((A.text.length : Int) ≤ 8) && (!A.dead || A.text.isEmpty)) by unfold inReg; cases A.text <;> rfl)
  have hsz : (⟨A.text.toArray⟩ : ByteArray).size = A.text.length := size_mk _
  go_enter Try.func79, Try.ntmps79
  go_wp2_with fail
  refine (within_any _ _ _).mono ?_; rintro e w' ⟨rfl, rfl⟩
  cases d1 : (decide (0 ≤ A.time) && decide (A.time ≤ 2147483647)) with
  | false =>
    go_wp2
    go_ret
    exact ⟨by rw [HI.out, d1]; rfl, hB.out⟩
  | true =>
    go_wp2_with fail
    refine (within_any _ _ _).mono ?_; rintro e w' ⟨rfl, rfl⟩
    cases d2 : (decide (0 ≤ A.node) && decide (A.node ≤ 7)) with
    | false =>
      go_wp2
      go_ret
      exact ⟨by rw [HI.out, d1, d2]; rfl, hB.out⟩
    | true =>
      cases d3 : decide ((A.text.length : Int) ≤ 8) with
      | false =>
        go_wp2
        go_ret
        exact ⟨by rw [HI.out, d1, d2, d3]; rfl, hB.out⟩
      | true =>
        cases d4 : A.dead with
        | false =>
          rw [d4] at hB
          go_wp2
          go_ret
          exact ⟨by rw [HI.out, d1, d2, d3, d4]; rfl, hB.out⟩
        | true =>
          rw [d4] at hB
          go_wp2
          go_ret
          exact ⟨by rw [HI.out, d1, d2, d3, d4]; rfl, hB.out⟩
set_option maxRecDepth 20000 in
set_option maxHeartbeats 1000000 in
theorem countIn_any (A : Va) (v : Value) (w : World) (hv : isVa A v w) (h1 : A.plus.length ≤ 1000000000) (h2 : A.minus.length ≤ 1000000000) :
    Calls Try.prog 91 #[.agg #[], v] w fun e w' => e = .returned (.bool (inCount A)) ∧ Below w.heap.size w w' := by
  obtain ⟨vp, vm, rfl, hp, hm⟩ := hv
  have hB0 := lit_below w (.cells #[] 86)
  obtain ⟨hB1, hV⟩ := vbox _ A vp vm (stable_cells _ _ _ _ hp hB0) (stable_cells _ _ _ _ hm hB0) (w.heap.size + 1) (by simp)
  have hB := Kept.mk (hB0.trans (hB1.out.mono hB0.size))
  have HP := Kept.mk (stable_cells _ _ _ _ hp hB.out)
  have HM := Kept.mk (stable_cells _ _ _ _ hm hB.out)
  clear hp hm hB0 hB1 hV
  have HI := Kept.mk (show inCount A = (okRow A.plus && okRow A.minus) from rfl)
  go_enter Try.func91, Try.ntmps91
  go_wp2_with fail
  refine (isRow_any A.plus _ _ HP.out (by omega)).mono ?_; rintro e w' ⟨rfl, rfl⟩
  cases d1 : okRow A.plus with
  | false =>
    go_wp2
    go_ret
    exact ⟨by rw [HI.out, d1]; rfl, hB.out⟩
  | true =>
    go_wp2_with fail
    refine (isRow_any A.minus _ _ HM.out (by omega)).mono ?_; rintro e w' ⟨rfl, rfl⟩
    cases d2 : okRow A.minus with
    | false =>
      go_wp2
      go_ret
      exact ⟨by rw [HI.out, d1, d2]; rfl, hB.out⟩
    | true =>
      go_wp2
      go_ret
      exact ⟨by rw [HI.out, d1, d2]; rfl, hB.out⟩
set_option maxRecDepth 20000 in
set_option maxHeartbeats 1000000 in
theorem regOnly_any (A : Va) (v : Value) (w : World) (hv : isVa A v w) :
    Calls Try.prog 82 #[.agg #[], v] w fun e w' => ∃ v', e = .returned v' ∧ isVaN w.heap.size (onlyReg A) v' w' ∧ Below w.heap.size w w' := by
  obtain ⟨vp, vm, rfl, hp, hm⟩ := hv
  have hB0 := lit_below w (.cells #[] 85)
  obtain ⟨hB1, hV⟩ := vbox _ A vp vm (stable_cells _ _ _ _ hp hB0) (stable_cells _ _ _ _ hm hB0) (w.heap.size + 1) (by simp)
  have hB := Kept.mk (hB0.trans (hB1.out.mono hB0.size))
  obtain ⟨K1, K2, K3, K4, K5⟩ := vnew ((w.alloc (.cells #[] 85)).alloc (.cells #[.int .i64 A.kind, .int .i64 A.time, .int .i64 A.node, .bool A.dead, .string ⟨A.text.toArray⟩, vp, vm, .int .u64 (A.flags.toNat : Int)] 25)) (onlyReg A) (.slice none 0 0) (.slice none 0 0) (.inl ⟨rfl, rfl⟩) (.inl ⟨rfl, rfl⟩) (w.heap.size + 2) (by simp)
  obtain ⟨hc', hp', hm'⟩ := K4.out
  have hBK := Kept.mk (hB.out.trans (K3.out.mono hB.out.size))
  clear hB0 hB1 hV hB K3 K4 hp hm
  go_enter Try.func82, Try.ntmps82
  go_wp2_with (refine wpList_storeN 25 rfl (.tmp 4) (.tmp 13) rfl (w.heap.size + 2) [.int .i64 1, .int .i64 A.time, .int .i64 A.node, .bool A.dead, .string ⟨A.text.toArray⟩, .slice none 0 0, .slice none 0 0, .int .u64 0] size_va rfl rfl K1.out rfl K2.out K5.out ?_)
  exact bodyPost_ret (resultsN1 rfl _ _ (w.heap.size + 2) _ size_va agg_va rfl hc') rfl ⟨_, rfl, ⟨_, _, rfl, hp', hm', newB_nil _, newB_nil _⟩, hBK.out⟩
set_option maxRecDepth 20000 in
set_option maxHeartbeats 1000000 in
theorem flagsOnly_any (A : Va) (v : Value) (w : World) (hv : isVa A v w) :
    Calls Try.prog 107 #[.agg #[], v] w fun e w' => ∃ v', e = .returned v' ∧ isVaN w.heap.size (onlyFlags A) v' w' ∧ Below w.heap.size w w' := by
  obtain ⟨vp, vm, rfl, hp, hm⟩ := hv
  have hB0 := lit_below w (.cells #[] 87)
  obtain ⟨hB1, hV⟩ := vbox _ A vp vm (stable_cells _ _ _ _ hp hB0) (stable_cells _ _ _ _ hm hB0) (w.heap.size + 1) (by simp)
  have hB := Kept.mk (hB0.trans (hB1.out.mono hB0.size))
  obtain ⟨K1, K2, K3, K4, K5⟩ := vnew ((w.alloc (.cells #[] 87)).alloc (.cells #[.int .i64 A.kind, .int .i64 A.time, .int .i64 A.node, .bool A.dead, .string ⟨A.text.toArray⟩, vp, vm, .int .u64 (A.flags.toNat : Int)] 25)) (onlyFlags A) (.slice none 0 0) (.slice none 0 0) (.inl ⟨rfl, rfl⟩) (.inl ⟨rfl, rfl⟩) (w.heap.size + 2) (by simp)
  obtain ⟨hc', hp', hm'⟩ := K4.out
  have hBK := Kept.mk (hB.out.trans (K3.out.mono hB.out.size))
  clear hB0 hB1 hV hB K3 K4 hp hm
  go_enter Try.func107, Try.ntmps107
  go_wp2_with (refine wpList_storeN 25 rfl (.tmp 4) (.tmp 7) rfl (w.heap.size + 2) [.int .i64 3, .int .i64 0, .int .i64 0, .bool false, .string ⟨#[]⟩, .slice none 0 0, .slice none 0 0, .int .u64 (A.flags.toNat : Int)] size_va rfl rfl K1.out rfl K2.out K5.out ?_)
  exact bodyPost_ret (resultsN1 rfl _ _ (w.heap.size + 2) _ size_va agg_va rfl hc') rfl ⟨_, rfl, ⟨_, _, rfl, hp', hm', newB_nil _, newB_nil _⟩, hBK.out⟩
theorem or_u64 (x y : UInt64) : bits .or .u64 (x.toNat : Int) (y.toNat : Int) = ((x ||| y).toNat : Int) := by
  rw [u64_or_nat _ _ x.toNat_lt y.toNat_lt, UInt64.toNat_or]
set_option maxRecDepth 20000 in
set_option maxHeartbeats 1000000 in
theorem flagsJoin_any (A B : Va) (v u : Value) (w : World) (hv : isVa A v w) (hu : isVa B u w) :
    Calls Try.prog 105 #[.agg #[], v, u] w fun e w' => ∃ v', e = .returned v' ∧ isVaN w.heap.size (joinFlags A B) v' w' ∧ Below w.heap.size w w' := by
  obtain ⟨up, um, rfl, gp, gm⟩ := hu
  obtain ⟨vp, vm, rfl, hp, hm⟩ := hv
  have hB0 := lit_below w (.cells #[] 87)
  obtain ⟨hB1, hV⟩ := vbox _ A vp vm (stable_cells _ _ _ _ hp hB0) (stable_cells _ _ _ _ hm hB0) (w.heap.size + 1) (by simp)
  have hB := Kept.mk (hB0.trans (hB1.out.mono hB0.size))
  obtain ⟨hB2, hU⟩ := vbox ((w.alloc (.cells #[] 87)).alloc (.cells #[.int .i64 A.kind, .int .i64 A.time, .int .i64 A.node, .bool A.dead, .string ⟨A.text.toArray⟩, vp, vm, .int .u64 (A.flags.toNat : Int)] 25)) B up um (stable_cells _ _ _ _ gp hB.out) (stable_cells _ _ _ _ gm hB.out) (w.heap.size + 2) (by simp)
  replace hB := Kept.mk (hB.out.trans (hB2.out.mono hB.out.size))
  obtain ⟨K1, K2, K3, K4, K5⟩ := vnew (((w.alloc (.cells #[] 87)).alloc (.cells #[.int .i64 A.kind, .int .i64 A.time, .int .i64 A.node, .bool A.dead, .string ⟨A.text.toArray⟩, vp, vm, .int .u64 (A.flags.toNat : Int)] 25)).alloc (.cells #[.int .i64 B.kind, .int .i64 B.time, .int .i64 B.node, .bool B.dead, .string ⟨B.text.toArray⟩, up, um, .int .u64 (B.flags.toNat : Int)] 25)) (joinFlags A B) (.slice none 0 0) (.slice none 0 0) (.inl ⟨rfl, rfl⟩) (.inl ⟨rfl, rfl⟩) (w.heap.size + 3) (by simp)
  obtain ⟨hc', hp', hm'⟩ := K4.out
  have hBK := Kept.mk (hB.out.trans (K3.out.mono hB.out.size))
  have hor := or_u64 A.flags B.flags
  clear hB0 hB1 hB2 hV hU hB K3 K4 hp hm gp gm
  go_enter Try.func105, Try.ntmps105
  go_wp2_with (refine wpList_storeN 25 rfl (.tmp 6) (.tmp 12) rfl (w.heap.size + 3) [.int .i64 3, .int .i64 0, .int .i64 0, .bool false, .string ⟨#[]⟩, .slice none 0 0, .slice none 0 0, .int .u64 ((A.flags ||| B.flags).toNat : Int)] size_va rfl (by rw [UInt64.toNat_or]; rfl) K1.out rfl K2.out K5.out ?_)
  exact bodyPost_ret (resultsN1 rfl _ _ (w.heap.size + 3) _ size_va agg_va rfl hc') rfl ⟨_, rfl, ⟨_, _, rfl, hp', hm', newB_nil _, newB_nil _⟩, hBK.out⟩
end Go.Proofs.Ytebjljiklacolaa
