/- Joined texts: contracts of the program's functions, and the mathematics that they lean on. -/
import Derived.Test.YtbgconagkgfplaaGreatPartE
import Derived.Laws.AppendOwnNone
section
namespace Go.Proofs.YtbgconagkgfplaaGreat
open Go.RowKit
set_option linter.unusedVariables false
set_option linter.unusedSimpArgs false
attribute [local irreducible] setN

theorem same_split2 (A B : Va) : decide (A = B) = ((A.kind == B.kind) && (A.time == B.time) && (A.node == B.node) && (A.dead == B.dead) && (A.text == B.text) && ((A.flags.toNat : Int) == (B.flags.toNat : Int)) && decide (A.plus = B.plus) && decide (A.minus = B.minus)) := by
  rw [same_split]
  generalize (A.kind == B.kind) = a
  generalize (A.time == B.time) = b
  generalize (A.node == B.node) = c
  generalize (A.dead == B.dead) = d
  generalize (A.text == B.text) = e
  generalize decide (A.plus = B.plus) = f
  generalize decide (A.minus = B.minus) = g
  generalize ((A.flags.toNat : Int) == (B.flags.toNat : Int)) = h
  cases a <;> cases b <;> cases c <;> cases d <;> cases e <;> cases f <;> cases g <;> cases h <;> rfl
set_option maxRecDepth 20000 in
set_option maxHeartbeats 2000000 in
theorem rsame_any (A B : Va) (v u : Value) (w : World) (hv : isVa A v w) (hu : isVa B u w) (hA : Fit A) (hC : Fit B) :
    Calls Tryz.prog 72 #[v, u] w fun e w' => e = .returned (.bool (decide (A = B))) ∧ Below w.heap.size w w' := by
  have hv0 := hv
  have hu0 := hu
  obtain ⟨pa, ma, rfl, hpa, hma⟩ := hv
  obtain ⟨pb, mb, rfl, hpb, hmb⟩ := hu
  obtain ⟨hB, Va⟩ := vbox w A pa ma hpa hma (w.heap.size) (by simp)
  obtain ⟨hBn, Vb⟩ := vbox (w.alloc (.cells #[.int .i64 A.kind, .int .i64 A.time, .int .i64 A.node, .bool A.dead, .string ⟨A.text.toArray⟩, pa, ma, .int .u64 (A.flags.toNat : Int)] 28)) B pb mb (stable_cells _ _ _ _ hpb hB.out) (stable_cells _ _ _ _ hmb hB.out) (w.heap.size + 1) (by simp)
  replace Va := Kept.mk (Va.out.keep hBn.out)
  replace hB := Kept.mk (hB.out.trans (hBn.out.mono hB.out.size))
  clear hBn
  clear hpa hma hpb hmb
  have HS := Kept.mk (same_split2 A B)
  have HA0 := Kept.mk (va_grow hv0 hB.out)
  have HU0 := Kept.mk (va_grow hu0 hB.out)
  clear hv0 hu0
  cases d0 : (A.kind == B.kind) with
  | false =>
    go_enter Tryz.func72, Tryz.ntmps72
    go_wp2
    all_goals go_ret
    all_goals exact ⟨by rw [HS.out, d0]; rfl, hB.out⟩
  | true =>
    cases d1 : (A.time == B.time) with
    | false =>
      go_enter Tryz.func72, Tryz.ntmps72
      go_wp2
      all_goals go_ret
      all_goals exact ⟨by rw [HS.out, d0, d1]; rfl, hB.out⟩
    | true =>
      cases d2 : (A.node == B.node) with
      | false =>
        go_enter Tryz.func72, Tryz.ntmps72
        go_wp2
        all_goals go_ret
        all_goals exact ⟨by rw [HS.out, d0, d1, d2]; rfl, hB.out⟩
      | true =>
        cases d3 : (A.dead == B.dead) with
        | false =>
          go_enter Tryz.func72, Tryz.ntmps72
          go_wp2
          all_goals go_ret
          all_goals exact ⟨by rw [HS.out, d0, d1, d2, d3]; rfl, hB.out⟩
        | true =>
          cases d4 : (A.text == B.text) with
          | false =>
            go_enter Tryz.func72, Tryz.ntmps72
            go_wp2
            all_goals go_ret
            all_goals exact ⟨by rw [HS.out, d0, d1, d2, d3, d4]; rfl, hB.out⟩
          | true =>
            cases d5 : ((A.flags.toNat : Int) == (B.flags.toNat : Int)) with
            | false =>
              go_enter Tryz.func72, Tryz.ntmps72
              go_wp2
              all_goals go_ret
              all_goals exact ⟨by rw [HS.out, d0, d1, d2, d3, d4, d5]; rfl, hB.out⟩
            | true =>
              go_enter Tryz.func72, Tryz.ntmps72
              go_wp2_with fail
              generalize (w.alloc (.cells #[.int .i64 A.kind, .int .i64 A.time, .int .i64 A.node, .bool A.dead, .string ⟨A.text.toArray⟩, pa, ma, .int .u64 (A.flags.toNat : Int)] 28)).alloc (.cells #[.int .i64 B.kind, .int .i64 B.time, .int .i64 B.node, .bool B.dead, .string ⟨B.text.toArray⟩, pb, mb, .int .u64 (B.flags.toNat : Int)] 28) = W0 at *
              obtain ⟨_, _, e1, e2, e3⟩ := HA0.out
              obtain ⟨_, _, e4, e5, e6⟩ := HU0.out
              cases e1
              cases e4
              ((with_reducible refine (refInts_any A.plus B.plus _ _ _ e2 e5 (by have := hA.plus; omega) (by have := hC.plus; omega)).mono ?_); rintro e W1 ⟨rfl, hb1⟩)
              replace hB := Kept.mk (hB.out.trans ((hb1).mono hB.out.size))
              replace Va := Kept.mk (Va.out.keep (hb1))
              replace Vb := Kept.mk (Vb.out.keep (hb1))
              clear hb1 e2 e3 e5 e6 HA0 HU0
              cases d6 : decide (A.plus = B.plus) with
              | false =>
                go_wp2
                all_goals go_ret
                all_goals exact ⟨by rw [HS.out, d0, d1, d2, d3, d4, d5, d6]; rfl, hB.out⟩
              | true =>
                obtain ⟨qa, ra, -, -, ma2, ka0, ka1, ka2, ka3, ka4, ka5, ka6, ka7⟩ := Va.out.open_
                obtain ⟨qb, rb, -, -, mb2, kb0, kb1, kb2, kb3, kb4, kb5, kb6, kb7⟩ := Vb.out.open_
                go_wp2_with fail
                ((with_reducible refine (refInts_any A.minus B.minus _ _ _ ma2.out mb2.out (by have := hA.minus; omega) (by have := hC.minus; omega)).mono ?_); rintro e W2 ⟨rfl, hb1⟩)
                clear ma2 mb2 ka0 ka1 ka2 ka3 ka4 ka5 ka6 ka7 kb0 kb1 kb2 kb3 kb4 kb5 kb6 kb7
                replace hB := Kept.mk (hB.out.trans ((hb1).mono hB.out.size))
                replace Va := Kept.mk (Va.out.keep (hb1))
                replace Vb := Kept.mk (Vb.out.keep (hb1))
                clear hb1
                obtain ⟨z, hz⟩ : ∃ z, z = decide (A.minus = B.minus) := ⟨_, rfl⟩
                rw [← hz] at HS ⊢
                clear hz
                go_wp2
                all_goals go_ret
                all_goals exact ⟨by rw [HS.out, d0, d1, d2, d3, d4, d5, d6]; rfl, hB.out⟩
theorem behind_split (A B : Va) : behindB A B = if A.time = B.time then (if A.node = B.node then (if A.dead = B.dead then (!(Op.bytesLess A.text B.text || A.text == B.text)) else A.dead) else decide (B.node < A.node)) else decide (B.time < A.time) := by
  rw [Bool.eq_iff_iff, behindB_iff]
  unfold Behind
  by_cases h1 : A.time = B.time
  · rw [if_pos h1]
    by_cases h2 : A.node = B.node
    · rw [if_pos h2]
      by_cases h3 : A.dead = B.dead
      · rw [if_pos h3]
        have e : (!(Op.bytesLess A.text B.text || A.text == B.text)) = Op.bytesLess B.text A.text := by
          cases a : Op.bytesLess A.text B.text with
          | true => rw [less_asymm a]; rfl
          | false =>
            cases b : Op.bytesLess B.text A.text with
            | true =>
              have : A.text ≠ B.text := by intro e; rw [e, less_irrefl] at b; cases b
              simp [this]
            | false => simp [less_total _ _ a b]
        rw [e]
        simp [h1, h2, h3]
      · rw [if_neg h3]
        cases ha : A.dead <;> cases hb : B.dead <;> simp [ha, hb] at h3 <;> simp [h1, h2, rankI]
    · rw [if_neg h2]
      simp [h1, h2]
  · rw [if_neg h1]
    simp [h1]
set_option maxRecDepth 20000 in
set_option maxHeartbeats 2000000 in
theorem rbehind_any (A B : Va) (v u : Value) (w : World) (hv : isVa A v w) (hu : isVa B u w) :
    Calls Tryz.prog 137 #[v, u] w fun e w' => e = .returned (.bool (behindB A B)) ∧ Below w.heap.size w w' := by
  obtain ⟨pa, ma, rfl, hpa, hma⟩ := hv
  obtain ⟨pb, mb, rfl, hpb, hmb⟩ := hu
  obtain ⟨hB, Va⟩ := vbox w A pa ma hpa hma (w.heap.size) (by simp)
  obtain ⟨hBn, Vb⟩ := vbox (w.alloc (.cells #[.int .i64 A.kind, .int .i64 A.time, .int .i64 A.node, .bool A.dead, .string ⟨A.text.toArray⟩, pa, ma, .int .u64 (A.flags.toNat : Int)] 28)) B pb mb (stable_cells _ _ _ _ hpb hB.out) (stable_cells _ _ _ _ hmb hB.out) (w.heap.size + 1) (by simp)
  replace Va := Kept.mk (Va.out.keep hBn.out)
  replace hB := Kept.mk (hB.out.trans (hBn.out.mono hB.out.size))
  clear hBn
  clear hpa hma hpb hmb
  have HS := Kept.mk (behind_split A B)
  clear Va Vb
  by_cases h1 : A.time = B.time
  case neg =>
    have d1 : (A.time == B.time) = false := by simpa using h1
    have HR := Kept.mk (show behindB A B = decide (B.time < A.time) by rw [HS.out, if_neg h1])
    clear h1 HS
    go_enter Tryz.func137, Tryz.ntmps137
    go_wp2
    all_goals go_ret
    all_goals exact ⟨by rw [HR.out]; rfl, hB.out⟩
  rw [if_pos h1] at HS
  have d1 : (A.time == B.time) = true := by simpa using h1
  clear h1
  by_cases h2 : A.node = B.node
  case neg =>
    have d2 : (A.node == B.node) = false := by simpa using h2
    have HR := Kept.mk (show behindB A B = decide (B.node < A.node) by rw [HS.out, if_neg h2])
    clear h2 HS
    go_enter Tryz.func137, Tryz.ntmps137
    go_wp2
    all_goals go_ret
    all_goals exact ⟨by rw [HR.out]; rfl, hB.out⟩
  rw [if_pos h2] at HS
  have d2 : (A.node == B.node) = true := by simpa using h2
  clear h2
  cases ha : A.dead with
  | false =>
    cases hb : B.dead with
    | false =>
      rw [ha, hb] at HS hB
      rw [if_pos rfl, Bool.not_or] at HS
      go_enter Tryz.func137, Tryz.ntmps137
      go_wp2
      all_goals go_ret
      all_goals exact ⟨by rw [HS.out]; rfl, hB.out⟩
    | true =>
      rw [ha, hb] at HS hB
      rw [if_neg (by decide)] at HS
      go_enter Tryz.func137, Tryz.ntmps137
      go_wp2
      all_goals go_ret
      all_goals exact ⟨by rw [HS.out]; rfl, hB.out⟩
  | true =>
    cases hb : B.dead with
    | false =>
      rw [ha, hb] at HS hB
      rw [if_neg (by decide)] at HS
      go_enter Tryz.func137, Tryz.ntmps137
      go_wp2
      all_goals go_ret
      all_goals exact ⟨by rw [HS.out]; rfl, hB.out⟩
    | true =>
      rw [ha, hb] at HS hB
      rw [if_pos rfl, Bool.not_or] at HS
      go_enter Tryz.func137, Tryz.ntmps137
      go_wp2
      all_goals go_ret
      all_goals exact ⟨by rw [HS.out]; rfl, hB.out⟩
end Go.Proofs.YtbgconagkgfplaaGreat
end
section
namespace Go.Proofs.YtbgconagkgfplaaGreat
open Go.RowKit
set_option linter.unusedVariables false
section
variable {P : Program} {ops : Array Oper} {base : World} {a0 : Act} {Q : Exit → Act → World → Prop} {kn : Nat → VP} {i : Nat} {V : VP}
theorem step_max (k : IntKind) (t1 t2 : TypeId) (x y : Operand) (m n r : Int) (hop : (ops[i]?).map (·.op) = some (.call { callee := .builtin .max, args := #[x, y], argTypes := #[t1, t2] })) (hw : Wanted ops a0 kn i) (hx : Knows ops a0 kn i x (isVal (.int k m))) (hy : Knows ops a0 kn i y (isVal (.int k n)))
    (hr : (if n > m then n else m) = r) : FStep P ops base a0 Q kn i (isVal (.int k r)) :=
  step_pure _ hop hw fun o a w ho hk hd => by
    have e1 : a.eval x = .int k m := hx a w hk hd
    have e2 : a.eval y = .int k n := hy a w hk hd
    unfold execOp
    rw [ho]
    simp only [resolve, Sem.run_bind, Sem.run_pure, Result.andThen_ok, invoke, builtin, List.map_toArray, List.map_cons, List.map_nil, e1, e2, run_max_int2, hr]
end
end Go.Proofs.YtbgconagkgfplaaGreat
end
section
namespace Go.Proofs.YtbgconagkgfplaaGreat
open Go.RowKit
set_option linter.unusedVariables false
set_option linter.unusedSimpArgs false

section
variable {P : Program} {ops : Array Oper} {base : World} {a0 : Act} {Q : Exit → Act → World → Prop} {kn : Nat → VP} {i : Nat} {V : VP}
theorem step_int1 (t e : TypeId) (x : Operand) (a1 : Int) (ie : TypeInfo) (hop : (ops[i]?).map (·.op) = some (.buildSlice t 1 #[(0, x)])) (hw : Wanted ops a0 kn i) (h0 : Knows ops a0 kn i x (isVal (.int .i64 a1)))
    (hu : P.underlying t = some (.slice e)) (hie : P.info? e = some ie) (hz : ie.zero = some (.int .i64 0)) (hsz : ie.size = 1) : FStep P ops base a0 Q kn i (isCells [intC a1]) :=
  step_mk (stable_cells _) hw fun o ho a w hk hb hd => by
    have e0 : a.eval x = intC a1 := h0 a w hk hd
    have hf : Instr.fill (fun i => some (i * ie.size, ie.size)) ((Array.range (1 * ie.size)).map ((Value.int .i64 0).cells[· % (Value.int .i64 0).cells.size]!)) ((#[(0, x)] : Array (Nat × Operand)).map fun (i, x) => (i, a.eval x)).toList = some #[intC a1] := by
      have e1 : ((#[(0, x)] : Array (Nat × Operand)).map fun (i, x) => (i, a.eval x)).toList = (([intC a1] : List Value).zipIdx 0).map fun x => (x.2, x.1) := by simp [e0]
      rw [e1, hsz, Great.fill_flat _ _ (fun v hv => by simp only [List.mem_cons, List.not_mem_nil, or_false] at hv; subst hv; rfl) (by simp)]
    refine wp_buildSlice t e 1 _ (op_of hop ho) _ ie (.int .i64 0) hu hie hz (by rw [hsz]; omega) (by rw [hsz]; omega) hf ?_
    refine ⟨_, rfl, .inr (.inr ⟨w.heap.size, 0, 1, rfl, by simp, fun j v hv => ?_⟩), (Below.refl _ _).alloc (Nat.le_refl _) _⟩
    rw [World.cell?_alloc_new]
    simpa using hv
end
theorem ownsRow_grow {W W' : World} {n₀ : Nat} {e : TypeId} {size : Nat} {v : Value} {k : Nat} {xs : List Value} (h : W.ownsRow n₀ e size v k xs) (hb : Below W.heap.size W W') : W'.ownsRow n₀ e size v k xs := by
  obtain ⟨hl, h | ⟨g, cap, cur, hv, hB, hg, rest⟩⟩ := h
  · exact ⟨hl, .inl h⟩
  · exact ⟨hl, .inr ⟨g, cap, cur, hv, hB, (hb.block g (Array.getElem?_eq_some_iff.1 hg).1).trans hg, rest⟩⟩
theorem ownsRow_at {w : World} {base : Nat} {e : TypeId} {z : Nat} {v : Value} {k : Nat} {xs : List Value} (h : w.ownsRow base e z v k xs) : ∀ j, v.ownBlock = some j → base ≤ j := by
  intro j hj
  obtain ⟨_, ⟨rfl, _⟩ | ⟨g, cap, cur, rfl, hB, _⟩⟩ := h
  · simp [Value.ownBlock] at hj
  · simp [Value.ownBlock] at hj; omega
noncomputable def mostOps : Array Oper := regionOf Tryz.f138 5
set_option maxRecDepth 100000 in
set_option maxHeartbeats 2000000 in
theorem most_region (Q : Exit → Act → World → Prop) (a0 : Act) (w0 : World) (hsz : a0.tmps.size = 26) (B : Nat) (v0 : Value) (xs : List Int) (b1 o1 c1 b2 o2 c2 n k : Nat) (x y : Int) (e5 : a0.tmps.getD 5 undef = v0) (e0 : a0.tmps.getD 0 undef = (.slice (some ⟨b1, o1, none⟩) n c1)) (e1 : a0.tmps.getD 1 undef = (.slice (some ⟨b2, o2, none⟩) n c2)) (e6 : a0.tmps.getD 6 undef = .int .i64 (k : Int)) (hk : k < n)
    (p1 : w0.cell? ⟨b1, o1 + k, none⟩ = some (.int .i64 x)) (l1 : b1 < w0.heap.size) (p2 : w0.cell? ⟨b2, o2 + k, none⟩ = some (.int .i64 y)) (l2 : b2 < w0.heap.size) (hown : w0.ownsRow B 3 1 v0 xs.length (xs.map intC)) (hx : xs.length ≤ 1000000) (hBs : B ≤ w0.heap.size)
    (hQ : ∀ (f : Nat → Value) (w1 : World), f 5 = f 24 → w1.ownsRow B 3 1 (f 24) (xs ++ [maxI x y]).length ((xs ++ [maxI x y]).map intC) → Below B w0 w1 → Q .normal { tmps := [13, 14, 15, 16, 17, 18, 19, 20, 21, 22, 23, 24, 5].foldl (fun t s => t.setIfInBounds s (f s)) a0.tmps, defers := a0.defers } w1) :
    (Code.region 5 mostOps true).wp Tryz.prog Q a0 w0 := by
  obtain ⟨iint, hiint, hzint, hsint, hbint⟩ := info_parts Tryz.infoInt
  refine wp_region_relC grows_pre 11 mixed (by rw [hsz]; kernel_rfl) (by kernel_rfl) ?_
  rw [show mostOps.size - 11 = 2 by kernel_rfl]
  refine ⟨isVal v0, RStep.old 5 v0 (by kernel_rfl) (by kernel_rfl) (by kernel_rfl) e5, ?_⟩
  refine ⟨isVal (.slice (some ⟨b1, o1, none⟩) n c1), RStep.of grows_pre (stable_val _) (by kernel_rfl) (by intro w hbw; exact step_move (.tmp 0) (by kernel_rfl) (wanted_none (by kernel_rfl)) (stable_val _) (knows_old 0 (.slice (some ⟨b1, o1, none⟩) n c1) (by kernel_rfl) e0)), ?_⟩
  refine ⟨isVal (.int .i64 (k : Int)), RStep.of grows_pre (stable_val _) (by kernel_rfl) (by intro w hbw; exact step_move (.tmp 6) (by kernel_rfl) (wanted_none (by kernel_rfl)) (stable_val _) (knows_old 6 (.int .i64 (k : Int)) (by kernel_rfl) e6)), ?_⟩
  refine ⟨isVal (.pointer (some ⟨b1, o1 + k, none⟩)), RStep.of grows_pre (stable_val _) (by kernel_rfl) (by intro w hbw; exact step_place 23 3 (.tmp 14) (.tmp 15) b1 o1 n c1 k (by kernel_rfl) (wanted_none (by kernel_rfl)) (knows_new (V := isVal (.slice (some ⟨b1, o1, none⟩) n c1)) 14 1 (by kernel_rfl) (by kernel_rfl) (by kernel_rfl)) (knows_new (V := isVal (.int .i64 (k : Int))) 15 2 (by kernel_rfl) (by kernel_rfl) (by kernel_rfl)) Tryz.underlying23 (by kernel_rfl) hk), ?_⟩
  refine ⟨isVal (.int .i64 x), RStep.of grows_pre (stable_val _) (by kernel_rfl) (by intro w hbw; exact step_read 3 (.tmp 16) ⟨b1, o1 + k, none⟩ (.int .i64 x) (by kernel_rfl) (wanted_none (by kernel_rfl)) (knows_new (V := isVal (.pointer (some ⟨b1, o1 + k, none⟩))) 16 3 (by kernel_rfl) (by kernel_rfl) (by kernel_rfl)) ((hbw.cell (p := ⟨b1, o1 + k, none⟩) l1).trans p1) (Nat.lt_of_lt_of_le l1 hbw.size) agg_int), ?_⟩
  refine ⟨isVal (.slice (some ⟨b2, o2, none⟩) n c2), RStep.of grows_pre (stable_val _) (by kernel_rfl) (by intro w hbw; exact step_move (.tmp 1) (by kernel_rfl) (wanted_none (by kernel_rfl)) (stable_val _) (knows_old 1 (.slice (some ⟨b2, o2, none⟩) n c2) (by kernel_rfl) e1)), ?_⟩
  refine ⟨isVal (.int .i64 (k : Int)), RStep.of grows_pre (stable_val _) (by kernel_rfl) (by intro w hbw; exact step_move (.tmp 6) (by kernel_rfl) (wanted_none (by kernel_rfl)) (stable_val _) (knows_old 6 (.int .i64 (k : Int)) (by kernel_rfl) e6)), ?_⟩
  refine ⟨isVal (.pointer (some ⟨b2, o2 + k, none⟩)), RStep.of grows_pre (stable_val _) (by kernel_rfl) (by intro w hbw; exact step_place 23 3 (.tmp 18) (.tmp 19) b2 o2 n c2 k (by kernel_rfl) (wanted_none (by kernel_rfl)) (knows_new (V := isVal (.slice (some ⟨b2, o2, none⟩) n c2)) 18 5 (by kernel_rfl) (by kernel_rfl) (by kernel_rfl)) (knows_new (V := isVal (.int .i64 (k : Int))) 19 6 (by kernel_rfl) (by kernel_rfl) (by kernel_rfl)) Tryz.underlying23 (by kernel_rfl) hk), ?_⟩
  refine ⟨isVal (.int .i64 y), RStep.of grows_pre (stable_val _) (by kernel_rfl) (by intro w hbw; exact step_read 3 (.tmp 20) ⟨b2, o2 + k, none⟩ (.int .i64 y) (by kernel_rfl) (wanted_none (by kernel_rfl)) (knows_new (V := isVal (.pointer (some ⟨b2, o2 + k, none⟩))) 20 7 (by kernel_rfl) (by kernel_rfl) (by kernel_rfl)) ((hbw.cell (p := ⟨b2, o2 + k, none⟩) l2).trans p2) (Nat.lt_of_lt_of_le l2 hbw.size) agg_int), ?_⟩
  refine ⟨isVal (.int .i64 (maxI x y)), RStep.of grows_pre (stable_val _) (by kernel_rfl) (by intro w hbw; exact step_max .i64 3 3 (.tmp 17) (.tmp 21) x y (maxI x y) (by kernel_rfl) (wanted_none (by kernel_rfl)) (knows_new (V := isVal (.int .i64 x)) 17 4 (by kernel_rfl) (by kernel_rfl) (by kernel_rfl)) (knows_new (V := isVal (.int .i64 y)) 21 8 (by kernel_rfl) (by kernel_rfl) (by kernel_rfl)) rfl), ?_⟩
  refine ⟨isCells [intC (maxI x y)], RStep.of grows_pre (stable_cells _) (by kernel_rfl) (by intro w hbw; exact step_int1 23 3 (.tmp 22) (maxI x y) iint (by kernel_rfl) (wanted_none (by kernel_rfl)) (knows_new (V := isVal (.int .i64 (maxI x y))) 22 9 (by kernel_rfl) (by kernel_rfl) (by kernel_rfl)) Tryz.underlying23 hiint hzint hsint), ?_⟩
  intro a w hk0 hb0 hd
  have hb : Below w0.heap.size w0 w := hb0
  have d13 := fdone_of (rdone_f (hd 0 (by decide))) (t := 13) (V := isVal v0) (by kernel_rfl) (by kernel_rfl)
  have d23 := fdone_of (rdone_f (hd 10 (by decide))) (t := 23) (V := isCells [intC (maxI x y)]) (by kernel_rfl) (by kernel_rfl)
  obtain ⟨bb, off, cap, hs23, hlt, hc⟩ := d23.some_ (by simp)
  have hown2 := ownsRow_grow hown hb
  have h24 : 24 < a.tmps.size := by rw [hk0.2.1, hsz]; decide
  refine tail_op (fun _ _ => True) (OP := .call { callee := .builtin .append, args := #[.tmp 13, .tmp 23], argTypes := #[23, 23] }) (by kernel_rfl) (fun o ho e => ?_)
  have hdst : o.dst = some 24 := by have : (mostOps[11]?).map (·.dst) = some (some 24) := by kernel_rfl
                                    rw [ho] at this; simpa using this
  refine wp_append_own _ (.tmp 13) (.tmp 23) 23 e B 3 iint (.int .i64 0) 1 8 Tryz.underlying23 hiint hzint hsint hbint rfl (by decide) v0 xs.length (xs.map intC) d13 hown2 ⟨bb, off, none⟩ 1 cap [intC (maxI x y)] hs23 rfl (fun j u hu => ?_) (fun u hu => by simp at hu; subst hu; rfl) (by unfold maxLen; omega) (by omega) (Nat.le_trans hBs hb.size) (fun v' w1 ho1 hgr _ => ?_)
  · have := hc j u hu
    by_cases e0 : j = 0
    · subst e0; simpa [Addr.add] using this
    · simpa [Addr.add, e0] using this
  rw [hdst]
  have hB1 : Below B w0 w1 := (hb.mono hBs).trans ((Below.refl B w).grown hgr (Nat.le_trans hBs hb.size) (ownsRow_at hown2))
  refine tail_op (fun _ _ => True) (OP := .assign (.tmp 24)) (by kernel_rfl) (fun o2 ho2 e2 => ?_)
  have hdst2 : o2.dst = some 5 := by have : (mostOps[12]?).map (·.dst) = some (some 5) := by kernel_rfl
                                     rw [ho2] at this; simpa using this
  have e24 : (a.put (some 24) v').tmps.getD 24 undef = v' := getD_put_self h24
  unfold Oper.wp execOp
  rw [e2]
  simp only [Oper.upon, Sem.run_pure, hdst2]
  show Tail Tryz.prog mostOps Q 0 13 (((a.put (some 24) v')).put (some 5) ((a.put (some 24) v').tmps.getD 24 undef)) w1
  rw [e24]
  have h5 : 5 < (a.put (some 24) v').tmps.size := by rw [size_put, hk0.2.1, hsz]; decide
  have f5 : ((a.put (some 24) v').put (some 5) v').tmps.getD 5 undef = v' := getD_put_self h5
  have f24 : ((a.put (some 24) v').put (some 5) v').tmps.getD 24 undef = v' := (getD_put (by decide)).trans e24
  show Q .normal ((a.put (some 24) v').put (some 5) v') w1
  have key := act_of (a := (a.put (some 24) v').put (some 5) v') (a0 := a0) (by rw [defers_put, defers_put]; exact hk0.1) (by rw [size_put, size_put]; exact hk0.2.1) [13, 14, 15, 16, 17, 18, 19, 20, 21, 22, 23, 24, 5] (fun t ht => by
    have n1 : t ≠ 5 := by rintro rfl; revert ht; decide
    have n2 : t ≠ 24 := by rintro rfl; revert ht; decide
    rw [getD_put n1, getD_put n2]
    refine hk0.2.2 t ?_
    have e13 : ((List.range 11).all fun i => (mostOps[i]?).all fun o => o.dst != some t) = ([13, 14, 15, 16, 17, 18, 19, 20, 21, 22, 23].all fun d => some d != some t) := by kernel_rfl
    rw [e13, List.all_eq_true]
    intro d hd'
    simp only [bne_iff_ne, ne_eq, Option.some.injEq]
    rintro rfl
    rw [List.contains_eq_mem] at ht
    simp only [decide_eq_false_iff_not] at ht
    exact ht (by simp only [List.mem_cons, List.not_mem_nil, or_false] at hd' ⊢; omega))
  rw [key]
  refine hQ (fun s => ((a.put (some 24) v').put (some 5) v').tmps.getD s undef) w1 (f5.trans f24.symm) ?_ hB1
  show w1.ownsRow B 3 1 (((a.put (some 24) v').put (some 5) v').tmps.getD 24 undef) _ _
  rw [f24]
  simpa using ho1
end Go.Proofs.YtbgconagkgfplaaGreat
end
section
namespace Go.Proofs.YtbgconagkgfplaaGreat
open Go.RowKit
set_option linter.unusedVariables false
set_option linter.unusedSimpArgs false

theorem zip_take (l m : List Int) (k : Nat) (h1 : k < l.length) (h2 : k < m.length) : (List.zipWith maxI l m).take (k + 1) = (List.zipWith maxI l m).take k ++ [maxI l[k] m[k]] := by
  rw [List.take_succ_eq_append_getElem (by rw [List.length_zipWith]; omega), List.getElem_zipWith]
set_option maxRecDepth 100000 in
set_option maxHeartbeats 2000000 in
theorem most_any (l m : List Int) (v u : Value) (w : World) (hv : isCells (l.map intC) v w) (hu : isCells (m.map intC) u w) (hlm : l.length = m.length) (hl : l.length ≤ 1000000) :
    Calls Tryz.prog 138 #[v, u] w fun e w' => ∃ v', e = .returned v' ∧ isOwn w.heap.size 3 ((List.zipWith maxI l m).map intC) v' w' ∧ Below w.heap.size w w' := by
  by_cases h0 : l.length = 0
  · obtain rfl : l = [] := List.eq_nil_of_length_eq_zero h0
    obtain ⟨a, cap, rfl⟩ := hv.len
    obtain ⟨b, cap2, rfl⟩ := hu.len
    clear hv hu
    simp only [List.map_nil, List.length_nil]
    go_enter Tryz.func138, Tryz.ntmps138
    go_wp2
    go_loop [5, 6] (fun c i => c = .slice none 0 0 ∧ i = .int .i64 0) (fun _ _ => 0)
    case atStart => exact ⟨rfl, rfl⟩
    case round =>
      obtain ⟨rfl, rfl⟩ := hrel
      go_wp2
      go_ret
      exact ⟨_, rfl, World.ownsRow_nil _ _ _ _, Below.refl _ _⟩
  · obtain ⟨b1, o1, c1, hv', l1, hc1⟩ := hv.some_ (by rw [List.length_map]; omega)
    obtain ⟨b2, o2, c2, hu', l2, hc2⟩ := hu.some_ (by rw [List.length_map]; omega)
    rw [List.length_map] at hv' hu'
    rw [← hlm] at hu'
    subst hv' hu'
    have HZ := Kept.mk (show (List.zipWith maxI l m).length = l.length by rw [List.length_zipWith]; omega)
    have HLM := Kept.mk hlm
    have HC1 := Kept.mk hc1
    have HC2 := Kept.mk hc2
    obtain ⟨n, hn⟩ : ∃ n, n = l.length := ⟨_, rfl⟩
    have HN := Kept.mk hn
    rw [← hn] at hl h0 ⊢
    clear hv hu hlm hc1 hc2 hn
    go_enter Tryz.func138, Tryz.ntmps138
    go_wp2
    go_loopw [5, 6] (fun c i wr => ∃ k : Nat, k ≤ n ∧ i = .int .i64 (k : Int) ∧ Kept (wr.ownsRow w.heap.size 3 1 c ((List.zipWith maxI l m).take k).length (((List.zipWith maxI l m).take k).map intC)) ∧ Kept (Below w.heap.size w wr)) (fun _ i _ => n - (intOf i).toNat)
    case atStart => exact ⟨0, Nat.zero_le _, rfl, ⟨World.ownsRow_nil _ _ _ _⟩, ⟨Below.refl _ _⟩⟩
    case round =>
      obtain ⟨k, hk, rfl, HO, HB⟩ := hrel
      by_cases hlt : k < n
      · have d1 : decide ((k : Int) < (n : Int)) = true := by simpa using hlt
        have hkl : k < l.length := by rw [← HN.out]; exact hlt
        have hkm : k < m.length := by rw [← HLM.out]; exact hkl
        have HT := Kept.mk (zip_take l m k hkl hkm)
        have P1 := Kept.mk ((HB.out.cell (p := ⟨b1, o1 + k, none⟩) l1).trans (HC1.out k _ (get_map intC l k hkl)))
        have P2 := Kept.mk ((HB.out.cell (p := ⟨b2, o2 + k, none⟩) l2).trans (HC2.out k _ (get_map intC m k hkm)))
        have HLT := Kept.mk (show ((List.zipWith maxI l m).take k).length ≤ 1000000 by rw [List.length_take]; omega)
        generalize (List.zipWith maxI l m).take k = xs at *
        go_wp2_with fail
        refine most_region _ _ _ rfl w.heap.size _ xs b1 o1 c1 b2 o2 c2 n k l[k] m[k] rfl rfl rfl rfl hlt P1.out (Nat.lt_of_lt_of_le l1 HB.out.size) P2.out (Nat.lt_of_lt_of_le l2 HB.out.size) HO.out HLT.out HB.out.size ?_
        intro f9 W9 h5 ho hb9
        simp only [List.foldl_cons, List.foldl_nil, h5]
        generalize f9 13 = y13
        generalize f9 14 = y14
        generalize f9 15 = y15
        generalize f9 16 = y16
        generalize f9 17 = y17
        generalize f9 18 = y18
        generalize f9 19 = y19
        generalize f9 20 = y20
        generalize f9 21 = y21
        generalize f9 22 = y22
        generalize f9 23 = y23
        generalize f9 24 = y24 at ho ⊢
        clear h5
        simp only [List.setIfInBounds_toArray, List.set_cons_succ, List.set_cons_zero]
        have HO9 := Kept.mk ho
        rw [← HT.out] at HO9
        have HB9 := Kept.mk (HB.out.trans hb9)
        clear ho hb9 HO HB P1 P2
        go_wp2
        go_roundw
        case rel => exact ⟨k + 1, by omega, by go_num, HO9, HB9⟩
        case measure => simp [intOf]; omega
      · have d1 : decide ((k : Int) < (n : Int)) = false := by simp; omega
        have HE := Kept.mk (show (List.zipWith maxI l m).take k = List.zipWith maxI l m by rw [List.take_of_length_le]; rw [HZ.out, ← HN.out]; omega)
        rw [HE.out] at HO
        go_wp2
        go_ret
        refine ⟨_, rfl, ?_, HB.out⟩
        unfold isOwn
        rw [List.length_map]
        exact HO.out
end Go.Proofs.YtbgconagkgfplaaGreat
end
section
namespace Go.Proofs.YtbgconagkgfplaaGreat
open Go.RowKit
set_option linter.unusedVariables false
set_option linter.unusedSimpArgs false
attribute [local irreducible] setN

/-- A value whose rows, if it has any, are new. -/
def isVaR (B : Nat) (A : Va) : VP := fun v w => ∃ vp vm, v = .agg #[.int .i64 A.kind, .int .i64 A.time, .int .i64 A.node, .bool A.dead, .string ⟨A.text.toArray⟩, vp, vm, .int .u64 (A.flags.toNat : Int)] ∧ isCells (A.plus.map intC) vp w ∧ isCells (A.minus.map intC) vm w ∧ (A.plus ≠ [] → NewB B vp) ∧ (A.minus ≠ [] → NewB B vm)
theorem va_mk {A : Va} {vp vm : Value} {w : World} (hp : isCells (A.plus.map intC) vp w) (hm : isCells (A.minus.map intC) vm w) : isVa A (.agg #[.int .i64 A.kind, .int .i64 A.time, .int .i64 A.node, .bool A.dead, .string ⟨A.text.toArray⟩, vp, vm, .int .u64 (A.flags.toNat : Int)]) w := ⟨vp, vm, rfl, hp, hm⟩
theorem cells_up {cs : List Value} {v : Value} {w w' : World} (h : isCells cs v w) (hb : Below w.heap.size w w') : isCells cs v w' := stable_cells _ _ _ _ h hb
theorem vset2 {B g : Nat} {w0 w : World} (A : Va) (vp vm : Value) (hB : B ≤ g) (hb : Below B w0 w) {old : List Value} (hc : CellsN w g old) (h8 : old.length = 8) (hp : isCells (A.plus.map intC) vp w) (hm : isCells (A.minus.map intC) vm w) (np : A.plus ≠ [] → blk vp ≠ some g) (nm : A.minus ≠ [] → blk vm ≠ some g) :
    Kept (Below B w0 (setN w g 0 [.int .i64 A.kind, .int .i64 A.time, .int .i64 A.node, .bool A.dead, .string ⟨A.text.toArray⟩, vp, vm, .int .u64 (A.flags.toNat : Int)])) ∧ Kept (VarE (setN w g 0 [.int .i64 A.kind, .int .i64 A.time, .int .i64 A.node, .bool A.dead, .string ⟨A.text.toArray⟩, vp, vm, .int .u64 (A.flags.toNat : Int)]) g A vp vm) ∧ Kept (Ones [.int .i64 A.kind, .int .i64 A.time, .int .i64 A.node, .bool A.dead, .string ⟨A.text.toArray⟩, vp, vm, .int .u64 (A.flags.toNat : Int)]) := by
  have ap : ∀ (v : Value) (l : List Int), (l ≠ [] → blk v ≠ some g) → ∀ b off cap, v = .slice (some ⟨b, off, none⟩) (l.map intC).length cap → l.map intC ≠ [] → b ≠ g := by
    rintro v l h b off cap rfl hne rfl
    exact h (fun e => hne (by rw [e]; rfl)) rfl
  exact ⟨⟨below_setN hB _ 0 _ hb⟩, ⟨⟨hc.setN_ _ h8, cells_apart hp (ap vp _ np) _ _, cells_apart hm (ap vm _ nm) _ _⟩⟩, ⟨⟨rfl, rfl, rfl, rfl, rfl, hp.one, hm.one, rfl, trivial⟩⟩⟩
theorem CellsN.setAt {w : World} {g : Nat} {l : List Value} (h : CellsN w g l) (k : Nat) (v : Value) (hk : k < l.length) : CellsN (w.setCell ⟨g, k, none⟩ v) g (l.set k v) := by
  refine ⟨by rw [World.size_setCell]; exact h.1, fun j x hx => ?_⟩
  by_cases e : k = j
  · subst e
    rw [List.getElem?_set_self hk] at hx
    injection hx with hx
    subst hx
    exact World.cell?_setCell_same w _ _ (h.2 k _ (List.getElem?_eq_getElem hk))
  · rw [List.getElem?_set_ne e] at hx
    rw [World.cell?_setCell_other w _ _ _ (by intro hh; injection hh; omega)]
    exact h.2 j x hx
theorem CellsN.setOther {w : World} {g b : Nat} {l : List Value} (h : CellsN w g l) (hne : g ≠ b) (k : Nat) (v : Value) : CellsN (w.setCell ⟨b, k, none⟩ v) g l :=
  ⟨by rw [World.size_setCell]; exact h.1, fun j x hx => (World.cell?_setCell_other w _ _ _ (by intro e; injection e; omega)).trans (h.2 j x hx)⟩
def mergeV (A B : Va) : Va := ⟨A.kind, A.time, A.node, A.dead, A.text, List.zipWith maxI A.plus B.plus, List.zipWith maxI A.minus B.minus, A.flags ||| B.flags⟩
theorem merge_join {A B : Va} (h : joinE A B = 0) (k : A.kind ≠ 1) : joinF A B = mergeV A B ∧ A.plus.length = B.plus.length ∧ A.minus.length = B.minus.length := by
  obtain ⟨hA, hB, hk⟩ := joinE_zero.1 h
  rw [joinF_ok h]
  rcases ok_kind hA with k1 | k2 | k3
  · exact absurd k1 k
  · obtain ⟨a1, a2⟩ := ok_count hA k2
    obtain ⟨b1, b2⟩ := ok_count hB (by omega)
    unfold inCount at a1 b1
    rw [Bool.and_eq_true] at a1 b1
    rw [joinV_count k2]
    refine ⟨?_, by rw [okRow_len a1.1, okRow_len b1.1], by rw [okRow_len a1.2, okRow_len b1.2]⟩
    have e1 : A.time = 0 := congrArg Va.time a2
    have e2 : A.node = 0 := congrArg Va.node a2
    have e3 : A.flags = 0 := congrArg Va.flags a2
    have e4 : A.dead = false := congrArg Va.dead a2
    have e5 : A.text = [] := congrArg Va.text a2
    have e6 : B.flags = 0 := congrArg Va.flags b2
    unfold joinCount mergeV
    rw [k2, e1, e2, e3, e4, e5, e6]
    rfl
  · have a2 := ok_flags hA k3
    have b2 := ok_flags hB (by omega)
    have e1 : A.time = 0 := congrArg Va.time a2
    have e2 : A.node = 0 := congrArg Va.node a2
    have e4 : A.dead = false := congrArg Va.dead a2
    have e5 : A.text = [] := congrArg Va.text a2
    have e6 : A.plus = [] := congrArg Va.plus a2
    have e7 : A.minus = [] := congrArg Va.minus a2
    have f6 : B.plus = [] := congrArg Va.plus b2
    have f7 : B.minus = [] := congrArg Va.minus b2
    rw [joinV_flags k3]
    refine ⟨?_, by rw [e6, f6], by rw [e7, f7]⟩
    unfold joinFlags mergeV
    rw [k3, e1, e2, e4, e5, e6, e7]
    rfl
set_option maxRecDepth 20000 in
set_option maxHeartbeats 2000000 in
theorem rjoin_no1 (A B : Va) (v u : Value) (w : World) (hv : isVa A v w) (hu : isVa B u w) (hA : Fit A) (hC : Fit B) (h : okV A = false) :
    Calls Tryz.prog 131 #[v, u] w fun e w' => ∃ v', e = .returned (.tuple #[v', .int .i64 2]) ∧ isVaR w.heap.size zeroV v' w' ∧ Below w.heap.size w w' := by
  obtain ⟨vp, vm, rfl, hp, hm⟩ := hv
  obtain ⟨up, um, rfl, gp, gm⟩ := hu
  have hB1 := lit_below w (.cells #[.int .i64 A.kind, .int .i64 A.time, .int .i64 A.node, .bool A.dead, .string ⟨A.text.toArray⟩, vp, vm, .int .u64 (A.flags.toNat : Int)] 28)
  have hB2 := lit_below (w.alloc (.cells #[.int .i64 A.kind, .int .i64 A.time, .int .i64 A.node, .bool A.dead, .string ⟨A.text.toArray⟩, vp, vm, .int .u64 (A.flags.toNat : Int)] 28)) (.cells #[.int .i64 B.kind, .int .i64 B.time, .int .i64 B.node, .bool B.dead, .string ⟨B.text.toArray⟩, up, um, .int .u64 (B.flags.toNat : Int)] 28)
  have hB3 := lit_below ((w.alloc (.cells #[.int .i64 A.kind, .int .i64 A.time, .int .i64 A.node, .bool A.dead, .string ⟨A.text.toArray⟩, vp, vm, .int .u64 (A.flags.toNat : Int)] 28)).alloc (.cells #[.int .i64 B.kind, .int .i64 B.time, .int .i64 B.node, .bool B.dead, .string ⟨B.text.toArray⟩, up, um, .int .u64 (B.flags.toNat : Int)] 28)) (.cells #[.int .i64 0, .int .i64 0, .int .i64 0, .bool false, .string ⟨#[]⟩, .slice none 0 0, .slice none 0 0, .int .u64 0] 28)
  have hB := Kept.mk ((hB1.trans (hB2.mono hB1.size)).trans (hB3.mono (hB1.trans (hB2.mono hB1.size)).size))
  have CA := Kept.mk (((cellsN_at w 28 [.int .i64 A.kind, .int .i64 A.time, .int .i64 A.node, .bool A.dead, .string ⟨A.text.toArray⟩, vp, vm, .int .u64 (A.flags.toNat : Int)] w.heap.size rfl).keep hB2 (by simp)).keep hB3 (by simp <;> omega))
  have CB := Kept.mk ((cellsN_at (w.alloc (.cells #[.int .i64 A.kind, .int .i64 A.time, .int .i64 A.node, .bool A.dead, .string ⟨A.text.toArray⟩, vp, vm, .int .u64 (A.flags.toNat : Int)] 28)) 28 [.int .i64 B.kind, .int .i64 B.time, .int .i64 B.node, .bool B.dead, .string ⟨B.text.toArray⟩, up, um, .int .u64 (B.flags.toNat : Int)] (w.heap.size + 1) (by simp)).keep hB3 (by simp))
  have HZ := Kept.mk (cellsN_at ((w.alloc (.cells #[.int .i64 A.kind, .int .i64 A.time, .int .i64 A.node, .bool A.dead, .string ⟨A.text.toArray⟩, vp, vm, .int .u64 (A.flags.toNat : Int)] 28)).alloc (.cells #[.int .i64 B.kind, .int .i64 B.time, .int .i64 B.node, .bool B.dead, .string ⟨B.text.toArray⟩, up, um, .int .u64 (B.flags.toNat : Int)] 28)) 28 [.int .i64 0, .int .i64 0, .int .i64 0, .bool false, .string ⟨#[]⟩, .slice none 0 0, .slice none 0 0, .int .u64 0] (w.heap.size + 2) (by simp))
  have FA := Kept.mk (((free5_at w #[.int .i64 A.kind, .int .i64 A.time, .int .i64 A.node, .bool A.dead, .string ⟨A.text.toArray⟩, vp, vm, .int .u64 (A.flags.toNat : Int)] 28 w.heap.size rfl).keep hB2 (by simp)).keep hB3 (by simp <;> omega))
  have HF := Kept.mk (free5_at ((w.alloc (.cells #[.int .i64 A.kind, .int .i64 A.time, .int .i64 A.node, .bool A.dead, .string ⟨A.text.toArray⟩, vp, vm, .int .u64 (A.flags.toNat : Int)] 28)).alloc (.cells #[.int .i64 B.kind, .int .i64 B.time, .int .i64 B.node, .bool B.dead, .string ⟨B.text.toArray⟩, up, um, .int .u64 (B.flags.toNat : Int)] 28)) #[.int .i64 0, .int .i64 0, .int .i64 0, .bool false, .string ⟨#[]⟩, .slice none 0 0, .slice none 0 0, .int .u64 0] 28 (w.heap.size + 2) (by simp))
  have hs : Kept ((((w.alloc (.cells #[.int .i64 A.kind, .int .i64 A.time, .int .i64 A.node, .bool A.dead, .string ⟨A.text.toArray⟩, vp, vm, .int .u64 (A.flags.toNat : Int)] 28)).alloc (.cells #[.int .i64 B.kind, .int .i64 B.time, .int .i64 B.node, .bool B.dead, .string ⟨B.text.toArray⟩, up, um, .int .u64 (B.flags.toNat : Int)] 28)).alloc (.cells #[.int .i64 0, .int .i64 0, .int .i64 0, .bool false, .string ⟨#[]⟩, .slice none 0 0, .slice none 0 0, .int .u64 0] 28)).heap.size = w.heap.size + 3) := ⟨by simp⟩
  have HP := Kept.mk hp
  have HM := Kept.mk hm
  have GP := Kept.mk gp
  have GM := Kept.mk gm
  clear hp hm gp gm hB1 hB2 hB3
  have HO := Kept.mk h
  clear h
  go_enter Tryz.func131, Tryz.ntmps131
  go_wp2_with fail
  generalize ((w.alloc (.cells #[.int .i64 A.kind, .int .i64 A.time, .int .i64 A.node, .bool A.dead, .string ⟨A.text.toArray⟩, vp, vm, .int .u64 (A.flags.toNat : Int)] 28)).alloc (.cells #[.int .i64 B.kind, .int .i64 B.time, .int .i64 B.node, .bool B.dead, .string ⟨B.text.toArray⟩, up, um, .int .u64 (B.flags.toNat : Int)] 28)).alloc (.cells #[.int .i64 0, .int .i64 0, .int .i64 0, .bool false, .string ⟨#[]⟩, .slice none 0 0, .slice none 0 0, .int .u64 0] 28) = W0 at *
  replace hs := Kept.mk (Nat.le_of_eq hs.out.symm)
  ((with_reducible refine (rcheck_any A _ _ (show isVa A (.agg #[.int .i64 A.kind, .int .i64 A.time, .int .i64 A.node, .bool A.dead, .string ⟨A.text.toArray⟩, vp, vm, .int .u64 (A.flags.toNat : Int)]) W0 from va_mk (cells_up HP.out hB.out) (cells_up HM.out hB.out)) hA).mono ?_); rintro e w1 ⟨rfl, hb1⟩)
  have hgA := CA.out.1
  replace FA := Kept.mk (FA.out.keep hb1 (Nat.lt_of_lt_of_le (by show w.heap.size < _; exact hgA) (Nat.le_refl _)))
  replace HF := Kept.mk (HF.out.keep hb1 HZ.out.1)
  replace CA := Kept.mk (CA.out.keep hb1 CA.out.1)
  replace CB := Kept.mk (CB.out.keep hb1 CB.out.1)
  replace HZ := Kept.mk (HZ.out.keep hb1 HZ.out.1)
  replace hB := Kept.mk (hB.out.trans (hb1.mono hB.out.size))
  replace hs := Kept.mk (Nat.le_trans hs.out hb1.size)
  clear hb1 hgA
  rewrite [HO.out]
  obtain ⟨hBK, K4, K5⟩ := vset zeroV (.slice none 0 0) (.slice none 0 0) (g := w.heap.size + 2) (by omega) hB.out HZ.out rfl (.inl ⟨rfl, rfl⟩) (.inl ⟨rfl, rfl⟩) (by intro h; cases h) (by intro h; cases h)
  have NP1 : Kept (zeroV.plus ≠ [] → NewB w.heap.size (.slice none 0 0)) := ⟨fun h => absurd rfl h⟩
  have NM1 : Kept (zeroV.minus ≠ [] → NewB w.heap.size (.slice none 0 0)) := ⟨fun h => absurd rfl h⟩
  obtain ⟨hc', hp', hm'⟩ := K4.out
  clear K4
  go_wp2_with (have hz0 := K5; refine wpList_storeN 28 rfl (.tmp 4) (.tmp 14) rfl (w.heap.size + 2) [.int .i64 0, .int .i64 0, .int .i64 0, .bool false, .string ⟨#[]⟩, .slice none 0 0, .slice none 0 0, .int .u64 0] size_va rfl rfl HZ.out rfl HF.out K5.out ?_; clear hz0 K5)
  exact bodyPost_ret (resultsN2 rfl _ _ (w.heap.size + 2) _ (.int .i64 2) size_va agg_va rfl rfl hc') rfl ⟨_, rfl, ⟨(.slice none 0 0), (.slice none 0 0), rfl, hp', hm', NP1.out, NM1.out⟩, hBK.out⟩
set_option maxRecDepth 20000 in
set_option maxHeartbeats 2000000 in
theorem rjoin_no2 (A B : Va) (v u : Value) (w : World) (hv : isVa A v w) (hu : isVa B u w) (hA : Fit A) (hC : Fit B) (h : okV A = true) (h2 : okV B = false) :
    Calls Tryz.prog 131 #[v, u] w fun e w' => ∃ v', e = .returned (.tuple #[v', .int .i64 2]) ∧ isVaR w.heap.size zeroV v' w' ∧ Below w.heap.size w w' := by
  obtain ⟨vp, vm, rfl, hp, hm⟩ := hv
  obtain ⟨up, um, rfl, gp, gm⟩ := hu
  have hB1 := lit_below w (.cells #[.int .i64 A.kind, .int .i64 A.time, .int .i64 A.node, .bool A.dead, .string ⟨A.text.toArray⟩, vp, vm, .int .u64 (A.flags.toNat : Int)] 28)
  have hB2 := lit_below (w.alloc (.cells #[.int .i64 A.kind, .int .i64 A.time, .int .i64 A.node, .bool A.dead, .string ⟨A.text.toArray⟩, vp, vm, .int .u64 (A.flags.toNat : Int)] 28)) (.cells #[.int .i64 B.kind, .int .i64 B.time, .int .i64 B.node, .bool B.dead, .string ⟨B.text.toArray⟩, up, um, .int .u64 (B.flags.toNat : Int)] 28)
  have hB3 := lit_below ((w.alloc (.cells #[.int .i64 A.kind, .int .i64 A.time, .int .i64 A.node, .bool A.dead, .string ⟨A.text.toArray⟩, vp, vm, .int .u64 (A.flags.toNat : Int)] 28)).alloc (.cells #[.int .i64 B.kind, .int .i64 B.time, .int .i64 B.node, .bool B.dead, .string ⟨B.text.toArray⟩, up, um, .int .u64 (B.flags.toNat : Int)] 28)) (.cells #[.int .i64 0, .int .i64 0, .int .i64 0, .bool false, .string ⟨#[]⟩, .slice none 0 0, .slice none 0 0, .int .u64 0] 28)
  have hB := Kept.mk ((hB1.trans (hB2.mono hB1.size)).trans (hB3.mono (hB1.trans (hB2.mono hB1.size)).size))
  have CA := Kept.mk (((cellsN_at w 28 [.int .i64 A.kind, .int .i64 A.time, .int .i64 A.node, .bool A.dead, .string ⟨A.text.toArray⟩, vp, vm, .int .u64 (A.flags.toNat : Int)] w.heap.size rfl).keep hB2 (by simp)).keep hB3 (by simp <;> omega))
  have CB := Kept.mk ((cellsN_at (w.alloc (.cells #[.int .i64 A.kind, .int .i64 A.time, .int .i64 A.node, .bool A.dead, .string ⟨A.text.toArray⟩, vp, vm, .int .u64 (A.flags.toNat : Int)] 28)) 28 [.int .i64 B.kind, .int .i64 B.time, .int .i64 B.node, .bool B.dead, .string ⟨B.text.toArray⟩, up, um, .int .u64 (B.flags.toNat : Int)] (w.heap.size + 1) (by simp)).keep hB3 (by simp))
  have HZ := Kept.mk (cellsN_at ((w.alloc (.cells #[.int .i64 A.kind, .int .i64 A.time, .int .i64 A.node, .bool A.dead, .string ⟨A.text.toArray⟩, vp, vm, .int .u64 (A.flags.toNat : Int)] 28)).alloc (.cells #[.int .i64 B.kind, .int .i64 B.time, .int .i64 B.node, .bool B.dead, .string ⟨B.text.toArray⟩, up, um, .int .u64 (B.flags.toNat : Int)] 28)) 28 [.int .i64 0, .int .i64 0, .int .i64 0, .bool false, .string ⟨#[]⟩, .slice none 0 0, .slice none 0 0, .int .u64 0] (w.heap.size + 2) (by simp))
  have FA := Kept.mk (((free5_at w #[.int .i64 A.kind, .int .i64 A.time, .int .i64 A.node, .bool A.dead, .string ⟨A.text.toArray⟩, vp, vm, .int .u64 (A.flags.toNat : Int)] 28 w.heap.size rfl).keep hB2 (by simp)).keep hB3 (by simp <;> omega))
  have HF := Kept.mk (free5_at ((w.alloc (.cells #[.int .i64 A.kind, .int .i64 A.time, .int .i64 A.node, .bool A.dead, .string ⟨A.text.toArray⟩, vp, vm, .int .u64 (A.flags.toNat : Int)] 28)).alloc (.cells #[.int .i64 B.kind, .int .i64 B.time, .int .i64 B.node, .bool B.dead, .string ⟨B.text.toArray⟩, up, um, .int .u64 (B.flags.toNat : Int)] 28)) #[.int .i64 0, .int .i64 0, .int .i64 0, .bool false, .string ⟨#[]⟩, .slice none 0 0, .slice none 0 0, .int .u64 0] 28 (w.heap.size + 2) (by simp))
  have hs : Kept ((((w.alloc (.cells #[.int .i64 A.kind, .int .i64 A.time, .int .i64 A.node, .bool A.dead, .string ⟨A.text.toArray⟩, vp, vm, .int .u64 (A.flags.toNat : Int)] 28)).alloc (.cells #[.int .i64 B.kind, .int .i64 B.time, .int .i64 B.node, .bool B.dead, .string ⟨B.text.toArray⟩, up, um, .int .u64 (B.flags.toNat : Int)] 28)).alloc (.cells #[.int .i64 0, .int .i64 0, .int .i64 0, .bool false, .string ⟨#[]⟩, .slice none 0 0, .slice none 0 0, .int .u64 0] 28)).heap.size = w.heap.size + 3) := ⟨by simp⟩
  have HP := Kept.mk hp
  have HM := Kept.mk hm
  have GP := Kept.mk gp
  have GM := Kept.mk gm
  clear hp hm gp gm hB1 hB2 hB3
  have HO := Kept.mk h
  have HO2 := Kept.mk h2
  clear h h2
  go_enter Tryz.func131, Tryz.ntmps131
  go_wp2_with fail
  generalize ((w.alloc (.cells #[.int .i64 A.kind, .int .i64 A.time, .int .i64 A.node, .bool A.dead, .string ⟨A.text.toArray⟩, vp, vm, .int .u64 (A.flags.toNat : Int)] 28)).alloc (.cells #[.int .i64 B.kind, .int .i64 B.time, .int .i64 B.node, .bool B.dead, .string ⟨B.text.toArray⟩, up, um, .int .u64 (B.flags.toNat : Int)] 28)).alloc (.cells #[.int .i64 0, .int .i64 0, .int .i64 0, .bool false, .string ⟨#[]⟩, .slice none 0 0, .slice none 0 0, .int .u64 0] 28) = W0 at *
  replace hs := Kept.mk (Nat.le_of_eq hs.out.symm)
  ((with_reducible refine (rcheck_any A _ _ (show isVa A (.agg #[.int .i64 A.kind, .int .i64 A.time, .int .i64 A.node, .bool A.dead, .string ⟨A.text.toArray⟩, vp, vm, .int .u64 (A.flags.toNat : Int)]) W0 from va_mk (cells_up HP.out hB.out) (cells_up HM.out hB.out)) hA).mono ?_); rintro e w1 ⟨rfl, hb1⟩)
  have hgA := CA.out.1
  replace FA := Kept.mk (FA.out.keep hb1 (Nat.lt_of_lt_of_le (by show w.heap.size < _; exact hgA) (Nat.le_refl _)))
  replace HF := Kept.mk (HF.out.keep hb1 HZ.out.1)
  replace CA := Kept.mk (CA.out.keep hb1 CA.out.1)
  replace CB := Kept.mk (CB.out.keep hb1 CB.out.1)
  replace HZ := Kept.mk (HZ.out.keep hb1 HZ.out.1)
  replace hB := Kept.mk (hB.out.trans (hb1.mono hB.out.size))
  replace hs := Kept.mk (Nat.le_trans hs.out hb1.size)
  clear hb1 hgA
  rewrite [HO.out]
  have kb0 := CB.out.2 0 _ rfl
  have kb1 := CB.out.2 1 _ rfl
  have kb2 := CB.out.2 2 _ rfl
  have kb3 := CB.out.2 3 _ rfl
  have kb4 := CB.out.2 4 _ rfl
  have kb5 := CB.out.2 5 _ rfl
  have kb6 := CB.out.2 6 _ rfl
  have kb7 := CB.out.2 7 _ rfl
  go_wp2_with fail
  ((with_reducible refine (rcheck_any B _ _ (show isVa B (.agg #[.int .i64 B.kind, .int .i64 B.time, .int .i64 B.node, .bool B.dead, .string ⟨B.text.toArray⟩, up, um, .int .u64 (B.flags.toNat : Int)]) w1 from va_mk (cells_up GP.out hB.out) (cells_up GM.out hB.out)) hC).mono ?_); rintro e w2 ⟨rfl, hb1⟩)
  clear kb0 kb1 kb2 kb3 kb4 kb5 kb6 kb7
  have hgA := CA.out.1
  replace FA := Kept.mk (FA.out.keep hb1 (Nat.lt_of_lt_of_le (by show w.heap.size < _; exact hgA) (Nat.le_refl _)))
  replace HF := Kept.mk (HF.out.keep hb1 HZ.out.1)
  replace CA := Kept.mk (CA.out.keep hb1 CA.out.1)
  replace CB := Kept.mk (CB.out.keep hb1 CB.out.1)
  replace HZ := Kept.mk (HZ.out.keep hb1 HZ.out.1)
  replace hB := Kept.mk (hB.out.trans (hb1.mono hB.out.size))
  replace hs := Kept.mk (Nat.le_trans hs.out hb1.size)
  clear hb1 hgA
  rewrite [HO2.out]
  obtain ⟨hBK, K4, K5⟩ := vset zeroV (.slice none 0 0) (.slice none 0 0) (g := w.heap.size + 2) (by omega) hB.out HZ.out rfl (.inl ⟨rfl, rfl⟩) (.inl ⟨rfl, rfl⟩) (by intro h; cases h) (by intro h; cases h)
  have NP1 : Kept (zeroV.plus ≠ [] → NewB w.heap.size (.slice none 0 0)) := ⟨fun h => absurd rfl h⟩
  have NM1 : Kept (zeroV.minus ≠ [] → NewB w.heap.size (.slice none 0 0)) := ⟨fun h => absurd rfl h⟩
  obtain ⟨hc', hp', hm'⟩ := K4.out
  clear K4
  go_wp2_with (have hz0 := K5; refine wpList_storeN 28 rfl (.tmp 4) (.tmp 14) rfl (w.heap.size + 2) [.int .i64 0, .int .i64 0, .int .i64 0, .bool false, .string ⟨#[]⟩, .slice none 0 0, .slice none 0 0, .int .u64 0] size_va rfl rfl HZ.out rfl HF.out K5.out ?_; clear hz0 K5)
  exact bodyPost_ret (resultsN2 rfl _ _ (w.heap.size + 2) _ (.int .i64 2) size_va agg_va rfl rfl hc') rfl ⟨_, rfl, ⟨(.slice none 0 0), (.slice none 0 0), rfl, hp', hm', NP1.out, NM1.out⟩, hBK.out⟩
set_option maxRecDepth 20000 in
set_option maxHeartbeats 2000000 in
theorem rjoin_no3 (A B : Va) (v u : Value) (w : World) (hv : isVa A v w) (hu : isVa B u w) (hA : Fit A) (hC : Fit B) (h : okV A = true) (h2 : okV B = true) (h3 : A.kind ≠ B.kind) :
    Calls Tryz.prog 131 #[v, u] w fun e w' => ∃ v', e = .returned (.tuple #[v', .int .i64 3]) ∧ isVaR w.heap.size zeroV v' w' ∧ Below w.heap.size w w' := by
  obtain ⟨vp, vm, rfl, hp, hm⟩ := hv
  obtain ⟨up, um, rfl, gp, gm⟩ := hu
  have hB1 := lit_below w (.cells #[.int .i64 A.kind, .int .i64 A.time, .int .i64 A.node, .bool A.dead, .string ⟨A.text.toArray⟩, vp, vm, .int .u64 (A.flags.toNat : Int)] 28)
  have hB2 := lit_below (w.alloc (.cells #[.int .i64 A.kind, .int .i64 A.time, .int .i64 A.node, .bool A.dead, .string ⟨A.text.toArray⟩, vp, vm, .int .u64 (A.flags.toNat : Int)] 28)) (.cells #[.int .i64 B.kind, .int .i64 B.time, .int .i64 B.node, .bool B.dead, .string ⟨B.text.toArray⟩, up, um, .int .u64 (B.flags.toNat : Int)] 28)
  have hB3 := lit_below ((w.alloc (.cells #[.int .i64 A.kind, .int .i64 A.time, .int .i64 A.node, .bool A.dead, .string ⟨A.text.toArray⟩, vp, vm, .int .u64 (A.flags.toNat : Int)] 28)).alloc (.cells #[.int .i64 B.kind, .int .i64 B.time, .int .i64 B.node, .bool B.dead, .string ⟨B.text.toArray⟩, up, um, .int .u64 (B.flags.toNat : Int)] 28)) (.cells #[.int .i64 0, .int .i64 0, .int .i64 0, .bool false, .string ⟨#[]⟩, .slice none 0 0, .slice none 0 0, .int .u64 0] 28)
  have hB := Kept.mk ((hB1.trans (hB2.mono hB1.size)).trans (hB3.mono (hB1.trans (hB2.mono hB1.size)).size))
  have CA := Kept.mk (((cellsN_at w 28 [.int .i64 A.kind, .int .i64 A.time, .int .i64 A.node, .bool A.dead, .string ⟨A.text.toArray⟩, vp, vm, .int .u64 (A.flags.toNat : Int)] w.heap.size rfl).keep hB2 (by simp)).keep hB3 (by simp <;> omega))
  have CB := Kept.mk ((cellsN_at (w.alloc (.cells #[.int .i64 A.kind, .int .i64 A.time, .int .i64 A.node, .bool A.dead, .string ⟨A.text.toArray⟩, vp, vm, .int .u64 (A.flags.toNat : Int)] 28)) 28 [.int .i64 B.kind, .int .i64 B.time, .int .i64 B.node, .bool B.dead, .string ⟨B.text.toArray⟩, up, um, .int .u64 (B.flags.toNat : Int)] (w.heap.size + 1) (by simp)).keep hB3 (by simp))
  have HZ := Kept.mk (cellsN_at ((w.alloc (.cells #[.int .i64 A.kind, .int .i64 A.time, .int .i64 A.node, .bool A.dead, .string ⟨A.text.toArray⟩, vp, vm, .int .u64 (A.flags.toNat : Int)] 28)).alloc (.cells #[.int .i64 B.kind, .int .i64 B.time, .int .i64 B.node, .bool B.dead, .string ⟨B.text.toArray⟩, up, um, .int .u64 (B.flags.toNat : Int)] 28)) 28 [.int .i64 0, .int .i64 0, .int .i64 0, .bool false, .string ⟨#[]⟩, .slice none 0 0, .slice none 0 0, .int .u64 0] (w.heap.size + 2) (by simp))
  have FA := Kept.mk (((free5_at w #[.int .i64 A.kind, .int .i64 A.time, .int .i64 A.node, .bool A.dead, .string ⟨A.text.toArray⟩, vp, vm, .int .u64 (A.flags.toNat : Int)] 28 w.heap.size rfl).keep hB2 (by simp)).keep hB3 (by simp <;> omega))
  have HF := Kept.mk (free5_at ((w.alloc (.cells #[.int .i64 A.kind, .int .i64 A.time, .int .i64 A.node, .bool A.dead, .string ⟨A.text.toArray⟩, vp, vm, .int .u64 (A.flags.toNat : Int)] 28)).alloc (.cells #[.int .i64 B.kind, .int .i64 B.time, .int .i64 B.node, .bool B.dead, .string ⟨B.text.toArray⟩, up, um, .int .u64 (B.flags.toNat : Int)] 28)) #[.int .i64 0, .int .i64 0, .int .i64 0, .bool false, .string ⟨#[]⟩, .slice none 0 0, .slice none 0 0, .int .u64 0] 28 (w.heap.size + 2) (by simp))
  have hs : Kept ((((w.alloc (.cells #[.int .i64 A.kind, .int .i64 A.time, .int .i64 A.node, .bool A.dead, .string ⟨A.text.toArray⟩, vp, vm, .int .u64 (A.flags.toNat : Int)] 28)).alloc (.cells #[.int .i64 B.kind, .int .i64 B.time, .int .i64 B.node, .bool B.dead, .string ⟨B.text.toArray⟩, up, um, .int .u64 (B.flags.toNat : Int)] 28)).alloc (.cells #[.int .i64 0, .int .i64 0, .int .i64 0, .bool false, .string ⟨#[]⟩, .slice none 0 0, .slice none 0 0, .int .u64 0] 28)).heap.size = w.heap.size + 3) := ⟨by simp⟩
  have HP := Kept.mk hp
  have HM := Kept.mk hm
  have GP := Kept.mk gp
  have GM := Kept.mk gm
  clear hp hm gp gm hB1 hB2 hB3
  have HO := Kept.mk h
  have HO2 := Kept.mk h2
  have d3 : (A.kind == B.kind) = false := by simpa using h3
  clear h h2 h3
  go_enter Tryz.func131, Tryz.ntmps131
  go_wp2_with fail
  generalize ((w.alloc (.cells #[.int .i64 A.kind, .int .i64 A.time, .int .i64 A.node, .bool A.dead, .string ⟨A.text.toArray⟩, vp, vm, .int .u64 (A.flags.toNat : Int)] 28)).alloc (.cells #[.int .i64 B.kind, .int .i64 B.time, .int .i64 B.node, .bool B.dead, .string ⟨B.text.toArray⟩, up, um, .int .u64 (B.flags.toNat : Int)] 28)).alloc (.cells #[.int .i64 0, .int .i64 0, .int .i64 0, .bool false, .string ⟨#[]⟩, .slice none 0 0, .slice none 0 0, .int .u64 0] 28) = W0 at *
  replace hs := Kept.mk (Nat.le_of_eq hs.out.symm)
  ((with_reducible refine (rcheck_any A _ _ (show isVa A (.agg #[.int .i64 A.kind, .int .i64 A.time, .int .i64 A.node, .bool A.dead, .string ⟨A.text.toArray⟩, vp, vm, .int .u64 (A.flags.toNat : Int)]) W0 from va_mk (cells_up HP.out hB.out) (cells_up HM.out hB.out)) hA).mono ?_); rintro e w1 ⟨rfl, hb1⟩)
  have hgA := CA.out.1
  replace FA := Kept.mk (FA.out.keep hb1 (Nat.lt_of_lt_of_le (by show w.heap.size < _; exact hgA) (Nat.le_refl _)))
  replace HF := Kept.mk (HF.out.keep hb1 HZ.out.1)
  replace CA := Kept.mk (CA.out.keep hb1 CA.out.1)
  replace CB := Kept.mk (CB.out.keep hb1 CB.out.1)
  replace HZ := Kept.mk (HZ.out.keep hb1 HZ.out.1)
  replace hB := Kept.mk (hB.out.trans (hb1.mono hB.out.size))
  replace hs := Kept.mk (Nat.le_trans hs.out hb1.size)
  clear hb1 hgA
  rewrite [HO.out]
  have kb0 := CB.out.2 0 _ rfl
  have kb1 := CB.out.2 1 _ rfl
  have kb2 := CB.out.2 2 _ rfl
  have kb3 := CB.out.2 3 _ rfl
  have kb4 := CB.out.2 4 _ rfl
  have kb5 := CB.out.2 5 _ rfl
  have kb6 := CB.out.2 6 _ rfl
  have kb7 := CB.out.2 7 _ rfl
  go_wp2_with fail
  ((with_reducible refine (rcheck_any B _ _ (show isVa B (.agg #[.int .i64 B.kind, .int .i64 B.time, .int .i64 B.node, .bool B.dead, .string ⟨B.text.toArray⟩, up, um, .int .u64 (B.flags.toNat : Int)]) w1 from va_mk (cells_up GP.out hB.out) (cells_up GM.out hB.out)) hC).mono ?_); rintro e w2 ⟨rfl, hb1⟩)
  clear kb0 kb1 kb2 kb3 kb4 kb5 kb6 kb7
  have hgA := CA.out.1
  replace FA := Kept.mk (FA.out.keep hb1 (Nat.lt_of_lt_of_le (by show w.heap.size < _; exact hgA) (Nat.le_refl _)))
  replace HF := Kept.mk (HF.out.keep hb1 HZ.out.1)
  replace CA := Kept.mk (CA.out.keep hb1 CA.out.1)
  replace CB := Kept.mk (CB.out.keep hb1 CB.out.1)
  replace HZ := Kept.mk (HZ.out.keep hb1 HZ.out.1)
  replace hB := Kept.mk (hB.out.trans (hb1.mono hB.out.size))
  replace hs := Kept.mk (Nat.le_trans hs.out hb1.size)
  clear hb1 hgA
  rewrite [HO2.out]
  obtain ⟨hBK, K4, K5⟩ := vset zeroV (.slice none 0 0) (.slice none 0 0) (g := w.heap.size + 2) (by omega) hB.out HZ.out rfl (.inl ⟨rfl, rfl⟩) (.inl ⟨rfl, rfl⟩) (by intro h; cases h) (by intro h; cases h)
  have ka0 := CA.out.2 0 _ rfl
  have kb0 := CB.out.2 0 _ rfl
  have NP1 : Kept (zeroV.plus ≠ [] → NewB w.heap.size (.slice none 0 0)) := ⟨fun h => absurd rfl h⟩
  have NM1 : Kept (zeroV.minus ≠ [] → NewB w.heap.size (.slice none 0 0)) := ⟨fun h => absurd rfl h⟩
  obtain ⟨hc', hp', hm'⟩ := K4.out
  clear K4
  go_wp2_with (have hz0 := K5; refine wpList_storeN 28 rfl (.tmp 4) (.tmp 20) rfl (w.heap.size + 2) [.int .i64 0, .int .i64 0, .int .i64 0, .bool false, .string ⟨#[]⟩, .slice none 0 0, .slice none 0 0, .int .u64 0] size_va rfl rfl HZ.out rfl HF.out K5.out ?_; clear hz0 K5)
  exact bodyPost_ret (resultsN2 rfl _ _ (w.heap.size + 2) _ (.int .i64 3) size_va agg_va rfl rfl hc') rfl ⟨_, rfl, ⟨(.slice none 0 0), (.slice none 0 0), rfl, hp', hm', NP1.out, NM1.out⟩, hBK.out⟩
set_option maxRecDepth 20000 in
set_option maxHeartbeats 2000000 in
theorem rjoin_reg_true (A B : Va) (v u : Value) (w : World) (hv : isVa A v w) (hu : isVa B u w) (hA : Fit A) (hC : Fit B) (h : okV A = true) (h2 : okV B = true) (h3 : A.kind = B.kind) (h4 : A.kind = 1) (h5 : behindB B A = true) (hn1 : B.plus = []) (hn2 : B.minus = []) :
    Calls Tryz.prog 131 #[v, u] w fun e w' => ∃ v', e = .returned (.tuple #[v', .int .i64 0]) ∧ isVaR w.heap.size B v' w' ∧ Below w.heap.size w w' := by
  obtain ⟨vp, vm, rfl, hp, hm⟩ := hv
  obtain ⟨up, um, rfl, gp, gm⟩ := hu
  have hB1 := lit_below w (.cells #[.int .i64 A.kind, .int .i64 A.time, .int .i64 A.node, .bool A.dead, .string ⟨A.text.toArray⟩, vp, vm, .int .u64 (A.flags.toNat : Int)] 28)
  have hB2 := lit_below (w.alloc (.cells #[.int .i64 A.kind, .int .i64 A.time, .int .i64 A.node, .bool A.dead, .string ⟨A.text.toArray⟩, vp, vm, .int .u64 (A.flags.toNat : Int)] 28)) (.cells #[.int .i64 B.kind, .int .i64 B.time, .int .i64 B.node, .bool B.dead, .string ⟨B.text.toArray⟩, up, um, .int .u64 (B.flags.toNat : Int)] 28)
  have hB3 := lit_below ((w.alloc (.cells #[.int .i64 A.kind, .int .i64 A.time, .int .i64 A.node, .bool A.dead, .string ⟨A.text.toArray⟩, vp, vm, .int .u64 (A.flags.toNat : Int)] 28)).alloc (.cells #[.int .i64 B.kind, .int .i64 B.time, .int .i64 B.node, .bool B.dead, .string ⟨B.text.toArray⟩, up, um, .int .u64 (B.flags.toNat : Int)] 28)) (.cells #[.int .i64 0, .int .i64 0, .int .i64 0, .bool false, .string ⟨#[]⟩, .slice none 0 0, .slice none 0 0, .int .u64 0] 28)
  have hB := Kept.mk ((hB1.trans (hB2.mono hB1.size)).trans (hB3.mono (hB1.trans (hB2.mono hB1.size)).size))
  have CA := Kept.mk (((cellsN_at w 28 [.int .i64 A.kind, .int .i64 A.time, .int .i64 A.node, .bool A.dead, .string ⟨A.text.toArray⟩, vp, vm, .int .u64 (A.flags.toNat : Int)] w.heap.size rfl).keep hB2 (by simp)).keep hB3 (by simp <;> omega))
  have CB := Kept.mk ((cellsN_at (w.alloc (.cells #[.int .i64 A.kind, .int .i64 A.time, .int .i64 A.node, .bool A.dead, .string ⟨A.text.toArray⟩, vp, vm, .int .u64 (A.flags.toNat : Int)] 28)) 28 [.int .i64 B.kind, .int .i64 B.time, .int .i64 B.node, .bool B.dead, .string ⟨B.text.toArray⟩, up, um, .int .u64 (B.flags.toNat : Int)] (w.heap.size + 1) (by simp)).keep hB3 (by simp))
  have HZ := Kept.mk (cellsN_at ((w.alloc (.cells #[.int .i64 A.kind, .int .i64 A.time, .int .i64 A.node, .bool A.dead, .string ⟨A.text.toArray⟩, vp, vm, .int .u64 (A.flags.toNat : Int)] 28)).alloc (.cells #[.int .i64 B.kind, .int .i64 B.time, .int .i64 B.node, .bool B.dead, .string ⟨B.text.toArray⟩, up, um, .int .u64 (B.flags.toNat : Int)] 28)) 28 [.int .i64 0, .int .i64 0, .int .i64 0, .bool false, .string ⟨#[]⟩, .slice none 0 0, .slice none 0 0, .int .u64 0] (w.heap.size + 2) (by simp))
  have FA := Kept.mk (((free5_at w #[.int .i64 A.kind, .int .i64 A.time, .int .i64 A.node, .bool A.dead, .string ⟨A.text.toArray⟩, vp, vm, .int .u64 (A.flags.toNat : Int)] 28 w.heap.size rfl).keep hB2 (by simp)).keep hB3 (by simp <;> omega))
  have HF := Kept.mk (free5_at ((w.alloc (.cells #[.int .i64 A.kind, .int .i64 A.time, .int .i64 A.node, .bool A.dead, .string ⟨A.text.toArray⟩, vp, vm, .int .u64 (A.flags.toNat : Int)] 28)).alloc (.cells #[.int .i64 B.kind, .int .i64 B.time, .int .i64 B.node, .bool B.dead, .string ⟨B.text.toArray⟩, up, um, .int .u64 (B.flags.toNat : Int)] 28)) #[.int .i64 0, .int .i64 0, .int .i64 0, .bool false, .string ⟨#[]⟩, .slice none 0 0, .slice none 0 0, .int .u64 0] 28 (w.heap.size + 2) (by simp))
  have hs : Kept ((((w.alloc (.cells #[.int .i64 A.kind, .int .i64 A.time, .int .i64 A.node, .bool A.dead, .string ⟨A.text.toArray⟩, vp, vm, .int .u64 (A.flags.toNat : Int)] 28)).alloc (.cells #[.int .i64 B.kind, .int .i64 B.time, .int .i64 B.node, .bool B.dead, .string ⟨B.text.toArray⟩, up, um, .int .u64 (B.flags.toNat : Int)] 28)).alloc (.cells #[.int .i64 0, .int .i64 0, .int .i64 0, .bool false, .string ⟨#[]⟩, .slice none 0 0, .slice none 0 0, .int .u64 0] 28)).heap.size = w.heap.size + 3) := ⟨by simp⟩
  have HP := Kept.mk hp
  have HM := Kept.mk hm
  have GP := Kept.mk gp
  have GM := Kept.mk gm
  clear hp hm gp gm hB1 hB2 hB3
  have HO := Kept.mk h
  have HO2 := Kept.mk h2
  have HBH := Kept.mk h5
  have d3 : (A.kind == B.kind) = true := by simpa using h3
  have d4 : (A.kind == 1) = true := by simpa using h4
  clear h h2 h3 h4 h5
  go_enter Tryz.func131, Tryz.ntmps131
  go_wp2_with fail
  generalize ((w.alloc (.cells #[.int .i64 A.kind, .int .i64 A.time, .int .i64 A.node, .bool A.dead, .string ⟨A.text.toArray⟩, vp, vm, .int .u64 (A.flags.toNat : Int)] 28)).alloc (.cells #[.int .i64 B.kind, .int .i64 B.time, .int .i64 B.node, .bool B.dead, .string ⟨B.text.toArray⟩, up, um, .int .u64 (B.flags.toNat : Int)] 28)).alloc (.cells #[.int .i64 0, .int .i64 0, .int .i64 0, .bool false, .string ⟨#[]⟩, .slice none 0 0, .slice none 0 0, .int .u64 0] 28) = W0 at *
  replace hs := Kept.mk (Nat.le_of_eq hs.out.symm)
  ((with_reducible refine (rcheck_any A _ _ (show isVa A (.agg #[.int .i64 A.kind, .int .i64 A.time, .int .i64 A.node, .bool A.dead, .string ⟨A.text.toArray⟩, vp, vm, .int .u64 (A.flags.toNat : Int)]) W0 from va_mk (cells_up HP.out hB.out) (cells_up HM.out hB.out)) hA).mono ?_); rintro e w1 ⟨rfl, hb1⟩)
  have hgA := CA.out.1
  replace FA := Kept.mk (FA.out.keep hb1 (Nat.lt_of_lt_of_le (by show w.heap.size < _; exact hgA) (Nat.le_refl _)))
  replace HF := Kept.mk (HF.out.keep hb1 HZ.out.1)
  replace CA := Kept.mk (CA.out.keep hb1 CA.out.1)
  replace CB := Kept.mk (CB.out.keep hb1 CB.out.1)
  replace HZ := Kept.mk (HZ.out.keep hb1 HZ.out.1)
  replace hB := Kept.mk (hB.out.trans (hb1.mono hB.out.size))
  replace hs := Kept.mk (Nat.le_trans hs.out hb1.size)
  clear hb1 hgA
  rewrite [HO.out]
  have kb0 := CB.out.2 0 _ rfl
  have kb1 := CB.out.2 1 _ rfl
  have kb2 := CB.out.2 2 _ rfl
  have kb3 := CB.out.2 3 _ rfl
  have kb4 := CB.out.2 4 _ rfl
  have kb5 := CB.out.2 5 _ rfl
  have kb6 := CB.out.2 6 _ rfl
  have kb7 := CB.out.2 7 _ rfl
  go_wp2_with fail
  ((with_reducible refine (rcheck_any B _ _ (show isVa B (.agg #[.int .i64 B.kind, .int .i64 B.time, .int .i64 B.node, .bool B.dead, .string ⟨B.text.toArray⟩, up, um, .int .u64 (B.flags.toNat : Int)]) w1 from va_mk (cells_up GP.out hB.out) (cells_up GM.out hB.out)) hC).mono ?_); rintro e w2 ⟨rfl, hb1⟩)
  clear kb0 kb1 kb2 kb3 kb4 kb5 kb6 kb7
  have hgA := CA.out.1
  replace FA := Kept.mk (FA.out.keep hb1 (Nat.lt_of_lt_of_le (by show w.heap.size < _; exact hgA) (Nat.le_refl _)))
  replace HF := Kept.mk (HF.out.keep hb1 HZ.out.1)
  replace CA := Kept.mk (CA.out.keep hb1 CA.out.1)
  replace CB := Kept.mk (CB.out.keep hb1 CB.out.1)
  replace HZ := Kept.mk (HZ.out.keep hb1 HZ.out.1)
  replace hB := Kept.mk (hB.out.trans (hb1.mono hB.out.size))
  replace hs := Kept.mk (Nat.le_trans hs.out hb1.size)
  clear hb1 hgA
  rewrite [HO2.out]
  have ka0 := CA.out.2 0 _ rfl
  have ka1 := CA.out.2 1 _ rfl
  have ka2 := CA.out.2 2 _ rfl
  have ka3 := CA.out.2 3 _ rfl
  have ka4 := CA.out.2 4 _ rfl
  have ka5 := CA.out.2 5 _ rfl
  have ka6 := CA.out.2 6 _ rfl
  have ka7 := CA.out.2 7 _ rfl
  have kb0 := CB.out.2 0 _ rfl
  have kb1 := CB.out.2 1 _ rfl
  have kb2 := CB.out.2 2 _ rfl
  have kb3 := CB.out.2 3 _ rfl
  have kb4 := CB.out.2 4 _ rfl
  have kb5 := CB.out.2 5 _ rfl
  have kb6 := CB.out.2 6 _ rfl
  have kb7 := CB.out.2 7 _ rfl
  go_wp2_with fail
  ((with_reducible refine (rbehind_any B A _ _ _ (show isVa B (.agg #[.int .i64 B.kind, .int .i64 B.time, .int .i64 B.node, .bool B.dead, .string ⟨B.text.toArray⟩, up, um, .int .u64 (B.flags.toNat : Int)]) w2 from va_mk (cells_up GP.out hB.out) (cells_up GM.out hB.out)) (show isVa A (.agg #[.int .i64 A.kind, .int .i64 A.time, .int .i64 A.node, .bool A.dead, .string ⟨A.text.toArray⟩, vp, vm, .int .u64 (A.flags.toNat : Int)]) w2 from va_mk (cells_up HP.out hB.out) (cells_up HM.out hB.out))).mono ?_); rintro e w3 ⟨rfl, hb1⟩)
  clear ka0 ka1 ka2 ka3 ka4 ka5 ka6 ka7 kb0 kb1 kb2 kb3 kb4 kb5 kb6 kb7
  have hgA := CA.out.1
  replace FA := Kept.mk (FA.out.keep hb1 (Nat.lt_of_lt_of_le (by show w.heap.size < _; exact hgA) (Nat.le_refl _)))
  replace HF := Kept.mk (HF.out.keep hb1 HZ.out.1)
  replace CA := Kept.mk (CA.out.keep hb1 CA.out.1)
  replace CB := Kept.mk (CB.out.keep hb1 CB.out.1)
  replace HZ := Kept.mk (HZ.out.keep hb1 HZ.out.1)
  replace hB := Kept.mk (hB.out.trans (hb1.mono hB.out.size))
  replace hs := Kept.mk (Nat.le_trans hs.out hb1.size)
  clear hb1 hgA
  rewrite [HBH.out]
  obtain ⟨hBK, K4, K5⟩ := vset2 B up um (g := w.heap.size + 2) (by omega) hB.out HZ.out rfl (stable_cells _ _ _ _ GP.out hB.out) (stable_cells _ _ _ _ GM.out hB.out) (fun e => absurd hn1 e) (fun e => absurd hn2 e)
  have kb0 := CB.out.2 0 _ rfl
  have kb1 := CB.out.2 1 _ rfl
  have kb2 := CB.out.2 2 _ rfl
  have kb3 := CB.out.2 3 _ rfl
  have kb4 := CB.out.2 4 _ rfl
  have kb5 := CB.out.2 5 _ rfl
  have kb6 := CB.out.2 6 _ rfl
  have kb7 := CB.out.2 7 _ rfl
  have NP1 : Kept (B.plus ≠ [] → NewB w.heap.size up) := ⟨fun h => absurd hn1 h⟩
  have NM1 : Kept (B.minus ≠ [] → NewB w.heap.size um) := ⟨fun h => absurd hn2 h⟩
  obtain ⟨hc', hp', hm'⟩ := K4.out
  clear K4
  go_wp2_with (have hz0 := K5; refine wpList_storeN 28 rfl (.tmp 4) (.tmp 27) rfl (w.heap.size + 2) [.int .i64 B.kind, .int .i64 B.time, .int .i64 B.node, .bool B.dead, .string ⟨B.text.toArray⟩, up, um, .int .u64 (B.flags.toNat : Int)] size_va rfl rfl HZ.out rfl HF.out K5.out ?_; clear hz0 K5)
  exact bodyPost_ret (resultsN2 rfl _ _ (w.heap.size + 2) _ (.int .i64 0) size_va agg_va rfl rfl hc') rfl ⟨_, rfl, ⟨up, um, rfl, hp', hm', NP1.out, NM1.out⟩, hBK.out⟩
set_option maxRecDepth 20000 in
set_option maxHeartbeats 2000000 in
theorem rjoin_reg_false (A B : Va) (v u : Value) (w : World) (hv : isVa A v w) (hu : isVa B u w) (hA : Fit A) (hC : Fit B) (h : okV A = true) (h2 : okV B = true) (h3 : A.kind = B.kind) (h4 : A.kind = 1) (h5 : behindB B A = false) (hn1 : A.plus = []) (hn2 : A.minus = []) :
    Calls Tryz.prog 131 #[v, u] w fun e w' => ∃ v', e = .returned (.tuple #[v', .int .i64 0]) ∧ isVaR w.heap.size A v' w' ∧ Below w.heap.size w w' := by
  obtain ⟨vp, vm, rfl, hp, hm⟩ := hv
  obtain ⟨up, um, rfl, gp, gm⟩ := hu
  have hB1 := lit_below w (.cells #[.int .i64 A.kind, .int .i64 A.time, .int .i64 A.node, .bool A.dead, .string ⟨A.text.toArray⟩, vp, vm, .int .u64 (A.flags.toNat : Int)] 28)
  have hB2 := lit_below (w.alloc (.cells #[.int .i64 A.kind, .int .i64 A.time, .int .i64 A.node, .bool A.dead, .string ⟨A.text.toArray⟩, vp, vm, .int .u64 (A.flags.toNat : Int)] 28)) (.cells #[.int .i64 B.kind, .int .i64 B.time, .int .i64 B.node, .bool B.dead, .string ⟨B.text.toArray⟩, up, um, .int .u64 (B.flags.toNat : Int)] 28)
  have hB3 := lit_below ((w.alloc (.cells #[.int .i64 A.kind, .int .i64 A.time, .int .i64 A.node, .bool A.dead, .string ⟨A.text.toArray⟩, vp, vm, .int .u64 (A.flags.toNat : Int)] 28)).alloc (.cells #[.int .i64 B.kind, .int .i64 B.time, .int .i64 B.node, .bool B.dead, .string ⟨B.text.toArray⟩, up, um, .int .u64 (B.flags.toNat : Int)] 28)) (.cells #[.int .i64 0, .int .i64 0, .int .i64 0, .bool false, .string ⟨#[]⟩, .slice none 0 0, .slice none 0 0, .int .u64 0] 28)
  have hB := Kept.mk ((hB1.trans (hB2.mono hB1.size)).trans (hB3.mono (hB1.trans (hB2.mono hB1.size)).size))
  have CA := Kept.mk (((cellsN_at w 28 [.int .i64 A.kind, .int .i64 A.time, .int .i64 A.node, .bool A.dead, .string ⟨A.text.toArray⟩, vp, vm, .int .u64 (A.flags.toNat : Int)] w.heap.size rfl).keep hB2 (by simp)).keep hB3 (by simp <;> omega))
  have CB := Kept.mk ((cellsN_at (w.alloc (.cells #[.int .i64 A.kind, .int .i64 A.time, .int .i64 A.node, .bool A.dead, .string ⟨A.text.toArray⟩, vp, vm, .int .u64 (A.flags.toNat : Int)] 28)) 28 [.int .i64 B.kind, .int .i64 B.time, .int .i64 B.node, .bool B.dead, .string ⟨B.text.toArray⟩, up, um, .int .u64 (B.flags.toNat : Int)] (w.heap.size + 1) (by simp)).keep hB3 (by simp))
  have HZ := Kept.mk (cellsN_at ((w.alloc (.cells #[.int .i64 A.kind, .int .i64 A.time, .int .i64 A.node, .bool A.dead, .string ⟨A.text.toArray⟩, vp, vm, .int .u64 (A.flags.toNat : Int)] 28)).alloc (.cells #[.int .i64 B.kind, .int .i64 B.time, .int .i64 B.node, .bool B.dead, .string ⟨B.text.toArray⟩, up, um, .int .u64 (B.flags.toNat : Int)] 28)) 28 [.int .i64 0, .int .i64 0, .int .i64 0, .bool false, .string ⟨#[]⟩, .slice none 0 0, .slice none 0 0, .int .u64 0] (w.heap.size + 2) (by simp))
  have FA := Kept.mk (((free5_at w #[.int .i64 A.kind, .int .i64 A.time, .int .i64 A.node, .bool A.dead, .string ⟨A.text.toArray⟩, vp, vm, .int .u64 (A.flags.toNat : Int)] 28 w.heap.size rfl).keep hB2 (by simp)).keep hB3 (by simp <;> omega))
  have HF := Kept.mk (free5_at ((w.alloc (.cells #[.int .i64 A.kind, .int .i64 A.time, .int .i64 A.node, .bool A.dead, .string ⟨A.text.toArray⟩, vp, vm, .int .u64 (A.flags.toNat : Int)] 28)).alloc (.cells #[.int .i64 B.kind, .int .i64 B.time, .int .i64 B.node, .bool B.dead, .string ⟨B.text.toArray⟩, up, um, .int .u64 (B.flags.toNat : Int)] 28)) #[.int .i64 0, .int .i64 0, .int .i64 0, .bool false, .string ⟨#[]⟩, .slice none 0 0, .slice none 0 0, .int .u64 0] 28 (w.heap.size + 2) (by simp))
  have hs : Kept ((((w.alloc (.cells #[.int .i64 A.kind, .int .i64 A.time, .int .i64 A.node, .bool A.dead, .string ⟨A.text.toArray⟩, vp, vm, .int .u64 (A.flags.toNat : Int)] 28)).alloc (.cells #[.int .i64 B.kind, .int .i64 B.time, .int .i64 B.node, .bool B.dead, .string ⟨B.text.toArray⟩, up, um, .int .u64 (B.flags.toNat : Int)] 28)).alloc (.cells #[.int .i64 0, .int .i64 0, .int .i64 0, .bool false, .string ⟨#[]⟩, .slice none 0 0, .slice none 0 0, .int .u64 0] 28)).heap.size = w.heap.size + 3) := ⟨by simp⟩
  have HP := Kept.mk hp
  have HM := Kept.mk hm
  have GP := Kept.mk gp
  have GM := Kept.mk gm
  clear hp hm gp gm hB1 hB2 hB3
  have HO := Kept.mk h
  have HO2 := Kept.mk h2
  have HBH := Kept.mk h5
  have d3 : (A.kind == B.kind) = true := by simpa using h3
  have d4 : (A.kind == 1) = true := by simpa using h4
  clear h h2 h3 h4 h5
  go_enter Tryz.func131, Tryz.ntmps131
  go_wp2_with fail
  generalize ((w.alloc (.cells #[.int .i64 A.kind, .int .i64 A.time, .int .i64 A.node, .bool A.dead, .string ⟨A.text.toArray⟩, vp, vm, .int .u64 (A.flags.toNat : Int)] 28)).alloc (.cells #[.int .i64 B.kind, .int .i64 B.time, .int .i64 B.node, .bool B.dead, .string ⟨B.text.toArray⟩, up, um, .int .u64 (B.flags.toNat : Int)] 28)).alloc (.cells #[.int .i64 0, .int .i64 0, .int .i64 0, .bool false, .string ⟨#[]⟩, .slice none 0 0, .slice none 0 0, .int .u64 0] 28) = W0 at *
  replace hs := Kept.mk (Nat.le_of_eq hs.out.symm)
  ((with_reducible refine (rcheck_any A _ _ (show isVa A (.agg #[.int .i64 A.kind, .int .i64 A.time, .int .i64 A.node, .bool A.dead, .string ⟨A.text.toArray⟩, vp, vm, .int .u64 (A.flags.toNat : Int)]) W0 from va_mk (cells_up HP.out hB.out) (cells_up HM.out hB.out)) hA).mono ?_); rintro e w1 ⟨rfl, hb1⟩)
  have hgA := CA.out.1
  replace FA := Kept.mk (FA.out.keep hb1 (Nat.lt_of_lt_of_le (by show w.heap.size < _; exact hgA) (Nat.le_refl _)))
  replace HF := Kept.mk (HF.out.keep hb1 HZ.out.1)
  replace CA := Kept.mk (CA.out.keep hb1 CA.out.1)
  replace CB := Kept.mk (CB.out.keep hb1 CB.out.1)
  replace HZ := Kept.mk (HZ.out.keep hb1 HZ.out.1)
  replace hB := Kept.mk (hB.out.trans (hb1.mono hB.out.size))
  replace hs := Kept.mk (Nat.le_trans hs.out hb1.size)
  clear hb1 hgA
  rewrite [HO.out]
  have kb0 := CB.out.2 0 _ rfl
  have kb1 := CB.out.2 1 _ rfl
  have kb2 := CB.out.2 2 _ rfl
  have kb3 := CB.out.2 3 _ rfl
  have kb4 := CB.out.2 4 _ rfl
  have kb5 := CB.out.2 5 _ rfl
  have kb6 := CB.out.2 6 _ rfl
  have kb7 := CB.out.2 7 _ rfl
  go_wp2_with fail
  ((with_reducible refine (rcheck_any B _ _ (show isVa B (.agg #[.int .i64 B.kind, .int .i64 B.time, .int .i64 B.node, .bool B.dead, .string ⟨B.text.toArray⟩, up, um, .int .u64 (B.flags.toNat : Int)]) w1 from va_mk (cells_up GP.out hB.out) (cells_up GM.out hB.out)) hC).mono ?_); rintro e w2 ⟨rfl, hb1⟩)
  clear kb0 kb1 kb2 kb3 kb4 kb5 kb6 kb7
  have hgA := CA.out.1
  replace FA := Kept.mk (FA.out.keep hb1 (Nat.lt_of_lt_of_le (by show w.heap.size < _; exact hgA) (Nat.le_refl _)))
  replace HF := Kept.mk (HF.out.keep hb1 HZ.out.1)
  replace CA := Kept.mk (CA.out.keep hb1 CA.out.1)
  replace CB := Kept.mk (CB.out.keep hb1 CB.out.1)
  replace HZ := Kept.mk (HZ.out.keep hb1 HZ.out.1)
  replace hB := Kept.mk (hB.out.trans (hb1.mono hB.out.size))
  replace hs := Kept.mk (Nat.le_trans hs.out hb1.size)
  clear hb1 hgA
  rewrite [HO2.out]
  have ka0 := CA.out.2 0 _ rfl
  have ka1 := CA.out.2 1 _ rfl
  have ka2 := CA.out.2 2 _ rfl
  have ka3 := CA.out.2 3 _ rfl
  have ka4 := CA.out.2 4 _ rfl
  have ka5 := CA.out.2 5 _ rfl
  have ka6 := CA.out.2 6 _ rfl
  have ka7 := CA.out.2 7 _ rfl
  have kb0 := CB.out.2 0 _ rfl
  have kb1 := CB.out.2 1 _ rfl
  have kb2 := CB.out.2 2 _ rfl
  have kb3 := CB.out.2 3 _ rfl
  have kb4 := CB.out.2 4 _ rfl
  have kb5 := CB.out.2 5 _ rfl
  have kb6 := CB.out.2 6 _ rfl
  have kb7 := CB.out.2 7 _ rfl
  go_wp2_with fail
  ((with_reducible refine (rbehind_any B A _ _ _ (show isVa B (.agg #[.int .i64 B.kind, .int .i64 B.time, .int .i64 B.node, .bool B.dead, .string ⟨B.text.toArray⟩, up, um, .int .u64 (B.flags.toNat : Int)]) w2 from va_mk (cells_up GP.out hB.out) (cells_up GM.out hB.out)) (show isVa A (.agg #[.int .i64 A.kind, .int .i64 A.time, .int .i64 A.node, .bool A.dead, .string ⟨A.text.toArray⟩, vp, vm, .int .u64 (A.flags.toNat : Int)]) w2 from va_mk (cells_up HP.out hB.out) (cells_up HM.out hB.out))).mono ?_); rintro e w3 ⟨rfl, hb1⟩)
  clear ka0 ka1 ka2 ka3 ka4 ka5 ka6 ka7 kb0 kb1 kb2 kb3 kb4 kb5 kb6 kb7
  have hgA := CA.out.1
  replace FA := Kept.mk (FA.out.keep hb1 (Nat.lt_of_lt_of_le (by show w.heap.size < _; exact hgA) (Nat.le_refl _)))
  replace HF := Kept.mk (HF.out.keep hb1 HZ.out.1)
  replace CA := Kept.mk (CA.out.keep hb1 CA.out.1)
  replace CB := Kept.mk (CB.out.keep hb1 CB.out.1)
  replace HZ := Kept.mk (HZ.out.keep hb1 HZ.out.1)
  replace hB := Kept.mk (hB.out.trans (hb1.mono hB.out.size))
  replace hs := Kept.mk (Nat.le_trans hs.out hb1.size)
  clear hb1 hgA
  rewrite [HBH.out]
  obtain ⟨hBK, K4, K5⟩ := vset2 A vp vm (g := w.heap.size + 2) (by omega) hB.out HZ.out rfl (stable_cells _ _ _ _ HP.out hB.out) (stable_cells _ _ _ _ HM.out hB.out) (fun e => absurd hn1 e) (fun e => absurd hn2 e)
  have ka0 := CA.out.2 0 _ rfl
  have ka1 := CA.out.2 1 _ rfl
  have ka2 := CA.out.2 2 _ rfl
  have ka3 := CA.out.2 3 _ rfl
  have ka4 := CA.out.2 4 _ rfl
  have ka5 := CA.out.2 5 _ rfl
  have ka6 := CA.out.2 6 _ rfl
  have ka7 := CA.out.2 7 _ rfl
  have NP1 : Kept (A.plus ≠ [] → NewB w.heap.size vp) := ⟨fun h => absurd hn1 h⟩
  have NM1 : Kept (A.minus ≠ [] → NewB w.heap.size vm) := ⟨fun h => absurd hn2 h⟩
  obtain ⟨hc', hp', hm'⟩ := K4.out
  clear K4
  go_wp2_with (have hz0 := K5; refine wpList_storeN 28 rfl (.tmp 4) (.tmp 28) rfl (w.heap.size + 2) [.int .i64 A.kind, .int .i64 A.time, .int .i64 A.node, .bool A.dead, .string ⟨A.text.toArray⟩, vp, vm, .int .u64 (A.flags.toNat : Int)] size_va rfl rfl HZ.out rfl HF.out K5.out ?_; clear hz0 K5)
  exact bodyPost_ret (resultsN2 rfl _ _ (w.heap.size + 2) _ (.int .i64 0) size_va agg_va rfl rfl hc') rfl ⟨_, rfl, ⟨vp, vm, rfl, hp', hm', NP1.out, NM1.out⟩, hBK.out⟩
set_option maxRecDepth 20000 in
set_option maxHeartbeats 2000000 in
theorem rjoin_rest (A B : Va) (v u : Value) (w : World) (hv : isVa A v w) (hu : isVa B u w) (hA : Fit A) (hC : Fit B) (h : okV A = true) (h2 : okV B = true) (h3 : A.kind = B.kind) (h4 : A.kind ≠ 1) (l1 : A.plus.length = B.plus.length) (l2 : A.minus.length = B.minus.length) :
    Calls Tryz.prog 131 #[v, u] w fun e w' => ∃ v', e = .returned (.tuple #[v', .int .i64 0]) ∧ isVaR w.heap.size (mergeV A B) v' w' ∧ Below w.heap.size w w' := by
  obtain ⟨vp, vm, rfl, hp, hm⟩ := hv
  obtain ⟨up, um, rfl, gp, gm⟩ := hu
  have hB1 := lit_below w (.cells #[.int .i64 A.kind, .int .i64 A.time, .int .i64 A.node, .bool A.dead, .string ⟨A.text.toArray⟩, vp, vm, .int .u64 (A.flags.toNat : Int)] 28)
  have hB2 := lit_below (w.alloc (.cells #[.int .i64 A.kind, .int .i64 A.time, .int .i64 A.node, .bool A.dead, .string ⟨A.text.toArray⟩, vp, vm, .int .u64 (A.flags.toNat : Int)] 28)) (.cells #[.int .i64 B.kind, .int .i64 B.time, .int .i64 B.node, .bool B.dead, .string ⟨B.text.toArray⟩, up, um, .int .u64 (B.flags.toNat : Int)] 28)
  have hB3 := lit_below ((w.alloc (.cells #[.int .i64 A.kind, .int .i64 A.time, .int .i64 A.node, .bool A.dead, .string ⟨A.text.toArray⟩, vp, vm, .int .u64 (A.flags.toNat : Int)] 28)).alloc (.cells #[.int .i64 B.kind, .int .i64 B.time, .int .i64 B.node, .bool B.dead, .string ⟨B.text.toArray⟩, up, um, .int .u64 (B.flags.toNat : Int)] 28)) (.cells #[.int .i64 0, .int .i64 0, .int .i64 0, .bool false, .string ⟨#[]⟩, .slice none 0 0, .slice none 0 0, .int .u64 0] 28)
  have hB := Kept.mk ((hB1.trans (hB2.mono hB1.size)).trans (hB3.mono (hB1.trans (hB2.mono hB1.size)).size))
  have CA := Kept.mk (((cellsN_at w 28 [.int .i64 A.kind, .int .i64 A.time, .int .i64 A.node, .bool A.dead, .string ⟨A.text.toArray⟩, vp, vm, .int .u64 (A.flags.toNat : Int)] w.heap.size rfl).keep hB2 (by simp)).keep hB3 (by simp <;> omega))
  have CB := Kept.mk ((cellsN_at (w.alloc (.cells #[.int .i64 A.kind, .int .i64 A.time, .int .i64 A.node, .bool A.dead, .string ⟨A.text.toArray⟩, vp, vm, .int .u64 (A.flags.toNat : Int)] 28)) 28 [.int .i64 B.kind, .int .i64 B.time, .int .i64 B.node, .bool B.dead, .string ⟨B.text.toArray⟩, up, um, .int .u64 (B.flags.toNat : Int)] (w.heap.size + 1) (by simp)).keep hB3 (by simp))
  have HZ := Kept.mk (cellsN_at ((w.alloc (.cells #[.int .i64 A.kind, .int .i64 A.time, .int .i64 A.node, .bool A.dead, .string ⟨A.text.toArray⟩, vp, vm, .int .u64 (A.flags.toNat : Int)] 28)).alloc (.cells #[.int .i64 B.kind, .int .i64 B.time, .int .i64 B.node, .bool B.dead, .string ⟨B.text.toArray⟩, up, um, .int .u64 (B.flags.toNat : Int)] 28)) 28 [.int .i64 0, .int .i64 0, .int .i64 0, .bool false, .string ⟨#[]⟩, .slice none 0 0, .slice none 0 0, .int .u64 0] (w.heap.size + 2) (by simp))
  have FA := Kept.mk (((free5_at w #[.int .i64 A.kind, .int .i64 A.time, .int .i64 A.node, .bool A.dead, .string ⟨A.text.toArray⟩, vp, vm, .int .u64 (A.flags.toNat : Int)] 28 w.heap.size rfl).keep hB2 (by simp)).keep hB3 (by simp <;> omega))
  have HF := Kept.mk (free5_at ((w.alloc (.cells #[.int .i64 A.kind, .int .i64 A.time, .int .i64 A.node, .bool A.dead, .string ⟨A.text.toArray⟩, vp, vm, .int .u64 (A.flags.toNat : Int)] 28)).alloc (.cells #[.int .i64 B.kind, .int .i64 B.time, .int .i64 B.node, .bool B.dead, .string ⟨B.text.toArray⟩, up, um, .int .u64 (B.flags.toNat : Int)] 28)) #[.int .i64 0, .int .i64 0, .int .i64 0, .bool false, .string ⟨#[]⟩, .slice none 0 0, .slice none 0 0, .int .u64 0] 28 (w.heap.size + 2) (by simp))
  have hs : Kept ((((w.alloc (.cells #[.int .i64 A.kind, .int .i64 A.time, .int .i64 A.node, .bool A.dead, .string ⟨A.text.toArray⟩, vp, vm, .int .u64 (A.flags.toNat : Int)] 28)).alloc (.cells #[.int .i64 B.kind, .int .i64 B.time, .int .i64 B.node, .bool B.dead, .string ⟨B.text.toArray⟩, up, um, .int .u64 (B.flags.toNat : Int)] 28)).alloc (.cells #[.int .i64 0, .int .i64 0, .int .i64 0, .bool false, .string ⟨#[]⟩, .slice none 0 0, .slice none 0 0, .int .u64 0] 28)).heap.size = w.heap.size + 3) := ⟨by simp⟩
  have HP := Kept.mk hp
  have HM := Kept.mk hm
  have GP := Kept.mk gp
  have GM := Kept.mk gm
  clear hp hm gp gm hB1 hB2 hB3
  have HO := Kept.mk h
  have HO2 := Kept.mk h2
  have d3 : (A.kind == B.kind) = true := by simpa using h3
  have d4 : (A.kind == 1) = false := by simpa using h4
  clear h h2 h3 h4
  go_enter Tryz.func131, Tryz.ntmps131
  go_wp2_with fail
  generalize ((w.alloc (.cells #[.int .i64 A.kind, .int .i64 A.time, .int .i64 A.node, .bool A.dead, .string ⟨A.text.toArray⟩, vp, vm, .int .u64 (A.flags.toNat : Int)] 28)).alloc (.cells #[.int .i64 B.kind, .int .i64 B.time, .int .i64 B.node, .bool B.dead, .string ⟨B.text.toArray⟩, up, um, .int .u64 (B.flags.toNat : Int)] 28)).alloc (.cells #[.int .i64 0, .int .i64 0, .int .i64 0, .bool false, .string ⟨#[]⟩, .slice none 0 0, .slice none 0 0, .int .u64 0] 28) = W0 at *
  replace hs := Kept.mk (Nat.le_of_eq hs.out.symm)
  ((with_reducible refine (rcheck_any A _ _ (show isVa A (.agg #[.int .i64 A.kind, .int .i64 A.time, .int .i64 A.node, .bool A.dead, .string ⟨A.text.toArray⟩, vp, vm, .int .u64 (A.flags.toNat : Int)]) W0 from va_mk (cells_up HP.out hB.out) (cells_up HM.out hB.out)) hA).mono ?_); rintro e w1 ⟨rfl, hb1⟩)
  have hgA := CA.out.1
  replace FA := Kept.mk (FA.out.keep hb1 (Nat.lt_of_lt_of_le (by show w.heap.size < _; exact hgA) (Nat.le_refl _)))
  replace HF := Kept.mk (HF.out.keep hb1 HZ.out.1)
  replace CA := Kept.mk (CA.out.keep hb1 CA.out.1)
  replace CB := Kept.mk (CB.out.keep hb1 CB.out.1)
  replace HZ := Kept.mk (HZ.out.keep hb1 HZ.out.1)
  replace hB := Kept.mk (hB.out.trans (hb1.mono hB.out.size))
  replace hs := Kept.mk (Nat.le_trans hs.out hb1.size)
  clear hb1 hgA
  rewrite [HO.out]
  have kb0 := CB.out.2 0 _ rfl
  have kb1 := CB.out.2 1 _ rfl
  have kb2 := CB.out.2 2 _ rfl
  have kb3 := CB.out.2 3 _ rfl
  have kb4 := CB.out.2 4 _ rfl
  have kb5 := CB.out.2 5 _ rfl
  have kb6 := CB.out.2 6 _ rfl
  have kb7 := CB.out.2 7 _ rfl
  go_wp2_with fail
  ((with_reducible refine (rcheck_any B _ _ (show isVa B (.agg #[.int .i64 B.kind, .int .i64 B.time, .int .i64 B.node, .bool B.dead, .string ⟨B.text.toArray⟩, up, um, .int .u64 (B.flags.toNat : Int)]) w1 from va_mk (cells_up GP.out hB.out) (cells_up GM.out hB.out)) hC).mono ?_); rintro e w2 ⟨rfl, hb1⟩)
  clear kb0 kb1 kb2 kb3 kb4 kb5 kb6 kb7
  have hgA := CA.out.1
  replace FA := Kept.mk (FA.out.keep hb1 (Nat.lt_of_lt_of_le (by show w.heap.size < _; exact hgA) (Nat.le_refl _)))
  replace HF := Kept.mk (HF.out.keep hb1 HZ.out.1)
  replace CA := Kept.mk (CA.out.keep hb1 CA.out.1)
  replace CB := Kept.mk (CB.out.keep hb1 CB.out.1)
  replace HZ := Kept.mk (HZ.out.keep hb1 HZ.out.1)
  replace hB := Kept.mk (hB.out.trans (hb1.mono hB.out.size))
  replace hs := Kept.mk (Nat.le_trans hs.out hb1.size)
  clear hb1 hgA
  rewrite [HO2.out]
  have ka0 := CA.out.2 0 _ rfl
  have ka1 := CA.out.2 1 _ rfl
  have ka2 := CA.out.2 2 _ rfl
  have ka3 := CA.out.2 3 _ rfl
  have ka4 := CA.out.2 4 _ rfl
  have ka5 := CA.out.2 5 _ rfl
  have ka6 := CA.out.2 6 _ rfl
  have ka7 := CA.out.2 7 _ rfl
  have kb0 := CB.out.2 0 _ rfl
  have kb1 := CB.out.2 1 _ rfl
  have kb2 := CB.out.2 2 _ rfl
  have kb3 := CB.out.2 3 _ rfl
  have kb4 := CB.out.2 4 _ rfl
  have kb5 := CB.out.2 5 _ rfl
  have kb6 := CB.out.2 6 _ rfl
  have kb7 := CB.out.2 7 _ rfl
  go_wp2_with fail
  ((with_reducible refine (most_any A.plus B.plus _ _ _ (cells_up HP.out hB.out) (cells_up GP.out hB.out) l1 hA.plus).mono ?_); rintro e w3 ⟨v1, rfl, o1, hb1⟩)
  obtain ⟨-, a1, n1, c1, rfl⟩ := own_slice o1
  clear ka0 ka1 ka2 ka3 ka4 ka5 ka6 ka7 kb0 kb1 kb2 kb3 kb4 kb5 kb6 kb7
  have hs2 := hs.out
  have hs3 := hb1.size
  replace o1 := Kept.mk o1
  have hgA := CA.out.1
  replace FA := Kept.mk (FA.out.keep hb1 (Nat.lt_of_lt_of_le (by show w.heap.size < _; exact hgA) (Nat.le_refl _)))
  replace HF := Kept.mk (HF.out.keep hb1 HZ.out.1)
  replace CA := Kept.mk (CA.out.keep hb1 CA.out.1)
  replace CB := Kept.mk (CB.out.keep hb1 CB.out.1)
  replace HZ := Kept.mk (HZ.out.keep hb1 HZ.out.1)
  replace hB := Kept.mk (hB.out.trans (hb1.mono hB.out.size))
  replace hs := Kept.mk (Nat.le_trans hs.out hb1.size)
  clear hb1 hgA
  have ka0 := CA.out.2 0 _ rfl
  have ka1 := CA.out.2 1 _ rfl
  have ka2 := CA.out.2 2 _ rfl
  have ka3 := CA.out.2 3 _ rfl
  have ka4 := CA.out.2 4 _ rfl
  have ka5 := CA.out.2 5 _ rfl
  have ka6 := CA.out.2 6 _ rfl
  have ka7 := CA.out.2 7 _ rfl
  have kb0 := CB.out.2 0 _ rfl
  have kb1 := CB.out.2 1 _ rfl
  have kb2 := CB.out.2 2 _ rfl
  have kb3 := CB.out.2 3 _ rfl
  have kb4 := CB.out.2 4 _ rfl
  have kb5 := CB.out.2 5 _ rfl
  have kb6 := CB.out.2 6 _ rfl
  have kb7 := CB.out.2 7 _ rfl
  have fz5 := FA.out 5
  have HB4 := Kept.mk (hB.out.setCell (p := ⟨w.heap.size, 5, none⟩) (Nat.le_refl _) (.slice a1 n1 c1))
  have CA4 := Kept.mk (CA.out.setAt 5 (.slice a1 n1 c1) (by simp))
  have CB4 := Kept.mk (CB.out.setOther (b := w.heap.size) (by omega) 5 (.slice a1 n1 c1))
  have HZ4 := Kept.mk (HZ.out.setOther (b := w.heap.size) (by omega) 5 (.slice a1 n1 c1))
  have FA4 := Kept.mk (FA.out.set ⟨w.heap.size, 5, none⟩ (.slice a1 n1 c1))
  have HF4 := Kept.mk (HF.out.set ⟨w.heap.size, 5, none⟩ (.slice a1 n1 c1))
  have o4 := Kept.mk (o1.out.set (p := ⟨w.heap.size, 5, none⟩) (by show w.heap.size < _; omega) (.slice a1 n1 c1))
  go_wp2_with fail
  generalize w3.setCell ⟨w.heap.size, 5, none⟩ (.slice a1 n1 c1) = W4 at *
  clear CA CB HZ FA HF o1 hB fz5
  clear ka0 ka1 ka2 ka3 ka4 ka5 ka6 ka7 kb0 kb1 kb2 kb3 kb4 kb5 kb6 kb7
  have hsz4 : w.heap.size + 3 ≤ W4.heap.size := by have := HB4.out.size; have := HZ4.out.1; omega
  ((with_reducible refine (most_any A.minus B.minus _ _ _ (cells_up HM.out HB4.out) (cells_up GM.out HB4.out) l2 hA.minus).mono ?_); rintro e w5 ⟨v2, rfl, o2, hb1⟩)
  obtain ⟨-, a2, n2, c2, rfl⟩ := own_slice o2
  have hs5 := hb1.size
  have CA := Kept.mk (CA4.out.keep hb1 CA4.out.1)
  have CB := Kept.mk (CB4.out.keep hb1 CB4.out.1)
  have FA := Kept.mk (FA4.out.keep hb1 CA4.out.1)
  have HF := Kept.mk (HF4.out.keep hb1 HZ4.out.1)
  have HZ := Kept.mk (HZ4.out.keep hb1 HZ4.out.1)
  have hB := Kept.mk (HB4.out.trans (hb1.mono HB4.out.size))
  have o1 := Kept.mk (stable_own _ _ _ _ _ _ o4.out hb1)
  have O2 := Kept.mk o2
  clear CA4 CB4 FA4 HF4 HZ4 HB4 o4 o2 hb1
  have ka0 := CA.out.2 0 _ rfl
  have ka1 := CA.out.2 1 _ rfl
  have ka2 := CA.out.2 2 _ rfl
  have ka3 := CA.out.2 3 _ rfl
  have ka4 := CA.out.2 4 _ rfl
  have ka5 := CA.out.2 5 _ rfl
  have ka6 := CA.out.2 6 _ rfl
  have ka7 := CA.out.2 7 _ rfl
  have kb0 := CB.out.2 0 _ rfl
  have kb1 := CB.out.2 1 _ rfl
  have kb2 := CB.out.2 2 _ rfl
  have kb3 := CB.out.2 3 _ rfl
  have kb4 := CB.out.2 4 _ rfl
  have kb5 := CB.out.2 5 _ rfl
  have kb6 := CB.out.2 6 _ rfl
  have kb7 := CB.out.2 7 _ rfl
  have fz6 := FA.out 6
  have fz7 := FA.out 7
  have hor := or_u64 A.flags B.flags
  have HB7 := Kept.mk ((hB.out.setCell (p := ⟨w.heap.size, 6, none⟩) (Nat.le_refl _) (.slice a2 n2 c2)).setCell (p := ⟨w.heap.size, 7, none⟩) (Nat.le_refl _) (.int .u64 ((A.flags ||| B.flags).toNat : Int)))
  have HZ7 := Kept.mk ((HZ.out.setOther (b := w.heap.size) (by omega) 6 (.slice a2 n2 c2)).setOther (b := w.heap.size) (by omega) 7 (.int .u64 ((A.flags ||| B.flags).toNat : Int)))
  have HF7 := Kept.mk ((HF.out.set ⟨w.heap.size, 6, none⟩ (.slice a2 n2 c2)).set ⟨w.heap.size, 7, none⟩ (.int .u64 ((A.flags ||| B.flags).toNat : Int)))
  have o17 := (o1.out.set (p := ⟨w.heap.size, 6, none⟩) (by show w.heap.size < _; omega) (.slice a2 n2 c2)).set (p := ⟨w.heap.size, 7, none⟩) (by show w.heap.size < _; omega) (.int .u64 ((A.flags ||| B.flags).toNat : Int))
  have o27 := (O2.out.set (p := ⟨w.heap.size, 6, none⟩) (by show w.heap.size < _; omega) (.slice a2 n2 c2)).set (p := ⟨w.heap.size, 7, none⟩) (by show w.heap.size < _; omega) (.int .u64 ((A.flags ||| B.flags).toNat : Int))
  obtain ⟨hBK, K4, K5⟩ := vset2 (mergeV A B) (.slice a1 n1 c1) (.slice a2 n2 c2) (g := w.heap.size + 2) (by omega) HB7.out HZ7.out rfl o17.cells o27.cells (fun _ => (own_slice o17).1.ne (by omega)) (fun _ => (own_slice o27).1.ne (by omega))
  have NP1 : Kept ((mergeV A B).plus ≠ [] → NewB w.heap.size (.slice a1 n1 c1)) := ⟨fun _ => (own_slice o17).1.low (by omega)⟩
  have NM1 : Kept ((mergeV A B).minus ≠ [] → NewB w.heap.size (.slice a2 n2 c2)) := ⟨fun _ => (own_slice o27).1.low (by omega)⟩
  clear o17 o27 HB7
  obtain ⟨hc', hp', hm'⟩ := K4.out
  clear K4
  go_wp2_with (have hz0 := K5; refine wpList_storeN 28 rfl (.tmp 4) (.tmp 47) rfl (w.heap.size + 2) [.int .i64 (mergeV A B).kind, .int .i64 (mergeV A B).time, .int .i64 (mergeV A B).node, .bool (mergeV A B).dead, .string ⟨(mergeV A B).text.toArray⟩, .slice a1 n1 c1, .slice a2 n2 c2, .int .u64 ((mergeV A B).flags.toNat : Int)] size_va rfl rfl HZ7.out rfl HF7.out K5.out ?_; clear hz0 K5)
  exact bodyPost_ret (resultsN2 rfl _ _ (w.heap.size + 2) _ (.int .i64 0) size_va agg_va rfl rfl hc') rfl ⟨_, rfl, ⟨(.slice a1 n1 c1), (.slice a2 n2 c2), rfl, hp', hm', NP1.out, NM1.out⟩, hBK.out⟩
theorem rjoinR_any (A B : Va) (v u : Value) (w : World) (hv : isVa A v w) (hu : isVa B u w) (hA : Fit A) (hC : Fit B) :
    Calls Tryz.prog 131 #[v, u] w fun e w' => ∃ v', e = .returned (.tuple #[v', .int .i64 (joinE A B)]) ∧ isVaR w.heap.size (joinF A B) v' w' ∧ Below w.heap.size w w' := by
  cases h1 : okV A with
  | false =>
    have e : joinE A B = 2 := by unfold joinE; rw [h1]; rfl
    rw [show joinF A B = zeroV by unfold joinF; rw [e]; rfl, e]
    exact rjoin_no1 A B v u w hv hu hA hC h1
  | true =>
    cases h2 : okV B with
    | false =>
      have e : joinE A B = 2 := by unfold joinE; rw [h1, h2]; rfl
      rw [show joinF A B = zeroV by unfold joinF; rw [e]; rfl, e]
      exact rjoin_no2 A B v u w hv hu hA hC h1 h2
    | true =>
      by_cases h3 : A.kind = B.kind
      · have e : joinE A B = 0 := joinE_zero.2 ⟨h1, h2, h3⟩
        by_cases h4 : A.kind = 1
        · have rA := (ok_reg h1 h4).2
          have rB := (ok_reg h2 (by omega)).2
          have e2 : joinE B A = 0 := by rw [joinE_comm]; exact e
          have ej : joinF A B = if behindB B A = true then B else A := by
            rw [join_comm e, joinF_ok e2, joinV_reg (by omega)]
            unfold joinReg
            rw [← rA, ← rB]
          rw [e, ej]
          cases h5 : behindB B A with
          | true => rw [if_pos rfl]; exact rjoin_reg_true A B v u w hv hu hA hC h1 h2 h3 h4 h5 (congrArg Va.plus rB) (congrArg Va.minus rB)
          | false => rw [if_neg (by decide)]; exact rjoin_reg_false A B v u w hv hu hA hC h1 h2 h3 h4 h5 (congrArg Va.plus rA) (congrArg Va.minus rA)
        · obtain ⟨m1, m2, m3⟩ := merge_join e h4
          rw [e, m1]
          exact rjoin_rest A B v u w hv hu hA hC h1 h2 h3 h4 m2 m3
      · have e : joinE A B = 3 := by unfold joinE; rw [h1, h2]; simp [h3]
        rw [show joinF A B = zeroV by unfold joinF; rw [e]; rfl, e]
        exact rjoin_no3 A B v u w hv hu hA hC h1 h2 h3
end Go.Proofs.YtbgconagkgfplaaGreat
end
section
namespace Go.Proofs.YtbgconagkgfplaaGreat
open Go.RowKit
set_option linter.unusedVariables false
set_option linter.unusedSimpArgs false
attribute [local irreducible] setN

set_option maxRecDepth 100000 in
set_option maxHeartbeats 2000000 in
theorem rless_any (A B : En) (v u : Value) (w : World) (hv : isEn A v w) (hu : isEn B u w) : Calls Tryz.prog 129 #[v, u] w fun e w' => e = .returned (.bool (lessE A B)) ∧ Below w.heap.size w w' := by
  obtain ⟨pa, ma, rfl, hpa, hma⟩ := hv
  obtain ⟨pb, mb, rfl, hpb, hmb⟩ := hu
  obtain ⟨hB, Va⟩ := ebox w A pa ma hpa hma (w.heap.size) (by simp)
  obtain ⟨hBn, Vb⟩ := ebox (w.alloc (.cells #[.string ⟨A.key.toArray⟩, .int .i64 A.val.kind, .int .i64 A.val.time, .int .i64 A.val.node, .bool A.val.dead, .string ⟨A.val.text.toArray⟩, pa, ma, .int .u64 (A.val.flags.toNat : Int)] 30)) B pb mb (stable_cells _ _ _ _ hpb hB.out) (stable_cells _ _ _ _ hmb hB.out) (w.heap.size + 1) (by simp)
  replace Va := Kept.mk (Va.out.keep hBn.out)
  replace hB := Kept.mk (hB.out.trans (hBn.out.mono hB.out.size))
  clear hBn
  clear hpa hma hpb hmb
  obtain ⟨qa, ra, xa, ya, ka0, ka1, ka2, ka3, ka4, ka5, ka6, ka7, ka8⟩ := Va.out.open_
  have Xa := Kept.mk xa
  have Ya := Kept.mk ya
  clear xa ya
  obtain ⟨qb, rb, xb, yb, kb0, kb1, kb2, kb3, kb4, kb5, kb6, kb7, kb8⟩ := Vb.out.open_
  have Xb := Kept.mk xb
  have Yb := Kept.mk yb
  clear xb yb
  cases hk : (A.val.kind == B.val.kind) with
  | true =>
    have HC := Kept.mk (show lessE A B = Op.bytesLess A.key B.key by unfold lessE; rw [if_pos (by simpa using hk)])
    go_enter Tryz.func129, Tryz.ntmps129
    go_wp2
    go_ret
    exact ⟨by rw [HC.out]; rfl, hB.out⟩
  | false =>
    have HC := Kept.mk (show lessE A B = decide (A.val.kind < B.val.kind) by unfold lessE; rw [if_neg (by simpa using hk)])
    go_enter Tryz.func129, Tryz.ntmps129
    go_wp2
    go_ret
    exact ⟨by rw [HC.out]; rfl, hB.out⟩
set_option maxRecDepth 100000 in
set_option maxHeartbeats 2000000 in
theorem resame_any (A B : En) (v u : Value) (w : World) (hv : isEn A v w) (hu : isEn B u w) (hA : Fit A.val) (hF : Fit B.val) : Calls Tryz.prog 28 #[v, u] w fun e w' => e = .returned (.bool (decide (A = B))) ∧ Below w.heap.size w w' := by
  have HS := Kept.mk (same_en A B)
  obtain ⟨pa, ma, rfl, hpa, hma⟩ := hv
  obtain ⟨pb, mb, rfl, hpb, hmb⟩ := hu
  obtain ⟨hB, Va⟩ := ebox w A pa ma hpa hma (w.heap.size) (by simp)
  obtain ⟨hBn, Vb⟩ := ebox (w.alloc (.cells #[.string ⟨A.key.toArray⟩, .int .i64 A.val.kind, .int .i64 A.val.time, .int .i64 A.val.node, .bool A.val.dead, .string ⟨A.val.text.toArray⟩, pa, ma, .int .u64 (A.val.flags.toNat : Int)] 30)) B pb mb (stable_cells _ _ _ _ hpb hB.out) (stable_cells _ _ _ _ hmb hB.out) (w.heap.size + 1) (by simp)
  replace Va := Kept.mk (Va.out.keep hBn.out)
  replace hB := Kept.mk (hB.out.trans (hBn.out.mono hB.out.size))
  clear hBn
  clear hpa hma hpb hmb
  obtain ⟨qa, ra, xa, ya, ka0, ka1, ka2, ka3, ka4, ka5, ka6, ka7, ka8⟩ := Va.out.open_
  have Xa := Kept.mk xa
  have Ya := Kept.mk ya
  clear xa ya
  obtain ⟨qb, rb, xb, yb, kb0, kb1, kb2, kb3, kb4, kb5, kb6, kb7, kb8⟩ := Vb.out.open_
  have Xb := Kept.mk xb
  have Yb := Kept.mk yb
  clear xb yb
  cases hk : (A.key == B.key) with
  | false =>
    go_enter Tryz.func28, Tryz.ntmps28
    go_wp2
    go_ret
    exact ⟨by rw [HS.out, hk]; rfl, hB.out⟩
  | true =>
    have HK := Kept.mk hk
    go_enter Tryz.func28, Tryz.ntmps28
    go_wp2_with fail
    refine (rsame_any A.val B.val _ _ _ Ya.out Yb.out hA hF).mono ?_
    rintro e W1 ⟨rfl, hb1⟩
    replace hB := Kept.mk (hB.out.trans (hb1.mono hB.out.size))
    clear hb1 Xa Xb Ya Yb Va Vb ka0 ka1 ka2 ka3 ka4 ka5 ka6 ka7 ka8 kb0 kb1 kb2 kb3 kb4 kb5 kb6 kb7 kb8
    generalize hz : decide (A.val = B.val) = z
    have HV := Kept.mk hz
    clear hz
    go_wp2
    go_ret
    exact ⟨by rw [HS.out, HK.out, HV.out]; rfl, hB.out⟩
set_option maxRecDepth 100000 in
set_option maxHeartbeats 2000000 in
theorem rechk_any (E : En) (v : Value) (w : World) (hv : isEn E v w) (hF : FitE E) : Calls Tryz.prog 101 #[v] w fun e w' => e = .returned (.bool (okE E)) ∧ Below w.heap.size w w' := by
  have hk := hF.key
  have hs : (⟨E.key.toArray⟩ : ByteArray).size = E.key.length := by simp [ByteArray.size]
  obtain ⟨pe, me, rfl, hpe, hme⟩ := hv
  obtain ⟨hB, Ve⟩ := ebox w E pe me hpe hme (w.heap.size) (by simp)
  clear hpe hme
  obtain ⟨qe, re, xe, ye, ke0, ke1, ke2, ke3, ke4, ke5, ke6, ke7, ke8⟩ := Ve.out.open_
  have Xe := Kept.mk xe
  have Ye := Kept.mk ye
  clear xe ye
  by_cases h1 : (1 : Int) ≤ E.key.length
  · have d1 : decide ((1 : Int) ≤ E.key.length) = true := by simpa using h1
    by_cases h8 : (E.key.length : Int) ≤ 8
    · have d8 : decide ((E.key.length : Int) ≤ 8) = true := by simpa using h8
      have HC := Kept.mk (show okE E = okV E.val by unfold okE; rw [show decide (1 ≤ E.key.length) = true by rw [decide_eq_true_eq]; omega, show decide (E.key.length ≤ 8) = true by simp; omega]; rfl)
      go_enter Tryz.func101, Tryz.ntmps101
      go_wp2_with fail
      refine (rcheck_any E.val _ _ Ye.out hF.val).mono ?_
      rintro e W1 ⟨rfl, hb1⟩
      replace hB := Kept.mk (hB.out.trans (hb1.mono hB.out.size))
      clear hb1 Xe Ye ke0 ke1 ke2 ke3 ke4 ke5 ke6 ke7 ke8 Ve
      generalize hcv : okV E.val = cv
      have HV := Kept.mk hcv
      clear hcv
      go_wp2
      go_ret
      exact ⟨by rw [HC.out, HV.out]; rfl, hB.out⟩
    · have d8 : decide ((E.key.length : Int) ≤ 8) = false := by simpa using h8
      have HC := Kept.mk (show okE E = false by unfold okE; rw [show decide (E.key.length ≤ 8) = false by simp; omega]; simp)
      go_enter Tryz.func101, Tryz.ntmps101
      go_wp2
      go_ret
      exact ⟨by rw [HC.out]; rfl, hB.out⟩
  · have d1 : decide ((1 : Int) ≤ E.key.length) = false := by simpa using h1
    have HC := Kept.mk (show okE E = false by unfold okE; rw [show decide (1 ≤ E.key.length) = false by rw [decide_eq_false_iff_not]; omega]; simp)
    go_enter Tryz.func101, Tryz.ntmps101
    go_wp2
    go_ret
    exact ⟨by rw [HC.out]; rfl, hB.out⟩
set_option maxRecDepth 100000 in
set_option maxHeartbeats 2000000 in
theorem rname_any (A B : En) (v u : Value) (w : World) (hv : isEn A v w) (hu : isEn B u w) : Calls Tryz.prog 130 #[v, u] w fun e w' => e = .returned (.bool (nameB A B)) ∧ Below w.heap.size w w' := by
  obtain ⟨pa, ma, rfl, hpa, hma⟩ := hv
  obtain ⟨pb, mb, rfl, hpb, hmb⟩ := hu
  obtain ⟨hB, Va⟩ := ebox w A pa ma hpa hma (w.heap.size) (by simp)
  obtain ⟨hBn, Vb⟩ := ebox (w.alloc (.cells #[.string ⟨A.key.toArray⟩, .int .i64 A.val.kind, .int .i64 A.val.time, .int .i64 A.val.node, .bool A.val.dead, .string ⟨A.val.text.toArray⟩, pa, ma, .int .u64 (A.val.flags.toNat : Int)] 30)) B pb mb (stable_cells _ _ _ _ hpb hB.out) (stable_cells _ _ _ _ hmb hB.out) (w.heap.size + 1) (by simp)
  replace Va := Kept.mk (Va.out.keep hBn.out)
  replace hB := Kept.mk (hB.out.trans (hBn.out.mono hB.out.size))
  clear hBn
  clear hpa hma hpb hmb
  obtain ⟨qa, ra, xa, ya, ka0, ka1, ka2, ka3, ka4, ka5, ka6, ka7, ka8⟩ := Va.out.open_
  have Xa := Kept.mk xa
  have Ya := Kept.mk ya
  clear xa ya
  obtain ⟨qb, rb, xb, yb, kb0, kb1, kb2, kb3, kb4, kb5, kb6, kb7, kb8⟩ := Vb.out.open_
  have Xb := Kept.mk xb
  have Yb := Kept.mk yb
  clear xb yb
  cases hk : (A.val.kind == B.val.kind) with
  | false =>
    have HC := Kept.mk (show nameB A B = false by unfold nameB; rw [show decide (A.val.kind = B.val.kind) = false by simpa using hk]; rfl)
    go_enter Tryz.func130, Tryz.ntmps130
    go_wp2
    go_ret
    exact ⟨by rw [HC.out]; rfl, hB.out⟩
  | true =>
    have HC := Kept.mk (show nameB A B = (A.key == B.key) by unfold nameB; rw [show decide (A.val.kind = B.val.kind) = true by simpa using hk, Bool.true_and]; by_cases h : A.key = B.key <;> simp [h])
    go_enter Tryz.func130, Tryz.ntmps130
    go_wp2
    go_ret
    exact ⟨by rw [HC.out]; rfl, hB.out⟩
end Go.Proofs.YtbgconagkgfplaaGreat
end
section
namespace Go.Proofs.YtbgconagkgfplaaGreat
open Go.RowKit Go.Shelf
set_option linter.unusedVariables false
set_option linter.unusedSimpArgs false

abbrev RowE := List (En × Value × Value)
structure OutV (N : Nat) (v : Value) (ps : RowE) (W : World) : Prop where
  own : W.ownsRow N 30 9 v ps.length (flatE ps)
  rows : RowsOk ps W
  off : ∀ q ∈ ps, ∀ b, v.ownBlock = some b → OffQ b q
theorem outV_nil (N : Nat) (W : World) : OutV N (.slice none 0 0) [] W := ⟨World.ownsRow_nil _ _ _ _, (fun q hq => by cases hq), (fun q hq => by cases hq)⟩
theorem OutV.keep {N : Nat} {v : Value} {ps : RowE} {W W' : World} (h : OutV N v ps W) (hb : Below W.heap.size W W') : OutV N v ps W' :=
  ⟨own_grow h.own hb, fun q hq => ⟨stable_cells _ _ _ _ (h.rows q hq).1 hb, stable_cells _ _ _ _ (h.rows q hq).2 hb⟩, h.off⟩
theorem OutV.ens {N : Nat} {v : Value} {ps : RowE} {W : World} (h : OutV N v ps W) : isEns (ps.map (·.1)) v W := own_ens h.own h.rows
theorem OutV.low {N N' : Nat} {v : Value} {ps : RowE} {W : World} (h : OutV N v ps W) (hN : N' ≤ N) : OutV N' v ps W := ⟨own_low h.own hN, h.rows, h.off⟩
theorem OutV.len {N : Nat} {v : Value} {ps : RowE} {W : World} (h : OutV N v ps W) : ∃ a c, v = .slice a ps.length c := by
  obtain ⟨_, ⟨rfl, h0⟩ | ⟨g, cap, cur, rfl, _⟩⟩ := h.own
  · exact ⟨_, _, by rw [h0]⟩
  · exact ⟨_, _, rfl⟩
/-- A row of entries as append reads it. -/
def SrcE (u : Value) (ps : RowE) (w : World) : Prop := (u = .slice none 0 0 ∧ ps = []) ∨ ∃ (a : Addr) (c : Nat), u = .slice (some a) ps.length c ∧ ∀ (j : Nat) (x : Value), (flatE ps)[j]? = some x → w.cell? (a.add j) = some x
theorem add_at (b off j : Nat) : (⟨b, off, none⟩ : Addr).add j = ⟨b, off + j, none⟩ := by
  by_cases e : j = 0
  · subst e; simp [Addr.add]
  · simp [Addr.add, e]
theorem flatE_at : ∀ {ps : RowE} {j : Nat} {x : Value}, (flatE ps)[j]? = some x → ∃ q, ps[j / 9]? = some q ∧ (enL q.1 q.2.1 q.2.2)[j % 9]? = some x
  | [], j, x, h => by simp [flatE] at h
  | p :: ps, j, x, h => by
    rw [flatE_cons] at h
    by_cases hj : j < 9
    · rw [List.getElem?_append_left (show j < (enL p.1 p.2.1 p.2.2).length from hj)] at h
      rw [Nat.div_eq_of_lt hj, Nat.mod_eq_of_lt hj]
      exact ⟨p, rfl, h⟩
    · rw [List.getElem?_append_right (show (enL p.1 p.2.1 p.2.2).length ≤ j from by show 9 ≤ j; omega)] at h
      have h' : (flatE ps)[j - 9]? = some x := h
      obtain ⟨q, h1, h2⟩ := flatE_at h'
      have e1 : j / 9 = (j - 9) / 9 + 1 := by omega
      have e2 : j % 9 = (j - 9) % 9 := by omega
      rw [e1, e2, List.getElem?_cons_succ]
      exact ⟨q, h1, h2⟩
theorem ens_rows : ∀ (l : List En) (b off : Nat) (w : World), (∀ (j : Nat) (E : En), l[j]? = some E → EnAt w b (off + j * 9) E) → ∃ ps : RowE, ps.map (·.1) = l ∧ RowsOk ps w ∧ ∀ (j : Nat) (q : En × Value × Value), ps[j]? = some q → ∀ (i : Nat) (x : Value), (enL q.1 q.2.1 q.2.2)[i]? = some x → w.cell? ⟨b, off + j * 9 + i, none⟩ = some x
  | [], b, off, w, h => ⟨[], rfl, (fun q hq => by cases hq), fun j q hq => by simp at hq⟩
  | E :: l, b, off, w, h => by
    obtain ⟨vp, vm, hc, hp, hm⟩ := h 0 E rfl
    obtain ⟨ps, h1, h2, h3⟩ := ens_rows l b (off + 9) w (fun j F hF => by
      have := h (j + 1) F (by rw [List.getElem?_cons_succ]; exact hF)
      rwa [show off + (j + 1) * 9 = off + 9 + j * 9 by omega] at this)
    refine ⟨(E, vp, vm) :: ps, by rw [List.map_cons, h1], fun q hq => ?_, fun j q hq i x hx => ?_⟩
    · rcases List.mem_cons.1 hq with rfl | hq
      · exact ⟨hp, hm⟩
      · exact h2 q hq
    · cases j with
      | zero =>
        simp only [List.getElem?_cons_zero, Option.some.injEq] at hq
        subst hq
        exact hc i x hx
      | succ j =>
        rw [List.getElem?_cons_succ] at hq
        have := h3 j q hq i x hx
        rwa [show off + 9 + j * 9 + i = off + (j + 1) * 9 + i by omega] at this
/-- Rows of entries stand elsewhere. -/
theorem off_old {w0 : World} {ps : RowE} (h : RowsOk ps w0) {b : Nat} (hb : w0.heap.size ≤ b) : ∀ q ∈ ps, OffQ b q := fun q hq =>
  ⟨(cells_lt (h q hq).1).imp id (fun h3 e => by have := h3 b e; omega), (cells_lt (h q hq).2).imp id (fun h3 e => by have := h3 b e; omega)⟩
theorem ones_flat {ps : RowE} {w : World} (h : RowsOk ps w) : ∀ u ∈ flatE ps, u.oneCell' = true := by
  intro u hu
  unfold flatE at hu
  obtain ⟨q, hq, hu⟩ := List.mem_flatMap.1 hu
  exact ones_en (h q hq).1.one (h q hq).2.one u hu
theorem run_append_ens {N : Nat} {v : Value} {ps : RowE} {w : World} (h : OutV N v ps w) {u : Value} {ps2 : RowE} (hu : SrcE u ps2 w) (hr2 : RowsOk ps2 w) (hoff : ∀ q ∈ ps2, ∀ b, v.ownBlock = some b → OffQ b q) (hn : ps.length + ps2.length ≤ 1000) (hN : N ≤ w.heap.size) (ty : TypeId) :
    ∃ v' w', (Builtin.append_ #[22, 22] ty #[v, u]).run Tryz.prog w = .ok v' w' ∧ OutV N v' (ps ++ ps2) w' ∧ w.grownBy w' v.ownBlock := by
  obtain ⟨ie, hie, hz, hsz⟩ : ∃ ie, Tryz.prog.info? 30 = some ie ∧ ie.zero = some (.agg #[.string ⟨#[]⟩, .int .i64 0, .int .i64 0, .int .i64 0, .bool false, .string ⟨#[]⟩, .slice none 0 0, .slice none 0 0, .int .u64 0]) ∧ ie.size = 9 := by
    have := Tryz.infoEn
    obtain ⟨ie, h1, h2⟩ := Option.map_eq_some_iff.1 this
    simp only [Prod.mk.injEq] at h2
    exact ⟨ie, h1, h2.1, h2.2⟩
  have hbytes : ie.bytes ≤ 100000 := by
    have : (Tryz.prog.info? 30).all (fun i => decide (i.bytes ≤ 100000)) = true := by kernel_rfl
    rw [hie] at this
    simpa using this
  rcases hu with ⟨rfl, rfl⟩ | ⟨a, c, rfl, hcell⟩
  · refine ⟨v, w, run_append_owned_none (P := Tryz.prog) (w := w) N _ ty 30 ie 9 Tryz.underlying22 hie v _ _ h.own, ?_, ⟨rfl, rfl, rfl, Nat.le_refl _, fun _ _ _ => rfl⟩⟩
    rw [List.append_nil]; exact h
  · obtain ⟨v', w', hrun, how, hgr, _, hob⟩ := run_append_own_at (P := Tryz.prog) (w := w) N 22 ty 30 ie (.agg #[.string ⟨#[]⟩, .int .i64 0, .int .i64 0, .int .i64 0, .bool false, .string ⟨#[]⟩, .slice none 0 0, .slice none 0 0, .int .u64 0]) 9 ie.bytes Tryz.underlying22 hie hz hsz rfl rfl (by decide) v ps.length (flatE ps) h.own a ps2.length c (flatE ps2) (flatE_length _) hcell (ones_flat hr2) (by unfold maxLen; omega) (by have : (ps.length + ps2.length) * ie.bytes ≤ 1000 * 100000 := Nat.mul_le_mul hn hbytes; omega) hN
    refine ⟨v', w', hrun, ⟨?_, fun q hq => ?_, fun q hq b hb => ?_⟩, hgr⟩
    · rw [List.length_append]
      have e : flatE (ps ++ ps2) = flatE ps ++ flatE ps2 := by unfold flatE; simp
      rw [e]; exact how
    · have key : ∀ q, isCells (q.1.val.plus.map intC) q.2.1 w ∧ isCells (q.1.val.minus.map intC) q.2.2 w → (∀ b, v.ownBlock = some b → OffQ b q) → isCells (q.1.val.plus.map intC) q.2.1 w' ∧ isCells (q.1.val.minus.map intC) q.2.2 w' := by
        intro q hc ho
        refine ⟨hgr.cells hc.1 ?_, hgr.cells hc.2 ?_⟩
        · by_cases e : q.1.val.plus.map intC = []
          · exact .inl e
          · exact .inr (fun s hs => ((ho s hs).1.resolve_left e))
        · by_cases e : q.1.val.minus.map intC = []
          · exact .inl e
          · exact .inr (fun s hs => ((ho s hs).2.resolve_left e))
      rcases List.mem_append.1 hq with hq | hq
      · exact key q (h.rows q hq) (h.off q hq)
      · exact key q (hr2 q hq) (hoff q hq)
    · rcases hob with e | e
      · rw [e] at hb
        exact (List.mem_append.1 hq).elim (fun hq => h.off q hq b hb) (fun hq => hoff q hq b hb)
      · rw [e] at hb
        injection hb with hb
        subst hb
        exact (List.mem_append.1 hq).elim (fun hq => off_old h.rows (Nat.le_refl _) q hq) (fun hq => off_old hr2 (Nat.le_refl _) q hq)
theorem wpList_append_ens {ops : Array Oper} {rest : List Oper} {o : Oper} {a : Act} {w : World} {Q : Exit → Act → World → Prop} (hgd : o.guard = none) (s x : Operand) (ho : o.op = .call { callee := .builtin .append, args := #[s, x], argTypes := #[22, 22] })
    (N : Nat) (v : Value) (ps : RowE) (hs : a.eval s = v) (h : OutV N v ps w) (u : Value) (ps2 : RowE) (hx : a.eval x = u) (hu : SrcE u ps2 w) (hr2 : RowsOk ps2 w) (hoff : ∀ q ∈ ps2, ∀ b, v.ownBlock = some b → OffQ b q) (hn : ps.length + ps2.length ≤ 1000) (hN : N ≤ w.heap.size)
    (hr : ∀ v' w', OutV N v' (ps ++ ps2) w' → w.grownBy w' v.ownBlock → wpList Tryz.prog ops Q rest (a.put o.dst v') w') : wpList Tryz.prog ops Q (o :: rest) a w := by
  refine wpList_plain hgd fun K hK => ?_
  obtain ⟨v', w', hrun, h1, h2⟩ := run_append_ens h hu hr2 hoff hn hN o.type
  unfold Oper.wp execOp
  rw [ho]
  simp only [resolve, Sem.run_bind, Sem.run_pure, Result.andThen_ok, invoke, builtin, List.map_toArray, List.map_cons, List.map_nil, hs, hx, hrun, Oper.upon]
  exact hK _ _ (hr v' w' h1 h2)
/-- A row of entries that is new, with new rows. -/
def isEnsN (N : Nat) (l : List En) : VP := fun v w => ∃ ps : RowE, ps.map (·.1) = l ∧ OutV N v ps w ∧ ∀ q ∈ ps, NewB N q.2.1 ∧ NewB N q.2.2
theorem isEnsN.ens {N : Nat} {l : List En} {v : Value} {w : World} (h : isEnsN N l v w) : isEns l v w := by
  obtain ⟨ps, rfl, h1, _⟩ := h
  exact h1.ens
/-- What is older than the row stays. -/
theorem grown_below {w0 w w' : World} {N : Nat} {v : Value} {ps : RowE} (h : OutV N v ps w) (hg : w.grownBy w' v.ownBlock) (hb : Below w0.heap.size w0 w) (hN : w0.heap.size ≤ N) : Below w0.heap.size w0 w' := by
  refine ⟨hg.os.trans hb.os, hg.tape.trans hb.tape, hg.output.trans hb.output, Nat.le_trans hb.size hg.size, fun b hlt => (hg.block b (Nat.lt_of_lt_of_le hlt hb.size) (fun e => ?_)).trans (hb.block b hlt)⟩
  have := (h.own.lt b e.symm).1
  omega
end Go.Proofs.YtbgconagkgfplaaGreat
end
section
namespace Go.Proofs.YtbgconagkgfplaaGreat
open Go.RowKit
set_option linter.unusedVariables false
set_option linter.unusedSimpArgs false

def OutI (N : Nat) (v : Value) (xs : List Int) (w : World) : Prop := w.ownsRow N 3 1 v xs.length (xs.map intC)
theorem outI_nil (N : Nat) (w : World) : OutI N (.slice none 0 0) [] w := World.ownsRow_nil _ _ _ _
theorem OutI.keep {N : Nat} {v : Value} {xs : List Int} {w w' : World} (h : OutI N v xs w) (hb : Below w.heap.size w w') : OutI N v xs w' := own_grow h hb
theorem OutI.low {N N' : Nat} {v : Value} {xs : List Int} {w : World} (h : OutI N v xs w) (hN : N' ≤ N) : OutI N' v xs w := own_low h hN
theorem OutI.cells {N : Nat} {v : Value} {xs : List Int} {w : World} (h : OutI N v xs w) : isCells (xs.map intC) v w := by
  refine isOwn.cells (B := N) (e := 3) ?_
  unfold isOwn
  rw [List.length_map]
  exact h
theorem OutI.len {N : Nat} {v : Value} {xs : List Int} {w : World} (h : OutI N v xs w) : ∃ a c, v = .slice a xs.length c := by
  obtain ⟨_, ⟨rfl, h0⟩ | ⟨g, cap, cur, rfl, _⟩⟩ := h
  · exact ⟨_, _, by rw [h0]⟩
  · exact ⟨_, _, rfl⟩
def SrcI (u : Value) (ys : List Int) (w : World) : Prop := (u = .slice none 0 0 ∧ ys = []) ∨ ∃ (a : Addr) (c : Nat), u = .slice (some a) ys.length c ∧ ∀ (j : Nat) (x : Int), ys[j]? = some x → w.cell? (a.add j) = some (intC x)
theorem own_cells {N : Nat} {xs : List Int} {w : World} {g : Nat} {cur : Array Value} (hg : w.heap[g]? = some (.cells cur 3 (0, 0))) (ht : cur.toList.take (xs.length * 1) = xs.map intC) {j : Nat} {x : Int} (hx : xs[j]? = some x) : w.cell? ⟨g, j, none⟩ = some (intC x) := by
  have h2 : (xs.map intC)[j]? = some (intC x) := by rw [List.getElem?_map, hx]; rfl
  rw [← ht, List.getElem?_take] at h2
  split at h2
  · simpa [World.cell?, hg] using h2
  · cases h2
theorem helem : Tryz.prog.underlying 23 = some (.slice (Tryz.prog.elem 23)) := by kernel_rfl
theorem hsize1 (w : World) : (sizeOf (Tryz.prog.elem 23)).run Tryz.prog w = .ok 1 w := by
  have h : (Tryz.prog.info? (Tryz.prog.elem 23)).map (·.size) = some 1 := by kernel_rfl
  obtain ⟨ie, hie, hz⟩ := Option.map_eq_some_iff.1 h
  simp [sizeOf, typeInfo, hie, hz]
theorem slice_hi_run {N : Nat} {v : Value} {xs : List Int} {w : World} (h : OutI N v xs w) {r : Nat} (hr : r ≤ xs.length) : ∃ u, (Instr.sliceAt 23 v none (some (.int .i64 (r : Int))) none).run Tryz.prog w = .ok u w ∧ SrcI u (xs.take r) w := by
  obtain ⟨hl, ⟨rfl, h0⟩ | ⟨g, cap, cur, rfl, hB, hg, hn, hc, hcs, ht⟩⟩ := h
  · have : xs = [] := List.eq_nil_of_length_eq_zero h0
    subst this
    obtain rfl : r = 0 := by simpa using hr
    refine ⟨.slice none 0 0, ?_, .inl ⟨rfl, rfl⟩⟩
    rw [run_sliceAt_slice (h := helem), run_slice_h (ht := helem) (h0 := by omega) (h2 := by omega), hsize1]
    rfl
  · refine ⟨_, by rw [run_sliceAt_slice (h := helem), run_slice_h (ht := helem) (h0 := by omega) (h2 := by omega), hsize1]; rfl, .inr ⟨⟨g, 0, none⟩, cap, ?_, fun j x hx => ?_⟩⟩
    · unfold sliced
      simp [List.length_take, Nat.min_eq_left hr, Addr.add]
    · rw [add_at, Nat.zero_add]
      rw [List.getElem?_take] at hx
      split at hx
      · exact own_cells (N := N) hg ht hx
      · cases hx
theorem slice_lo_run {N : Nat} {v : Value} {xs : List Int} {w : World} (h : OutI N v xs w) {r : Nat} (hr : r ≤ xs.length) : ∃ u, (Instr.sliceAt 23 v (some (.int .i64 (r : Int))) none none).run Tryz.prog w = .ok u w ∧ SrcI u (xs.drop r) w := by
  obtain ⟨hl, ⟨rfl, h0⟩ | ⟨g, cap, cur, rfl, hB, hg, hn, hc, hcs, ht⟩⟩ := h
  · have : xs = [] := List.eq_nil_of_length_eq_zero h0
    subst this
    obtain rfl : r = 0 := by simpa using hr
    refine ⟨.slice none 0 0, ?_, .inl ⟨rfl, rfl⟩⟩
    rw [run_sliceAt_slice (h := helem), run_slice_l (ht := helem) (h0 := by omega) (h1 := by simp), hsize1]
    rfl
  · by_cases hcr : cap = r
    · have hd : xs.drop r = [] := List.drop_eq_nil_of_le (by omega)
      refine ⟨_, by rw [run_sliceAt_slice (h := helem), run_slice_l (ht := helem) (h0 := by omega) (h1 := by omega), hsize1]; rfl, .inr ⟨⟨g, 0, none⟩, 0, ?_, fun j x hx => by rw [hd] at hx; simp at hx⟩⟩
      unfold sliced
      rw [hd]
      simp [hcr]
      omega
    · refine ⟨_, by rw [run_sliceAt_slice (h := helem), run_slice_l (ht := helem) (h0 := by omega) (h1 := by omega), hsize1]; rfl, .inr ⟨⟨g, r, none⟩, cap - r, ?_, fun j x hx => ?_⟩⟩
      · unfold sliced
        rw [if_neg (by simpa using hcr)]
        simp [add_at]
      · rw [add_at]
        rw [List.getElem?_drop] at hx
        exact own_cells (N := N) hg ht hx
theorem run_append_ints {N : Nat} {v : Value} {xs : List Int} {w : World} (h : OutI N v xs w) {u : Value} {ys : List Int} (hu : SrcI u ys w) (hn : xs.length + ys.length ≤ 100000) (hN : N ≤ w.heap.size) (ty : TypeId) :
    ∃ v' w', (Builtin.append_ #[23, 23] ty #[v, u]).run Tryz.prog w = .ok v' w' ∧ OutI N v' (xs ++ ys) w' ∧ w.grownBy w' v.ownBlock := by
  obtain ⟨ie, hie, hz, hsz⟩ : ∃ ie, Tryz.prog.info? 3 = some ie ∧ ie.zero = some (.int .i64 0) ∧ ie.size = 1 := by
    have : (Tryz.prog.info? 3).map (fun i => (i.zero, i.size)) = some (some (.int .i64 0), 1) := by kernel_rfl
    obtain ⟨ie, h1, h2⟩ := Option.map_eq_some_iff.1 this
    simp only [Prod.mk.injEq] at h2
    exact ⟨ie, h1, h2.1, h2.2⟩
  have hbytes : ie.bytes ≤ 100000 := by
    have : (Tryz.prog.info? 3).all (fun i => decide (i.bytes ≤ 100000)) = true := by kernel_rfl
    rw [hie] at this
    simpa using this
  rcases hu with ⟨rfl, rfl⟩ | ⟨a, c, rfl, hcell⟩
  · refine ⟨v, w, run_append_owned_none (P := Tryz.prog) (w := w) N _ ty 3 ie 1 Tryz.underlying23 hie v _ _ h, ?_, ⟨rfl, rfl, rfl, Nat.le_refl _, fun _ _ _ => rfl⟩⟩
    rw [List.append_nil]; exact h
  · obtain ⟨v', w', hrun, how, hgr, _, hob⟩ := run_append_own_at (P := Tryz.prog) (w := w) N 23 ty 3 ie (.int .i64 0) 1 ie.bytes Tryz.underlying23 hie hz hsz rfl rfl (by decide) v xs.length (xs.map intC) h a ys.length c (ys.map intC) (by rw [List.length_map, Nat.mul_one]) (fun j u hj => by
      rw [List.getElem?_map] at hj
      obtain ⟨x, hx, rfl⟩ := Option.map_eq_some_iff.1 hj
      exact hcell j x hx) (fun u hu => by obtain ⟨x, _, rfl⟩ := List.mem_map.1 hu; rfl) (by unfold maxLen; omega) (by have : (xs.length + ys.length) * ie.bytes ≤ 100000 * 100000 := Nat.mul_le_mul hn hbytes; omega) hN
    refine ⟨v', w', hrun, ?_, hgr⟩
    unfold OutI
    rw [List.length_append, List.map_append]
    exact how
section
variable {ops : Array Oper} {rest : List Oper} {o : Oper} {a : Act} {w : World} {Q : Exit → Act → World → Prop}
theorem wpList_append_ints (hgd : o.guard = none) (s x : Operand) (ho : o.op = .call { callee := .builtin .append, args := #[s, x], argTypes := #[23, 23] })
    (N : Nat) (v : Value) (xs : List Int) (hs : a.eval s = v) (h : OutI N v xs w) (u : Value) (ys : List Int) (hx : a.eval x = u) (hu : SrcI u ys w) (hn : xs.length + ys.length ≤ 100000) (hN : N ≤ w.heap.size)
    (hr : ∀ v' w', OutI N v' (xs ++ ys) w' → w.grownBy w' v.ownBlock → wpList Tryz.prog ops Q rest (a.put o.dst v') w') : wpList Tryz.prog ops Q (o :: rest) a w := by
  refine wpList_plain hgd fun K hK => ?_
  obtain ⟨v', w', hrun, h1, h2⟩ := run_append_ints h hu hn hN o.type
  unfold Oper.wp execOp
  rw [ho]
  simp only [resolve, Sem.run_bind, Sem.run_pure, Result.andThen_ok, invoke, builtin, List.map_toArray, List.map_cons, List.map_nil, hs, hx, hrun, Oper.upon]
  exact hK _ _ (hr v' w' h1 h2)
theorem wpList_slice_hi (hgd : o.guard = none) (x y : Operand) (ho : o.op = .slice 23 x none (some y) none) (N : Nat) (v : Value) (xs : List Int) (r : Nat) (hx : a.eval x = v) (hy : a.eval y = .int .i64 (r : Int)) (h : OutI N v xs w) (hle : r ≤ xs.length)
    (hr : ∀ u, SrcI u (xs.take r) w → wpList Tryz.prog ops Q rest (a.put o.dst u) w) : wpList Tryz.prog ops Q (o :: rest) a w := by
  refine wpList_plain hgd fun K hK => ?_
  obtain ⟨u, hrun, h1⟩ := slice_hi_run h hle
  unfold Oper.wp execOp
  rw [ho]
  simp only [Option.map_some, Option.map_none, hx, hy, hrun, Sem.run_bind, Sem.run_pure, Result.andThen_ok, Oper.upon]
  exact hK _ _ (hr u h1)
theorem wpList_slice_lo (hgd : o.guard = none) (x y : Operand) (ho : o.op = .slice 23 x (some y) none none) (N : Nat) (v : Value) (xs : List Int) (r : Nat) (hx : a.eval x = v) (hy : a.eval y = .int .i64 (r : Int)) (h : OutI N v xs w) (hle : r ≤ xs.length)
    (hr : ∀ u, SrcI u (xs.drop r) w → wpList Tryz.prog ops Q rest (a.put o.dst u) w) : wpList Tryz.prog ops Q (o :: rest) a w := by
  refine wpList_plain hgd fun K hK => ?_
  obtain ⟨u, hrun, h1⟩ := slice_lo_run h hle
  unfold Oper.wp execOp
  rw [ho]
  simp only [Option.map_some, Option.map_none, hx, hy, hrun, Sem.run_bind, Sem.run_pure, Result.andThen_ok, Oper.upon]
  exact hK _ _ (hr u h1)
end
theorem SrcI.keep {u : Value} {ys : List Int} {w w' : World} (h : SrcI u ys w) (hb : Below w.heap.size w w') : SrcI u ys w' := by
  rcases h with h | ⟨a, c, e, hc⟩
  · exact .inl h
  · exact .inr ⟨a, c, e, fun j x hx => (hb.cell (World.block_lt_of_cell? w _ (hc j x hx))).trans (hc j x hx)⟩
theorem srcI_one (k : Int) (w : World) : SrcI (.slice (some ⟨w.heap.size, 0, none⟩) 1 1) [k] (w.alloc (.cells #[.int .i64 k] 3)) := by
  refine .inr ⟨⟨w.heap.size, 0, none⟩, 1, rfl, fun j x hx => ?_⟩
  rw [add_at, Nat.zero_add, World.cell?_alloc_new]
  cases j with
  | zero => simp at hx; subst hx; rfl
  | succ j => simp at hx
theorem grown_belowI {w0 w w' : World} {N : Nat} {v : Value} {xs : List Int} (h : OutI N v xs w) (hg : w.grownBy w' v.ownBlock) (hb : Below w0.heap.size w0 w) (hN : w0.heap.size ≤ N) : Below w0.heap.size w0 w' := by
  refine ⟨hg.os.trans hb.os, hg.tape.trans hb.tape, hg.output.trans hb.output, Nat.le_trans hb.size hg.size, fun b hlt => (hg.block b (Nat.lt_of_lt_of_le hlt hb.size) (fun e => ?_)).trans (hb.block b hlt)⟩
  have := (World.ownsRow.lt h b e.symm).1
  omega
end Go.Proofs.YtbgconagkgfplaaGreat
end
section
namespace Go.Proofs.YtbgconagkgfplaaGreat
set_option linter.unusedVariables false
set_option linter.unusedSimpArgs false

/-- How many of the first are ahead of x. -/
def rankN (l : List En) (x : En) : Nat := (l.takeWhile (fun y => lessE y x)).length
def idxStep (l : List En) (out : List Int) (i : Nat) : List Int :=
  out.take (rankN (out.map (slotAt l)) (slotAt l i)) ++ ((i : Int) :: out.drop (rankN (out.map (slotAt l)) (slotAt l i)))
def idxP (l : List En) : Nat → List Int
  | 0 => []
  | i + 1 => idxStep l (idxP l i) i
def idxM (l : List En) : List Int := idxP l l.length
def apartB (l : List En) : Bool := decide (l.Pairwise (fun a b => nameB b a = false))
def slotsB (l : List En) : Bool := l.all okE && apartB l

theorem rank_pos : ∀ {l : List En} {x : En}, Asc l → rankN l x = posN l x
  | [], x, _ => rfl
  | a :: l, x, h => by
    have ih := rank_pos (x := x) (List.Pairwise.of_cons h)
    unfold rankN at ih ⊢
    cases ha : lessE a x with
    | true => rw [pos_cons_yes ha, List.takeWhile_cons_of_pos (p := fun y => lessE y x) ha, List.length_cons, ih]
    | false => rw [pos_cons_no h ha, List.takeWhile_cons_of_neg (p := fun y => lessE y x) (by rw [ha]; decide)]; rfl
theorem rank_le (l : List En) (x : En) : rankN l x ≤ l.length := by
  unfold rankN; exact (List.takeWhile_prefix _).length_le
theorem rank_spec {l : List En} {x : En} : (∀ (j : Nat) (y : En), j < rankN l x → l[j]? = some y → lessE y x = true) ∧ (∀ y, l[rankN l x]? = some y → lessE y x = false) := by
  induction l with
  | nil => exact ⟨fun j y hj => by simp [rankN] at hj, fun y hy => by simp at hy⟩
  | cons a l ih =>
    obtain ⟨i1, i2⟩ := ih
    unfold rankN at *
    cases ha : lessE a x with
    | true =>
      rw [List.takeWhile_cons_of_pos (p := fun y => lessE y x) ha, List.length_cons]
      refine ⟨fun j y hj hy => ?_, fun y hy => ?_⟩
      · cases j with
        | zero => simp at hy; rw [← hy]; exact ha
        | succ j => rw [List.getElem?_cons_succ] at hy; exact i1 j y (by omega) hy
      · rw [List.getElem?_cons_succ] at hy; exact i2 y hy
    | false =>
      rw [List.takeWhile_cons_of_neg (p := fun y => lessE y x) (by rw [ha]; decide)]
      refine ⟨fun j y hj => by simp at hj, fun y hy => ?_⟩
      simp at hy; rw [← hy]; exact ha
theorem hit_none {l : List En} {x : En} (h : ∀ y ∈ l, nameB y x = false) : hitB l x = false := by
  cases hh : hitB l x with
  | false => rfl
  | true =>
    obtain ⟨y, hy, hn⟩ := hit_pos hh
    rw [h y (List.mem_of_getElem? hy)] at hn; cases hn
theorem apart_at {l : List En} (h : apartB l = true) {i j : Nat} {a b : En} (hi : l[i]? = some a) (hj : l[j]? = some b) (hlt : j < i) : nameB a b = false := by
  unfold apartB at h
  rw [decide_eq_true_eq] at h
  have h1 := (List.getElem?_eq_some_iff.1 hi)
  have h2 := (List.getElem?_eq_some_iff.1 hj)
  have := List.pairwise_iff_getElem.1 h j i h2.1 h1.1 hlt
  rw [h1.2, h2.2] at this
  exact this
theorem apart_of {l : List En} (h : ∀ (i j : Nat) (a b : En), l[i]? = some a → l[j]? = some b → j < i → nameB a b = false) : apartB l = true := by
  unfold apartB
  rw [decide_eq_true_eq]
  refine List.pairwise_iff_getElem.2 fun j i hj hi hlt => ?_
  exact h i j _ _ (List.getElem?_eq_getElem hi) (List.getElem?_eq_getElem hj) hlt
theorem slotAt_get {l : List En} {i : Nat} (h : i < l.length) : l[i]? = some (slotAt l (i : Int)) := slotAt_nat l i ⟨by omega, by omega⟩
/-- What the document's index is, as far as it has come. -/
theorem idxP_ok {l : List En} (h : apartB l = true) : ∀ i, i ≤ l.length → (idxP l i).length = i ∧ (∀ p ∈ idxP l i, 0 ≤ p ∧ p < i) ∧ Asc ((idxP l i).map (slotAt l))
  | 0, _ => ⟨rfl, fun p hp => by simp [idxP] at hp, List.Pairwise.nil⟩
  | i + 1, hi => by
    obtain ⟨h1, h2, h3⟩ := idxP_ok h i (by omega)
    have hr := rank_le ((idxP l i).map (slotAt l)) (slotAt l i)
    rw [List.length_map] at hr
    have hno : hitB ((idxP l i).map (slotAt l)) (slotAt l i) = false := hit_none fun y hy => by
      obtain ⟨p, hp, rfl⟩ := List.mem_map.1 hy
      have hpr := h2 p hp
      have := apart_at h (i := i) (j := p.toNat) (a := slotAt l i) (b := slotAt l p) (slotAt_get (by omega)) (by rw [slotAt_get (by omega)]; congr 2; omega) (by omega)
      rw [name_comm]; exact this
    refine ⟨?_, ?_, ?_⟩
    · show (idxStep l (idxP l i) i).length = _
      unfold idxStep
      rw [List.length_append, List.length_cons, List.length_take, List.length_drop]; omega
    · intro p hp
      have hp : p ∈ idxStep l (idxP l i) i := hp
      unfold idxStep at hp
      rcases List.mem_append.1 hp with hp | hp
      · have := h2 p (List.mem_of_mem_take hp); omega
      · rcases List.mem_cons.1 hp with rfl | hp
        · omega
        · have := h2 p (List.mem_of_mem_drop hp); omega
    · have e : (idxStep l (idxP l i) i).map (slotAt l) = insE ((idxP l i).map (slotAt l)) (slotAt l i) := by
        unfold idxStep insE
        rw [rank_pos h3, List.map_append, List.map_cons, List.map_take, List.map_drop]
      show Asc ((idxStep l (idxP l i) i).map (slotAt l))
      rw [e]
      exact asc_ins h3 hno
theorem map_inj_in {α β : Type} {f : α → β} : ∀ {l m : List α}, (∀ x ∈ l, ∀ y ∈ m, f x = f y → x = y) → l.map f = m.map f → l = m
  | [], [], _, _ => rfl
  | [], b :: m, _, h => by simp at h
  | a :: l, [], _, h => by simp at h
  | a :: l, b :: m, hi, h => by
    rw [List.map_cons, List.map_cons, List.cons.injEq] at h
    rw [hi a (by simp) b (by simp) h.1, map_inj_in (fun x hx y hy => hi x (by simp [hx]) y (by simp [hy])) h.2]
/-- All places stand in a rising index of as many places. -/
theorem idx_all {l : List En} {idx : List Int} (h1 : idx.length = l.length) (h2 : ∀ p ∈ idx, 0 ≤ p ∧ p < l.length) (h3 : Asc (idx.map (slotAt l))) {q : Nat} (hq : q < l.length) : (q : Int) ∈ idx := by
  have hn : (idx.map Int.toNat).Nodup := by
    unfold Asc at h3
    unfold List.Nodup
    rw [List.pairwise_map] at h3 ⊢
    refine h3.imp ?_
    intro a b hab e
    unfold slotAt at hab
    rw [e, lessE_irrefl] at hab
    cases hab
  have hm := nodup_all _ hn (n := l.length) (by
    intro p hp; obtain ⟨r, hr, rfl⟩ := List.mem_map.1 hp; have := h2 r hr; omega) (by rw [List.length_map, h1]) q hq
  obtain ⟨r, hr, e2⟩ := List.mem_map.1 hm
  have := h2 r hr
  rwa [show (q : Int) = r by omega]
theorem idx_apart {l : List En} {idx : List Int} (h1 : idx.length = l.length) (h2 : ∀ p ∈ idx, 0 ≤ p ∧ p < l.length) (h3 : Asc (idx.map (slotAt l))) : apartB l = true := by
  refine apart_of fun i j a b hi hj hlt => ?_
  have li := (List.getElem?_eq_some_iff.1 hi).1
  have lj := (List.getElem?_eq_some_iff.1 hj).1
  obtain ⟨r, hr, er⟩ := List.getElem_of_mem (idx_all h1 h2 h3 li)
  obtain ⟨s, hs, es⟩ := List.getElem_of_mem (idx_all h1 h2 h3 lj)
  have ha : slotAt l (i : Int) = a := slotAt_some hi
  have hb : slotAt l (j : Int) = b := slotAt_some hj
  unfold Asc at h3
  rw [List.pairwise_map] at h3
  cases hn : nameB a b with
  | false => rfl
  | true =>
    exfalso
    have hne : r ≠ s := by rintro rfl; rw [er] at es; omega
    by_cases c : r < s
    · have := List.pairwise_iff_getElem.1 h3 r s hr hs c
      rw [er, es, ha, hb, less_name _ _ hn] at this; cases this
    · have := List.pairwise_iff_getElem.1 h3 s r hs hr (by omega)
      rw [er, es, ha, hb, less_name _ _ (name_symm hn)] at this; cases this
theorem slotAt_inj {l : List En} (h : apartB l = true) {p q : Int} (hp : 0 ≤ p ∧ p < l.length) (hq : 0 ≤ q ∧ q < l.length) (e : slotAt l p = slotAt l q) : p = q := by
  have gp := slotAt_nat l p hp
  have gq := slotAt_nat l q hq
  by_cases c1 : p.toNat < q.toNat
  · have := apart_at h gq gp c1; rw [e, name_self] at this; cases this
  · by_cases c2 : q.toNat < p.toNat
    · have := apart_at h gp gq c2; rw [e, name_self] at this; cases this
    · omega
theorem idx_unique {l : List En} {a b : List Int} (a1 : a.length = l.length) (a2 : ∀ p ∈ a, 0 ≤ p ∧ p < l.length) (a3 : Asc (a.map (slotAt l))) (b1 : b.length = l.length) (b2 : ∀ p ∈ b, 0 ≤ p ∧ p < l.length) (b3 : Asc (b.map (slotAt l))) : a = b := by
  have mem : ∀ {c : List Int}, c.length = l.length → (∀ p ∈ c, 0 ≤ p ∧ p < l.length) → Asc (c.map (slotAt l)) → ∀ x, x ∈ c.map (slotAt l) ↔ x ∈ l := by
    intro c c1 c2 c3 x
    constructor
    · intro hx; obtain ⟨p, hp, rfl⟩ := List.mem_map.1 hx; exact slotAt_mem (c2 p hp)
    · intro hx
      obtain ⟨q, hq⟩ := List.getElem?_of_mem hx
      exact List.mem_map.2 ⟨q, idx_all c1 c2 c3 (List.getElem?_eq_some_iff.1 hq).1, slotAt_some hq⟩
  have e : a.map (slotAt l) = b.map (slotAt l) := asc_ext a3 b3 fun x => (mem a1 a2 a3 x).trans (mem b1 b2 b3 x).symm
  have hap := idx_apart a1 a2 a3
  exact map_inj_in (fun x hx y hy => slotAt_inj hap (a2 x hx) (b2 y hy)) e
/-- The document's way to say that an arena may be. -/
theorem okA_ref (A : Ar) : okA A = (roomB A.cap && (decide ((A.slots.length : Int) ≤ A.cap) && (slotsB A.slots && decide (A.index = idxM A.slots)))) := by
  rw [Bool.eq_iff_iff]
  unfold slotsB
  simp only [Bool.and_eq_true, decide_eq_true_eq]
  constructor
  · intro h0
    have h := okA_iff.1 h0
    have hap : apartB A.slots = true := idx_apart h.len h.rng h.asc
    obtain ⟨i1, i2, i3⟩ := idxP_ok hap _ (Nat.le_refl _)
    unfold okA at h0
    rw [Bool.and_eq_true] at h0
    refine ⟨h0.1, h.fits, ⟨List.all_eq_true.2 h.ents, hap⟩, idx_unique h.len h.rng h.asc i1 i2 i3⟩
  · rintro ⟨h1, h2, ⟨h3, h4⟩, h5⟩
    obtain ⟨i1, i2, i3⟩ := idxP_ok h4 _ (Nat.le_refl _)
    have h5' : A.index = idxP A.slots A.slots.length := h5
    rw [okA_iff]
    unfold roomB at h1
    simp only [Bool.and_eq_true, decide_eq_true_eq] at h1
    refine ⟨h1, h2, List.all_eq_true.1 h3, ?_, ?_, ?_⟩
    · rw [h5']; exact i1
    · rw [h5']; exact i2
    · unfold ordA; rw [h5']; exact i3
theorem okA_index {A : Ar} (h : OkA A) : A.index = idxM A.slots := by
  have := okA_iff.2 h
  rw [okA_ref] at this
  simp only [Bool.and_eq_true, decide_eq_true_eq] at this
  exact this.2.2.2
/-- The place of a name: the first slot that has it. -/
theorem find_ref {A : Ar} (h : OkA A) (x : En) {k : Nat} {e : En} (hk : A.slots[k]? = some e) (hn : nameB e x = true) : findI A x = (k : Int) := by
  have hm := List.mem_of_getElem? hk
  have hh := (hit_iff h).2 ⟨e, hm, hn⟩
  rw [find_hit h hh]
  obtain ⟨p1, _, _, p4⟩ := place_spec h hh
  have hap : apartB A.slots = true := idx_apart h.len h.rng h.asc
  refine slotAt_inj hap p1 ⟨by omega, by have := (List.getElem?_eq_some_iff.1 hk).1; omega⟩ ?_
  rw [slotAt_some hk]
  exact one_name h (slotAt_mem p1) hm (name_trans p4 (name_symm hn))
theorem find_ref_no {A : Ar} (h : OkA A) (x : En) (hn : ∀ e ∈ A.slots, nameB e x = false) : findI A x = -1 := by
  rw [find_ne h]
  cases hh : hitB (ordA A) x with
  | false => rfl
  | true => obtain ⟨e, he, he2⟩ := (hit_iff h).1 hh; rw [hn e he] at he2; cases he2
/-- A new slot's index. -/
theorem join_index {A : Ar} (h : OkA A) {x : En} (hx : okE x = true) (hh : hitB (ordA A) x = false) (hc : ¬ (A.slots.length : Int) = A.cap) : putIdx A x = idxM (A.slots ++ [x]) := okA_index (ok_new h hx hh hc)
end Go.Proofs.YtbgconagkgfplaaGreat
end
section
namespace Go.Proofs.YtbgconagkgfplaaGreat
open Go.RowKit
set_option linter.unusedVariables false
set_option linter.unusedSimpArgs false
attribute [local irreducible] setN

theorem rless_val (A B : En) (z : Bool) (v u : Value) (w : World) (hv : isEn A v w) (hu : isEn B u w) (hz : lessE A B = z) : Calls Tryz.prog 129 #[v, u] w fun e w' => ∃ x, e = .returned x ∧ isVal (.bool z) x w' ∧ Below w.heap.size w w' :=
  (rless_any A B v u w hv hu).mono (by rintro e w' ⟨rfl, h⟩; exact ⟨_, rfl, by rw [hz]; rfl, h⟩)
theorem rname_val (A B : En) (z : Bool) (v u : Value) (w : World) (hv : isEn A v w) (hu : isEn B u w) (hz : nameB A B = z) : Calls Tryz.prog 130 #[v, u] w fun e w' => ∃ x, e = .returned x ∧ isVal (.bool z) x w' ∧ Below w.heap.size w w' :=
  (rname_any A B v u w hv hu).mono (by rintro e w' ⟨rfl, h⟩; exact ⟨_, rfl, by rw [hz]; rfl, h⟩)
noncomputable def rix1Ops : Array Oper := regionOf Tryz.f102 6
set_option maxRecDepth 100000 in
set_option maxHeartbeats 2000000 in
theorem rix1_region (Q : Exit → Act → World → Prop) (a0 : Act) (w0 : World) (hsz : a0.tmps.size = 49) (r k i q n bo oo co bs os cs : Nat) (z : Bool) (X Y : En) (xp xm yp ym : Value) (e5 : a0.tmps.getD 5 undef = .int .i64 (r : Int)) (e3 : a0.tmps.getD 3 undef = (.slice (some ⟨bo, oo, none⟩) k co)) (e0 : a0.tmps.getD 0 undef = (.slice (some ⟨bs, os, none⟩) n cs)) (e4 : a0.tmps.getD 4 undef = .int .i64 (i : Int)) (hrk : r < k) (hqn : q < n) (hin : i < n) (hbo : bo < w0.heap.size) (hq : w0.cell? ⟨bo, oo + r, none⟩ = some (.int .i64 (q : Int))) (hbs : bs < w0.heap.size) (hxc : ∀ (jj : Nat) (x : Value), [.string ⟨X.key.toArray⟩, .int .i64 X.val.kind, .int .i64 X.val.time, .int .i64 X.val.node, .bool X.val.dead, .string ⟨X.val.text.toArray⟩, xp, xm, .int .u64 (X.val.flags.toNat : Int)][jj]? = some x → w0.cell? ⟨bs, os + q * 9 + jj, none⟩ = some x) (hyc : ∀ (jj : Nat) (x : Value), [.string ⟨Y.key.toArray⟩, .int .i64 Y.val.kind, .int .i64 Y.val.time, .int .i64 Y.val.node, .bool Y.val.dead, .string ⟨Y.val.text.toArray⟩, yp, ym, .int .u64 (Y.val.flags.toNat : Int)][jj]? = some x → w0.cell? ⟨bs, os + i * 9 + jj, none⟩ = some x) (hxp : isCells (X.val.plus.map intC) xp w0) (hxm : isCells (X.val.minus.map intC) xm w0) (hyp : isCells (Y.val.plus.map intC) yp w0) (hym : isCells (Y.val.minus.map intC) ym w0) (hz : lessE X Y = z)
    (hQ : ∀ (g : Nat → Value) (w : World), g 30 = .bool z → Below w0.heap.size w0 w → Q .normal { tmps := [13, 14, 15, 16, 17, 18, 19, 20, 21, 22, 23, 24, 25, 26, 27, 28, 29, 30].foldl (fun t s => t.setIfInBounds s (g s)) a0.tmps, defers := a0.defers } w) :
    (Code.region 6 rix1Ops true).wp Tryz.prog Q a0 w0 := by
  refine wp_region_flow mixed (by rw [hsz]; kernel_rfl) ?_
  rw [show rix1Ops.size = 18 by kernel_rfl]
  refine ⟨isVal (.int .i64 (r : Int)), step_move (.tmp 5) (by kernel_rfl) (wanted_none (by kernel_rfl)) (stable_val _) (knows_old 5 (.int .i64 (r : Int)) (by kernel_rfl) e5), ?_⟩
  refine ⟨isVal (.slice (some ⟨bo, oo, none⟩) k co), step_move (.tmp 3) (by kernel_rfl) (wanted_none (by kernel_rfl)) (stable_val _) (knows_old 3 (.slice (some ⟨bo, oo, none⟩) k co) (by kernel_rfl) e3), ?_⟩
  refine ⟨isVal (.int .i64 (k : Int)), step_len 23 (.tmp 14) (.slice (some ⟨bo, oo, none⟩) k co) (.int .i64 (k : Int)) (by kernel_rfl) (wanted_none (by kernel_rfl)) (knows_new (V := isVal (.slice (some ⟨bo, oo, none⟩) k co)) 14 1 (by kernel_rfl) (by kernel_rfl) (by kernel_rfl)) ((fun ty w => by simp [Builtin.len_, run_underlying Tryz.underlying23]; rfl)), ?_⟩
  refine ⟨isVal (.bool true), step_bin .lss 3 3 (.tmp 13) (.tmp 15) (.int .i64 (r : Int)) (.int .i64 (k : Int)) (.bool true) (by kernel_rfl) (wanted_none (by kernel_rfl)) (knows_new (V := isVal (.int .i64 (r : Int))) 13 0 (by kernel_rfl) (by kernel_rfl) (by kernel_rfl)) (knows_new (V := isVal (.int .i64 (k : Int))) 15 2 (by kernel_rfl) (by kernel_rfl) (by kernel_rfl)) (fun _ => rfl) (lss_int _ _ _ _ _ (by simp; omega)), ?_⟩
  refine ⟨isVal (.bool true), step_move (.tmp 16) (by kernel_rfl) (wanted_none (by kernel_rfl)) (stable_val _) (knows_new (V := isVal (.bool true)) 16 3 (by kernel_rfl) (by kernel_rfl) (by kernel_rfl)), ?_⟩
  refine ⟨isVal (.slice (some ⟨bs, os, none⟩) n cs), step_move (.tmp 0) (by kernel_rfl) (wanted_some 4 17 true (by kernel_rfl) (by kernel_rfl) (by kernel_rfl) (by kernel_rfl)) (stable_val _) (knows_old 0 (.slice (some ⟨bs, os, none⟩) n cs) (by kernel_rfl) e0), ?_⟩
  refine ⟨isVal (.slice (some ⟨bo, oo, none⟩) k co), step_move (.tmp 3) (by kernel_rfl) (wanted_some 4 17 true (by kernel_rfl) (by kernel_rfl) (by kernel_rfl) (by kernel_rfl)) (stable_val _) (knows_old 3 (.slice (some ⟨bo, oo, none⟩) k co) (by kernel_rfl) e3), ?_⟩
  refine ⟨isVal (.int .i64 (r : Int)), step_move (.tmp 5) (by kernel_rfl) (wanted_some 4 17 true (by kernel_rfl) (by kernel_rfl) (by kernel_rfl) (by kernel_rfl)) (stable_val _) (knows_old 5 (.int .i64 (r : Int)) (by kernel_rfl) e5), ?_⟩
  refine ⟨isVal (.pointer (some ⟨bo, oo + r, none⟩)), step_place 23 3 (.tmp 19) (.tmp 20) bo (oo) (k) (co) (r) (by kernel_rfl) (wanted_some 4 17 true (by kernel_rfl) (by kernel_rfl) (by kernel_rfl) (by kernel_rfl)) (knows_new (V := isVal (.slice (some ⟨bo, oo, none⟩) k co)) 19 6 (by kernel_rfl) (by kernel_rfl) (by kernel_rfl)) (knows_new (V := isVal (.int .i64 (r : Int))) 20 7 (by kernel_rfl) (by kernel_rfl) (by kernel_rfl)) Tryz.underlying23 (by kernel_rfl) (hrk), ?_⟩
  refine ⟨isVal (.int .i64 (q : Int)), step_read 3 (.tmp 21) ⟨bo, oo + r, none⟩ (.int .i64 (q : Int)) (by kernel_rfl) (wanted_some 4 17 true (by kernel_rfl) (by kernel_rfl) (by kernel_rfl) (by kernel_rfl)) (knows_new (V := isVal (.pointer (some ⟨bo, oo + r, none⟩))) 21 8 (by kernel_rfl) (by kernel_rfl) (by kernel_rfl)) (hq) (hbo) (agg_noZ), ?_⟩
  refine ⟨isVal (.pointer (some ⟨bs, os + q * 9, none⟩)), step_placeE 22 30 (.tmp 18) (.tmp 22) bs (os) (n) (cs) (q) (os + q * 9) (by kernel_rfl) (wanted_some 4 17 true (by kernel_rfl) (by kernel_rfl) (by kernel_rfl) (by kernel_rfl)) (knows_new (V := isVal (.slice (some ⟨bs, os, none⟩) n cs)) 18 5 (by kernel_rfl) (by kernel_rfl) (by kernel_rfl)) (knows_new (V := isVal (.int .i64 (q : Int))) 22 9 (by kernel_rfl) (by kernel_rfl) (by kernel_rfl)) Tryz.underlying22 (by kernel_rfl) (⟨hqn, rfl⟩), ?_⟩
  refine ⟨isVal (.agg #[.string ⟨X.key.toArray⟩, .int .i64 X.val.kind, .int .i64 X.val.time, .int .i64 X.val.node, .bool X.val.dead, .string ⟨X.val.text.toArray⟩, xp, xm, .int .u64 (X.val.flags.toNat : Int)]), step_loadA 30 (.tmp 23) (bs) (os + q * 9) [.string ⟨X.key.toArray⟩, .int .i64 X.val.kind, .int .i64 X.val.time, .int .i64 X.val.node, .bool X.val.dead, .string ⟨X.val.text.toArray⟩, xp, xm, .int .u64 (X.val.flags.toNat : Int)] (by kernel_rfl) (wanted_some 4 17 true (by kernel_rfl) (by kernel_rfl) (by kernel_rfl) (by kernel_rfl)) (knows_new (V := isVal (.pointer (some ⟨bs, os + q * 9, none⟩))) 23 10 (by kernel_rfl) (by kernel_rfl) (by kernel_rfl)) size_en agg_en (⟨hbs, hxc⟩), ?_⟩
  refine ⟨isVal (.slice (some ⟨bs, os, none⟩) n cs), step_move (.tmp 0) (by kernel_rfl) (wanted_some 4 17 true (by kernel_rfl) (by kernel_rfl) (by kernel_rfl) (by kernel_rfl)) (stable_val _) (knows_old 0 (.slice (some ⟨bs, os, none⟩) n cs) (by kernel_rfl) e0), ?_⟩
  refine ⟨isVal (.int .i64 (i : Int)), step_move (.tmp 4) (by kernel_rfl) (wanted_some 4 17 true (by kernel_rfl) (by kernel_rfl) (by kernel_rfl) (by kernel_rfl)) (stable_val _) (knows_old 4 (.int .i64 (i : Int)) (by kernel_rfl) e4), ?_⟩
  refine ⟨isVal (.pointer (some ⟨bs, os + i * 9, none⟩)), step_placeE 22 30 (.tmp 25) (.tmp 26) bs (os) (n) (cs) (i) (os + i * 9) (by kernel_rfl) (wanted_some 4 17 true (by kernel_rfl) (by kernel_rfl) (by kernel_rfl) (by kernel_rfl)) (knows_new (V := isVal (.slice (some ⟨bs, os, none⟩) n cs)) 25 12 (by kernel_rfl) (by kernel_rfl) (by kernel_rfl)) (knows_new (V := isVal (.int .i64 (i : Int))) 26 13 (by kernel_rfl) (by kernel_rfl) (by kernel_rfl)) Tryz.underlying22 (by kernel_rfl) (⟨hin, rfl⟩), ?_⟩
  refine ⟨isVal (.agg #[.string ⟨Y.key.toArray⟩, .int .i64 Y.val.kind, .int .i64 Y.val.time, .int .i64 Y.val.node, .bool Y.val.dead, .string ⟨Y.val.text.toArray⟩, yp, ym, .int .u64 (Y.val.flags.toNat : Int)]), step_loadA 30 (.tmp 27) (bs) (os + i * 9) [.string ⟨Y.key.toArray⟩, .int .i64 Y.val.kind, .int .i64 Y.val.time, .int .i64 Y.val.node, .bool Y.val.dead, .string ⟨Y.val.text.toArray⟩, yp, ym, .int .u64 (Y.val.flags.toNat : Int)] (by kernel_rfl) (wanted_some 4 17 true (by kernel_rfl) (by kernel_rfl) (by kernel_rfl) (by kernel_rfl)) (knows_new (V := isVal (.pointer (some ⟨bs, os + i * 9, none⟩))) 27 14 (by kernel_rfl) (by kernel_rfl) (by kernel_rfl)) size_en agg_en (⟨hbs, hyc⟩), ?_⟩
  refine ⟨isVal (.bool z), step_call 129 #[.tmp 24, .tmp 28] #[30, 30] #[.agg #[.string ⟨X.key.toArray⟩, .int .i64 X.val.kind, .int .i64 X.val.time, .int .i64 X.val.node, .bool X.val.dead, .string ⟨X.val.text.toArray⟩, xp, xm, .int .u64 (X.val.flags.toNat : Int)], .agg #[.string ⟨Y.key.toArray⟩, .int .i64 Y.val.kind, .int .i64 Y.val.time, .int .i64 Y.val.node, .bool Y.val.dead, .string ⟨Y.val.text.toArray⟩, yp, ym, .int .u64 (Y.val.flags.toNat : Int)]] (by kernel_rfl) (wanted_some 4 17 true (by kernel_rfl) (by kernel_rfl) (by kernel_rfl) (by kernel_rfl)) (stable_val _) (args2 (.tmp 24) (.tmp 28) (.agg #[.string ⟨X.key.toArray⟩, .int .i64 X.val.kind, .int .i64 X.val.time, .int .i64 X.val.node, .bool X.val.dead, .string ⟨X.val.text.toArray⟩, xp, xm, .int .u64 (X.val.flags.toNat : Int)]) (.agg #[.string ⟨Y.key.toArray⟩, .int .i64 Y.val.kind, .int .i64 Y.val.time, .int .i64 Y.val.node, .bool Y.val.dead, .string ⟨Y.val.text.toArray⟩, yp, ym, .int .u64 (Y.val.flags.toNat : Int)]) (knows_new (V := isVal (.agg #[.string ⟨X.key.toArray⟩, .int .i64 X.val.kind, .int .i64 X.val.time, .int .i64 X.val.node, .bool X.val.dead, .string ⟨X.val.text.toArray⟩, xp, xm, .int .u64 (X.val.flags.toNat : Int)])) 24 11 (by kernel_rfl) (by kernel_rfl) (by kernel_rfl)) (knows_new (V := isVal (.agg #[.string ⟨Y.key.toArray⟩, .int .i64 Y.val.kind, .int .i64 Y.val.time, .int .i64 Y.val.node, .bool Y.val.dead, .string ⟨Y.val.text.toArray⟩, yp, ym, .int .u64 (Y.val.flags.toNat : Int)])) 28 15 (by kernel_rfl) (by kernel_rfl) (by kernel_rfl))) (enters_of Tryz.func129 (by kernel_rfl) rfl) (by intro w' hb; exact rless_val X Y z _ _ w' (en_mk hxp hxm hb) (en_mk hyp hym hb) hz), ?_⟩
  refine ⟨isVal (.bool z), step_pick (.tmp 17) (.tmp 29) (.const (.bool false)) true (by kernel_rfl) (wanted_none (by kernel_rfl)) (stable_val _) (knows_new (V := isVal (.bool true)) 17 4 (by kernel_rfl) (by kernel_rfl) (by kernel_rfl)) (knows_new (V := isVal (.bool z)) 29 16 (by kernel_rfl) (by kernel_rfl) (by kernel_rfl)), ?_⟩
  intro a w hkp hb hd
  rw [kept_of hkp [some 13, some 14, some 15, some 16, some 17, some 18, some 19, some 20, some 21, some 22, some 23, some 24, some 25, some 26, some 27, some 28, some 29, some 30] [13, 14, 15, 16, 17, 18, 19, 20, 21, 22, 23, 24, 25, 26, 27, 28, 29, 30] (by kernel_rfl) (by decide)]
  have d30 := fdone_of (hd 17 (by rw [show rix1Ops.size = 18 by kernel_rfl]; decide)) (t := 30) (V := isVal (.bool z)) (by kernel_rfl) (by kernel_rfl)
  exact hQ (fun s => a.tmps.getD s undef) w d30 hb
noncomputable def rix2Ops : Array Oper := regionOf Tryz.f102 6
set_option maxRecDepth 100000 in
set_option maxHeartbeats 2000000 in
theorem rix2_region (Q : Exit → Act → World → Prop) (a0 : Act) (w0 : World) (hsz : a0.tmps.size = 49) (r i co : Nat) (a : Option Addr) (vs : Value) (e5 : a0.tmps.getD 5 undef = .int .i64 (r : Int)) (e3 : a0.tmps.getD 3 undef = .slice a r co) (e0 : a0.tmps.getD 0 undef = vs) (e4 : a0.tmps.getD 4 undef = .int .i64 (i : Int))
    (hQ : ∀ (g : Nat → Value) (w : World), g 30 = .bool false → Below w0.heap.size w0 w → Q .normal { tmps := [13, 14, 15, 16, 17, 18, 19, 20, 21, 22, 23, 24, 25, 26, 27, 28, 29, 30].foldl (fun t s => t.setIfInBounds s (g s)) a0.tmps, defers := a0.defers } w) :
    (Code.region 6 rix2Ops true).wp Tryz.prog Q a0 w0 := by
  refine wp_region_flow mixed (by rw [hsz]; kernel_rfl) ?_
  rw [show rix2Ops.size = 18 by kernel_rfl]
  refine ⟨isVal (.int .i64 (r : Int)), step_move (.tmp 5) (by kernel_rfl) (wanted_none (by kernel_rfl)) (stable_val _) (knows_old 5 (.int .i64 (r : Int)) (by kernel_rfl) e5), ?_⟩
  refine ⟨isVal (.slice a (r) co), step_move (.tmp 3) (by kernel_rfl) (wanted_none (by kernel_rfl)) (stable_val _) (knows_old 3 (.slice a (r) co) (by kernel_rfl) e3), ?_⟩
  refine ⟨isVal (.int .i64 (r : Int)), step_len 23 (.tmp 14) (.slice a (r) co) (.int .i64 (r : Int)) (by kernel_rfl) (wanted_none (by kernel_rfl)) (knows_new (V := isVal (.slice a (r) co)) 14 1 (by kernel_rfl) (by kernel_rfl) (by kernel_rfl)) ((fun ty w => by simp [Builtin.len_, run_underlying Tryz.underlying23]; rfl)), ?_⟩
  refine ⟨isVal (.bool false), step_bin .lss 3 3 (.tmp 13) (.tmp 15) (.int .i64 (r : Int)) (.int .i64 (r : Int)) (.bool false) (by kernel_rfl) (wanted_none (by kernel_rfl)) (knows_new (V := isVal (.int .i64 (r : Int))) 13 0 (by kernel_rfl) (by kernel_rfl) (by kernel_rfl)) (knows_new (V := isVal (.int .i64 (r : Int))) 15 2 (by kernel_rfl) (by kernel_rfl) (by kernel_rfl)) (fun _ => rfl) (lss_int _ _ _ _ _ (by simp)), ?_⟩
  refine ⟨isVal (.bool false), step_move (.tmp 16) (by kernel_rfl) (wanted_none (by kernel_rfl)) (stable_val _) (knows_new (V := isVal (.bool false)) 16 3 (by kernel_rfl) (by kernel_rfl) (by kernel_rfl)), ?_⟩
  refine ⟨_, step_skip 4 17 true false (by kernel_rfl) (by kernel_rfl) (by kernel_rfl) (by kernel_rfl) rfl, ?_⟩
  refine ⟨_, step_skip 4 17 true false (by kernel_rfl) (by kernel_rfl) (by kernel_rfl) (by kernel_rfl) rfl, ?_⟩
  refine ⟨_, step_skip 4 17 true false (by kernel_rfl) (by kernel_rfl) (by kernel_rfl) (by kernel_rfl) rfl, ?_⟩
  refine ⟨_, step_skip 4 17 true false (by kernel_rfl) (by kernel_rfl) (by kernel_rfl) (by kernel_rfl) rfl, ?_⟩
  refine ⟨_, step_skip 4 17 true false (by kernel_rfl) (by kernel_rfl) (by kernel_rfl) (by kernel_rfl) rfl, ?_⟩
  refine ⟨_, step_skip 4 17 true false (by kernel_rfl) (by kernel_rfl) (by kernel_rfl) (by kernel_rfl) rfl, ?_⟩
  refine ⟨_, step_skip 4 17 true false (by kernel_rfl) (by kernel_rfl) (by kernel_rfl) (by kernel_rfl) rfl, ?_⟩
  refine ⟨_, step_skip 4 17 true false (by kernel_rfl) (by kernel_rfl) (by kernel_rfl) (by kernel_rfl) rfl, ?_⟩
  refine ⟨_, step_skip 4 17 true false (by kernel_rfl) (by kernel_rfl) (by kernel_rfl) (by kernel_rfl) rfl, ?_⟩
  refine ⟨_, step_skip 4 17 true false (by kernel_rfl) (by kernel_rfl) (by kernel_rfl) (by kernel_rfl) rfl, ?_⟩
  refine ⟨_, step_skip 4 17 true false (by kernel_rfl) (by kernel_rfl) (by kernel_rfl) (by kernel_rfl) rfl, ?_⟩
  refine ⟨_, step_skip 4 17 true false (by kernel_rfl) (by kernel_rfl) (by kernel_rfl) (by kernel_rfl) rfl, ?_⟩
  refine ⟨isVal (.bool false), step_pick (.tmp 17) (.tmp 29) (.const (.bool false)) false (by kernel_rfl) (wanted_none (by kernel_rfl)) (stable_val _) (knows_new (V := isVal (.bool false)) 17 4 (by kernel_rfl) (by kernel_rfl) (by kernel_rfl)) (knows_const _), ?_⟩
  intro a w hkp hb hd
  rw [kept_of hkp [some 13, some 14, some 15, some 16, some 17, some 18, some 19, some 20, some 21, some 22, some 23, some 24, some 25, some 26, some 27, some 28, some 29, some 30] [13, 14, 15, 16, 17, 18, 19, 20, 21, 22, 23, 24, 25, 26, 27, 28, 29, 30] (by kernel_rfl) (by decide)]
  have d30 := fdone_of (hd 17 (by rw [show rix2Ops.size = 18 by kernel_rfl]; decide)) (t := 30) (V := isVal (.bool false)) (by kernel_rfl) (by kernel_rfl)
  exact hQ (fun s => a.tmps.getD s undef) w d30 hb
noncomputable def rsl1Ops : Array Oper := regionOf Tryz.f128 9
set_option maxRecDepth 100000 in
set_option maxHeartbeats 2000000 in
theorem rsl1_region (Q : Exit → Act → World → Prop) (a0 : Act) (w0 : World) (hsz : a0.tmps.size = 31) (i j n bs os cs : Nat) (z : Bool) (X Y : En) (xp xm yp ym : Value) (e3 : a0.tmps.getD 3 undef = .int .i64 (i : Int)) (e4 : a0.tmps.getD 4 undef = .int .i64 (j : Int)) (e0 : a0.tmps.getD 0 undef = (.slice (some ⟨bs, os, none⟩) n cs)) (hi : i < n) (hj : j < n) (hbs : bs < w0.heap.size) (hxc : ∀ (jj : Nat) (x : Value), [.string ⟨X.key.toArray⟩, .int .i64 X.val.kind, .int .i64 X.val.time, .int .i64 X.val.node, .bool X.val.dead, .string ⟨X.val.text.toArray⟩, xp, xm, .int .u64 (X.val.flags.toNat : Int)][jj]? = some x → w0.cell? ⟨bs, os + i * 9 + jj, none⟩ = some x) (hyc : ∀ (jj : Nat) (x : Value), [.string ⟨Y.key.toArray⟩, .int .i64 Y.val.kind, .int .i64 Y.val.time, .int .i64 Y.val.node, .bool Y.val.dead, .string ⟨Y.val.text.toArray⟩, yp, ym, .int .u64 (Y.val.flags.toNat : Int)][jj]? = some x → w0.cell? ⟨bs, os + j * 9 + jj, none⟩ = some x) (hxp : isCells (X.val.plus.map intC) xp w0) (hxm : isCells (X.val.minus.map intC) xm w0) (hyp : isCells (Y.val.plus.map intC) yp w0) (hym : isCells (Y.val.minus.map intC) ym w0) (hz : nameB X Y = z)
    (hQ : ∀ (g : Nat → Value) (w : World), g 30 = .bool z → Below w0.heap.size w0 w → Q .normal { tmps := [22, 23, 24, 25, 26, 27, 28, 29, 30].foldl (fun t s => t.setIfInBounds s (g s)) a0.tmps, defers := a0.defers } w) :
    (Code.region 9 rsl1Ops true).wp Tryz.prog Q a0 w0 := by
  refine wp_region_flow mixed (by rw [hsz]; kernel_rfl) ?_
  rw [show rsl1Ops.size = 9 by kernel_rfl]
  refine ⟨isVal (.slice (some ⟨bs, os, none⟩) n cs), step_move (.tmp 0) (by kernel_rfl) (wanted_none (by kernel_rfl)) (stable_val _) (knows_old 0 (.slice (some ⟨bs, os, none⟩) n cs) (by kernel_rfl) e0), ?_⟩
  refine ⟨isVal (.int .i64 (i : Int)), step_move (.tmp 3) (by kernel_rfl) (wanted_none (by kernel_rfl)) (stable_val _) (knows_old 3 (.int .i64 (i : Int)) (by kernel_rfl) e3), ?_⟩
  refine ⟨isVal (.pointer (some ⟨bs, os + i * 9, none⟩)), step_placeE 22 30 (.tmp 22) (.tmp 23) bs (os) (n) (cs) (i) (os + i * 9) (by kernel_rfl) (wanted_none (by kernel_rfl)) (knows_new (V := isVal (.slice (some ⟨bs, os, none⟩) n cs)) 22 0 (by kernel_rfl) (by kernel_rfl) (by kernel_rfl)) (knows_new (V := isVal (.int .i64 (i : Int))) 23 1 (by kernel_rfl) (by kernel_rfl) (by kernel_rfl)) Tryz.underlying22 (by kernel_rfl) (⟨hi, rfl⟩), ?_⟩
  refine ⟨isVal (.agg #[.string ⟨X.key.toArray⟩, .int .i64 X.val.kind, .int .i64 X.val.time, .int .i64 X.val.node, .bool X.val.dead, .string ⟨X.val.text.toArray⟩, xp, xm, .int .u64 (X.val.flags.toNat : Int)]), step_loadA 30 (.tmp 24) (bs) (os + i * 9) [.string ⟨X.key.toArray⟩, .int .i64 X.val.kind, .int .i64 X.val.time, .int .i64 X.val.node, .bool X.val.dead, .string ⟨X.val.text.toArray⟩, xp, xm, .int .u64 (X.val.flags.toNat : Int)] (by kernel_rfl) (wanted_none (by kernel_rfl)) (knows_new (V := isVal (.pointer (some ⟨bs, os + i * 9, none⟩))) 24 2 (by kernel_rfl) (by kernel_rfl) (by kernel_rfl)) size_en agg_en (⟨hbs, hxc⟩), ?_⟩
  refine ⟨isVal (.slice (some ⟨bs, os, none⟩) n cs), step_move (.tmp 0) (by kernel_rfl) (wanted_none (by kernel_rfl)) (stable_val _) (knows_old 0 (.slice (some ⟨bs, os, none⟩) n cs) (by kernel_rfl) e0), ?_⟩
  refine ⟨isVal (.int .i64 (j : Int)), step_move (.tmp 4) (by kernel_rfl) (wanted_none (by kernel_rfl)) (stable_val _) (knows_old 4 (.int .i64 (j : Int)) (by kernel_rfl) e4), ?_⟩
  refine ⟨isVal (.pointer (some ⟨bs, os + j * 9, none⟩)), step_placeE 22 30 (.tmp 26) (.tmp 27) bs (os) (n) (cs) (j) (os + j * 9) (by kernel_rfl) (wanted_none (by kernel_rfl)) (knows_new (V := isVal (.slice (some ⟨bs, os, none⟩) n cs)) 26 4 (by kernel_rfl) (by kernel_rfl) (by kernel_rfl)) (knows_new (V := isVal (.int .i64 (j : Int))) 27 5 (by kernel_rfl) (by kernel_rfl) (by kernel_rfl)) Tryz.underlying22 (by kernel_rfl) (⟨hj, rfl⟩), ?_⟩
  refine ⟨isVal (.agg #[.string ⟨Y.key.toArray⟩, .int .i64 Y.val.kind, .int .i64 Y.val.time, .int .i64 Y.val.node, .bool Y.val.dead, .string ⟨Y.val.text.toArray⟩, yp, ym, .int .u64 (Y.val.flags.toNat : Int)]), step_loadA 30 (.tmp 28) (bs) (os + j * 9) [.string ⟨Y.key.toArray⟩, .int .i64 Y.val.kind, .int .i64 Y.val.time, .int .i64 Y.val.node, .bool Y.val.dead, .string ⟨Y.val.text.toArray⟩, yp, ym, .int .u64 (Y.val.flags.toNat : Int)] (by kernel_rfl) (wanted_none (by kernel_rfl)) (knows_new (V := isVal (.pointer (some ⟨bs, os + j * 9, none⟩))) 28 6 (by kernel_rfl) (by kernel_rfl) (by kernel_rfl)) size_en agg_en (⟨hbs, hyc⟩), ?_⟩
  refine ⟨isVal (.bool z), step_call 130 #[.tmp 25, .tmp 29] #[30, 30] #[.agg #[.string ⟨X.key.toArray⟩, .int .i64 X.val.kind, .int .i64 X.val.time, .int .i64 X.val.node, .bool X.val.dead, .string ⟨X.val.text.toArray⟩, xp, xm, .int .u64 (X.val.flags.toNat : Int)], .agg #[.string ⟨Y.key.toArray⟩, .int .i64 Y.val.kind, .int .i64 Y.val.time, .int .i64 Y.val.node, .bool Y.val.dead, .string ⟨Y.val.text.toArray⟩, yp, ym, .int .u64 (Y.val.flags.toNat : Int)]] (by kernel_rfl) (wanted_none (by kernel_rfl)) (stable_val _) (args2 (.tmp 25) (.tmp 29) (.agg #[.string ⟨X.key.toArray⟩, .int .i64 X.val.kind, .int .i64 X.val.time, .int .i64 X.val.node, .bool X.val.dead, .string ⟨X.val.text.toArray⟩, xp, xm, .int .u64 (X.val.flags.toNat : Int)]) (.agg #[.string ⟨Y.key.toArray⟩, .int .i64 Y.val.kind, .int .i64 Y.val.time, .int .i64 Y.val.node, .bool Y.val.dead, .string ⟨Y.val.text.toArray⟩, yp, ym, .int .u64 (Y.val.flags.toNat : Int)]) (knows_new (V := isVal (.agg #[.string ⟨X.key.toArray⟩, .int .i64 X.val.kind, .int .i64 X.val.time, .int .i64 X.val.node, .bool X.val.dead, .string ⟨X.val.text.toArray⟩, xp, xm, .int .u64 (X.val.flags.toNat : Int)])) 25 3 (by kernel_rfl) (by kernel_rfl) (by kernel_rfl)) (knows_new (V := isVal (.agg #[.string ⟨Y.key.toArray⟩, .int .i64 Y.val.kind, .int .i64 Y.val.time, .int .i64 Y.val.node, .bool Y.val.dead, .string ⟨Y.val.text.toArray⟩, yp, ym, .int .u64 (Y.val.flags.toNat : Int)])) 29 7 (by kernel_rfl) (by kernel_rfl) (by kernel_rfl))) (enters_of Tryz.func130 (by kernel_rfl) rfl) (by intro w' hb; exact rname_val X Y z _ _ w' (en_mk hxp hxm hb) (en_mk hyp hym hb) hz), ?_⟩
  intro a w hkp hb hd
  rw [kept_of hkp [some 22, some 23, some 24, some 25, some 26, some 27, some 28, some 29, some 30] [22, 23, 24, 25, 26, 27, 28, 29, 30] (by kernel_rfl) (by decide)]
  have d30 := fdone_of (hd 8 (by rw [show rsl1Ops.size = 9 by kernel_rfl]; decide)) (t := 30) (V := isVal (.bool z)) (by kernel_rfl) (by kernel_rfl)
  exact hQ (fun s => a.tmps.getD s undef) w d30 hb
end Go.Proofs.YtbgconagkgfplaaGreat
end
section
namespace Go.Proofs.YtbgconagkgfplaaGreat
open Go.RowKit
set_option linter.unusedVariables false
set_option linter.unusedSimpArgs false
attribute [local irreducible] setN

theorem idxP_rng (l : List En) : ∀ i, (idxP l i).length = i ∧ ∀ p ∈ idxP l i, 0 ≤ p ∧ p < i
  | 0 => ⟨rfl, fun p hp => by simp [idxP] at hp⟩
  | i + 1 => by
    obtain ⟨h1, h2⟩ := idxP_rng l i
    have hr := rank_le ((idxP l i).map (slotAt l)) (slotAt l i)
    rw [List.length_map] at hr
    refine ⟨?_, ?_⟩
    · show (idxStep l (idxP l i) i).length = _
      unfold idxStep
      rw [List.length_append, List.length_cons, List.length_take, List.length_drop]; omega
    · intro p hp
      have hp : p ∈ idxStep l (idxP l i) i := hp
      unfold idxStep at hp
      rcases List.mem_append.1 hp with hp | hp
      · have := h2 p (List.mem_of_mem_take hp); omega
      · rcases List.mem_cons.1 hp with rfl | hp
        · omega
        · have := h2 p (List.mem_of_mem_drop hp); omega
def IdxPost (l : List En) (w : World) (e : Ending) (w' : World) : Prop := ∃ v', e = .returned v' ∧ OutI w.heap.size v' (idxM l) w' ∧ Below w.heap.size w w'
set_option maxRecDepth 100000 in
set_option maxHeartbeats 2000000 in
theorem rindex_post (l : List En) (v : Value) (w : World) (hv : isEns l v w) (hl : l.length ≤ 1000) : Calls Tryz.prog 102 #[v] w (IdxPost l w) := by
  obtain ⟨va, vc, rfl⟩ := hv.len
  have HV := Kept.mk hv
  clear hv
  generalize hn : l.length = n at *
  have HN := Kept.mk hn
  clear hn
  go_enter Tryz.func102, Tryz.ntmps102
  go_wp2
  go_loopw [3, 4] (fun OV IV WZ => ∃ k : Nat, k ≤ n ∧ IV = .int .i64 (k : Int) ∧ Kept (OutI w.heap.size OV (idxP l k) WZ) ∧ Kept (Below w.heap.size w WZ)) (fun _ IV _ => n - (intOf IV).toNat)
  case atStart => exact ⟨0, Nat.zero_le _, rfl, ⟨outI_nil _ _⟩, ⟨Below.refl _ _⟩⟩
  case round =>
    obtain ⟨k, hk, rfl, O, B⟩ := hrel
    by_cases hlt : k < n
    · have hlt' : (k : Int) < (n : Int) := by omega
      obtain ⟨hlen, hrng⟩ := idxP_rng l k
      obtain ⟨oa, oc, eo⟩ := O.out.len
      rw [hlen] at eo
      subst eo
      have HSTEP : idxP l (k + 1) = idxStep l (idxP l k) k := rfl
      have hRk : rankN ((idxP l k).map (slotAt l)) (slotAt l k) ≤ k := by have := rank_le ((idxP l k).map (slotAt l)) (slotAt l k); rw [List.length_map, hlen] at this; exact this
      obtain ⟨rs1, rs2⟩ := rank_spec (l := (idxP l k).map (slotAt l)) (x := slotAt l k)
      unfold idxStep at HSTEP
      generalize rankN ((idxP l k).map (slotAt l)) (slotAt l k) = R at hRk rs1 rs2 HSTEP
      generalize idxP l k = out at O hlen hrng rs1 rs2 HSTEP
      have HEQ := Kept.mk (show (([] ++ out.take R) ++ [(k : Int)]) ++ out.drop R = idxP l (k + 1) by rw [HSTEP]; simp)
      have HLN := Kept.mk hlen
      have HRG := Kept.mk hrng
      have HR1 := Kept.mk rs1
      have HR2 := Kept.mk rs2
      have HNN := Kept.mk (show ([] : List Int).length + (out.take R).length ≤ 100000 ∧ ([] ++ out.take R).length + [(k : Int)].length ≤ 100000 ∧ (([] ++ out.take R) ++ [(k : Int)]).length + (out.drop R).length ≤ 100000 by simp [hlen]; omega)
      have hY : l[k]? = some (slotAt l k) := slotAt_get (by rw [HN.out]; exact hlt)
      have HY := Kept.mk hY
      clear hlen hrng rs1 rs2 HSTEP hY
      rename World => w5
      go_wp2
      go_loopw [5] (fun RV WZ => ∃ r : Nat, r ≤ R ∧ RV = .int .i64 (r : Int) ∧ Kept (Below w5.heap.size w5 WZ)) (fun RV _ => R - (intOf RV).toNat)
      case atStart => exact ⟨0, Nat.zero_le _, rfl, ⟨Below.refl _ _⟩⟩
      case round =>
        obtain ⟨r, hr, rfl, B2⟩ := hrel
        by_cases h1 : r < k
        · obtain ⟨p, hp⟩ : ∃ p, out[r]? = some p := ⟨_, List.getElem?_eq_getElem (by rw [HLN.out]; exact h1)⟩
          have hpr := HRG.out p (List.mem_of_getElem? hp)
          obtain ⟨q, rfl⟩ : ∃ q : Nat, p = (q : Int) := ⟨p.toNat, by omega⟩
          have hqn : q < n := by omega
          have hX : l[q]? = some (slotAt l (q : Int)) := slotAt_get (by rw [HN.out]; exact hqn)
          have hm : (out.map (slotAt l))[r]? = some (slotAt l (q : Int)) := by rw [List.getElem?_map, hp]; rfl
          obtain ⟨z, hz⟩ : ∃ z, lessE (slotAt l (q : Int)) (slotAt l (k : Int)) = z := ⟨_, rfl⟩
          have HZ := Kept.mk hz
          have hcase : (z = true ∧ r < R) ∨ (z = false ∧ r = R) := by
            by_cases h2 : r < R
            · left; rw [← hz]; exact ⟨HR1.out r _ h2 hm, h2⟩
            · right; have hrR : r = R := by omega
              rw [← hz]; refine ⟨HR2.out _ (by rw [← hrR]; exact hm), hrR⟩
          rcases HV.out.cases_ with ⟨_, _, _, hnil⟩ | ⟨bs, os, cs, ea, hbs, hall⟩
          · rw [hnil] at hX; simp at hX
          · injection ea with ea1 ea2 ea3
            subst ea1 ea3
            obtain ⟨xp, xm, hxc, hxp, hxm⟩ := hall q _ hX
            obtain ⟨yp, ym, hyc, hyp, hym⟩ := hall k _ HY.out
            have Bw := Kept.mk (B.out.trans (B2.out.mono B.out.size))
            obtain ⟨bo, oo, co, eo, hbo, hoc⟩ := (O.out.keep B2.out).cells.some_ (by rw [List.length_map, HLN.out]; omega)
            rw [List.length_map, HLN.out] at eo
            injection eo with eo1 _ eo3
            subst eo1 eo3
            have hq0 := hoc r (intC (q : Int)) (by rw [List.getElem?_map, hp]; rfl)
            have HQ := Kept.mk hq0
            have HXC := Kept.mk hxc
            have HYC := Kept.mk hyc
            generalize slotAt l (q : Int) = X at *
            generalize slotAt l (k : Int) = Y at *
            have hw5 := B2.out.size
            have hww := Bw.out.size
            clear hX hm hz hp hall hxc hyc hoc hq0 ea2
            go_wp2
            refine rix1_region _ _ _ rfl r k k q n bo oo oc bs os vc z X Y xp xm yp ym rfl rfl rfl rfl h1 hqn hlt hbo HQ.out (by omega) (fun j x hx => (Bw.out.cell (p := ⟨bs, os + q * 9 + j, none⟩) hbs).trans (HXC.out j x hx)) (fun j x hx => (Bw.out.cell (p := ⟨bs, os + k * 9 + j, none⟩) hbs).trans (HYC.out j x hx)) (stable_cells _ _ _ _ hxp Bw.out) (stable_cells _ _ _ _ hxm Bw.out) (stable_cells _ _ _ _ hyp Bw.out) (stable_cells _ _ _ _ hym Bw.out) HZ.out ?_
            clear hxp hxm hyp hym HXC HYC HQ
            intro f9 W9 d30 hb9
            simp only [List.foldl_cons, List.foldl_nil, d30]
            generalize f9 13 = y13
            generalize f9 14 = y14
            generalize f9 15 = y15
            generalize f9 16 = y16
            generalize f9 17 = y17
            generalize f9 18 = y18
            generalize f9 19 = y19
            generalize f9 20 = y20
            generalize f9 21 = y21
            generalize f9 22 = y22
            generalize f9 23 = y23
            generalize f9 24 = y24
            generalize f9 25 = y25
            generalize f9 26 = y26
            generalize f9 27 = y27
            generalize f9 28 = y28
            generalize f9 29 = y29
            clear d30
            simp only [List.setIfInBounds_toArray, List.set_cons_succ, List.set_cons_zero]
            replace B2 := Kept.mk (B2.out.trans (hb9.mono hw5))
            clear hb9 Bw
            rcases hcase with ⟨rfl, h2⟩ | ⟨rfl, h2⟩
            · go_wp2
              go_roundw
              case rel => exact ⟨r + 1, by omega, by go_num, B2⟩
              case measure => simp [intOf]; omega
            · obtain rfl : R = r := h2.symm
              have O2 := Kept.mk (O.out.keep B2.out)
              have HRl : R ≤ out.length := by rw [HLN.out]; exact hRk
              rename World => w6
              have S2 := Kept.mk (fun W => srcI_one (k : Int) W)
              have T1 := Kept.mk True.intro
              go_wp2_with (first | (have hz := T1; refine wpList_slice_hi rfl (.tmp 34) (.tmp 35) rfl w.heap.size _ out R rfl rfl O2.out HRl ?_; intro u1 hu1; have S1 := Kept.mk hu1; clear hz T1 hu1; have T2 := Kept.mk True.intro) | (at_builtin; have hz := T2; refine wpList_append_ints rfl (.tmp 33) (.tmp 36) rfl w6.heap.size (.slice none 0 0) [] rfl (outI_nil _ _) u1 (out.take R) rfl S1.out HNN.out.1 (Nat.le_refl _) ?_; intro v1 W1 ho1 hg1; have B3 := Kept.mk (grown_belowI (outI_nil w6.heap.size w6) hg1 (Below.refl _ _) (Nat.le_refl _)); have N1 := Kept.mk (ho1.keep (lit_below W1 (.cells #[.int .i64 (k : Int)] 3))); have B3a := Kept.mk (B3.out.trans ((lit_below W1 (.cells #[.int .i64 (k : Int)] 3)).mono B3.out.size)); clear hz T2 ho1 hg1 S1; have T3 := Kept.mk True.intro) | (at_builtin; have hz := T3; refine wpList_append_ints rfl (.tmp 38) (.tmp 40) rfl w6.heap.size v1 ([] ++ out.take R) rfl N1.out _ [(k : Int)] rfl (S2.out W1) HNN.out.2.1 B3a.out.size ?_; intro v2 W2 ho2 hg2; have N2 := Kept.mk ho2; have B4 := Kept.mk (grown_belowI N1.out hg2 B3a.out (Nat.le_refl _)); have O3 := Kept.mk (O2.out.keep B4.out); clear hz T3 ho2 hg2; have T4 := Kept.mk True.intro) | (have hz := T4; refine wpList_slice_lo rfl (.tmp 43) (.tmp 44) rfl w.heap.size _ out R rfl rfl O3.out HRl ?_; intro u3 hu3; have S3 := Kept.mk hu3; clear hz T4 hu3; have T5 := Kept.mk True.intro) | (at_builtin; have hz := T5; refine wpList_append_ints rfl (.tmp 42) (.tmp 45) rfl w6.heap.size v2 (([] ++ out.take R) ++ [(k : Int)]) rfl N2.out u3 (out.drop R) rfl S3.out HNN.out.2.2 B4.out.size ?_; intro v3 W3 ho3 hg3; have N3 := Kept.mk ho3; have B5 := Kept.mk (grown_belowI N2.out hg3 B4.out (Nat.le_refl _)); clear hz T5 ho3 hg3))
              go_roundw
              case rel => exact ⟨k + 1, by omega, by go_num, ⟨by rw [← HEQ.out]; exact N3.out.low (Nat.le_trans B.out.size B2.out.size)⟩, ⟨B.out.trans ((B2.out.trans (B5.out.mono B2.out.size)).mono B.out.size)⟩⟩
              case measure => simp [intOf]; omega
        · obtain rfl : R = r := by omega
          have HRK := Kept.mk (show R = k by omega)
          go_wp2
          refine rix2_region _ _ _ rfl R k oc oa _ rfl (by rw [HRK.out]; rfl) rfl rfl ?_
          intro f9 W9 d30 hb9
          simp only [List.foldl_cons, List.foldl_nil, d30]
          generalize f9 13 = y13
          generalize f9 14 = y14
          generalize f9 15 = y15
          generalize f9 16 = y16
          generalize f9 17 = y17
          generalize f9 18 = y18
          generalize f9 19 = y19
          generalize f9 20 = y20
          generalize f9 21 = y21
          generalize f9 22 = y22
          generalize f9 23 = y23
          generalize f9 24 = y24
          generalize f9 25 = y25
          generalize f9 26 = y26
          generalize f9 27 = y27
          generalize f9 28 = y28
          generalize f9 29 = y29
          clear d30
          simp only [List.setIfInBounds_toArray, List.set_cons_succ, List.set_cons_zero]
          have hw5 := B2.out.size
          replace B2 := Kept.mk (B2.out.trans (hb9.mono hw5))
          clear hb9
          have O2 := Kept.mk (O.out.keep B2.out)
          have HRl : R ≤ out.length := by rw [HLN.out]; exact hRk
          rename World => w6
          have S2 := Kept.mk (fun W => srcI_one (k : Int) W)
          have T1 := Kept.mk True.intro
          go_wp2_with (first | (have hz := T1; refine wpList_slice_hi rfl (.tmp 34) (.tmp 35) rfl w.heap.size _ out R rfl rfl O2.out HRl ?_; intro u1 hu1; have S1 := Kept.mk hu1; clear hz T1 hu1; have T2 := Kept.mk True.intro) | (at_builtin; have hz := T2; refine wpList_append_ints rfl (.tmp 33) (.tmp 36) rfl w6.heap.size (.slice none 0 0) [] rfl (outI_nil _ _) u1 (out.take R) rfl S1.out HNN.out.1 (Nat.le_refl _) ?_; intro v1 W1 ho1 hg1; have B3 := Kept.mk (grown_belowI (outI_nil w6.heap.size w6) hg1 (Below.refl _ _) (Nat.le_refl _)); have N1 := Kept.mk (ho1.keep (lit_below W1 (.cells #[.int .i64 (k : Int)] 3))); have B3a := Kept.mk (B3.out.trans ((lit_below W1 (.cells #[.int .i64 (k : Int)] 3)).mono B3.out.size)); clear hz T2 ho1 hg1 S1; have T3 := Kept.mk True.intro) | (at_builtin; have hz := T3; refine wpList_append_ints rfl (.tmp 38) (.tmp 40) rfl w6.heap.size v1 ([] ++ out.take R) rfl N1.out _ [(k : Int)] rfl (S2.out W1) HNN.out.2.1 B3a.out.size ?_; intro v2 W2 ho2 hg2; have N2 := Kept.mk ho2; have B4 := Kept.mk (grown_belowI N1.out hg2 B3a.out (Nat.le_refl _)); have O3 := Kept.mk (O2.out.keep B4.out); clear hz T3 ho2 hg2; have T4 := Kept.mk True.intro) | (have hz := T4; refine wpList_slice_lo rfl (.tmp 43) (.tmp 44) rfl w.heap.size _ out R rfl rfl O3.out HRl ?_; intro u3 hu3; have S3 := Kept.mk hu3; clear hz T4 hu3; have T5 := Kept.mk True.intro) | (at_builtin; have hz := T5; refine wpList_append_ints rfl (.tmp 42) (.tmp 45) rfl w6.heap.size v2 (([] ++ out.take R) ++ [(k : Int)]) rfl N2.out u3 (out.drop R) rfl S3.out HNN.out.2.2 B4.out.size ?_; intro v3 W3 ho3 hg3; have N3 := Kept.mk ho3; have B5 := Kept.mk (grown_belowI N2.out hg3 B4.out (Nat.le_refl _)); clear hz T5 ho3 hg3))
          go_roundw
          case rel => exact ⟨k + 1, by omega, by go_num, ⟨by rw [← HEQ.out]; exact N3.out.low (Nat.le_trans B.out.size B2.out.size)⟩, ⟨B.out.trans ((B2.out.trans (B5.out.mono B2.out.size)).mono B.out.size)⟩⟩
          case measure => simp [intOf]; omega
    · have hlt' : ¬ (k : Int) < (n : Int) := by omega
      obtain rfl : k = n := by omega
      have HE := Kept.mk (show idxM l = idxP l k by unfold idxM; rw [HN.out])
      go_wp2
      go_ret
      exact ⟨_, rfl, by rw [HE.out]; exact O.out, B.out⟩
end Go.Proofs.YtbgconagkgfplaaGreat
end
