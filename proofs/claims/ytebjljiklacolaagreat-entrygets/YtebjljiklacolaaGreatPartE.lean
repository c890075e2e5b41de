/- Joined texts: contracts of the program's functions, and the mathematics that they lean on. -/
import Derived.Test.YtebjljiklacolaaGreatPartD
section
namespace Go.Proofs.YtebjljiklacolaaGreat
open Go.RowKit
set_option linter.unusedVariables false
set_option linter.unusedSimpArgs false

noncomputable def refIntsops : Array Oper := regionOf Tryz.f51 6
set_option maxRecDepth 100000 in
theorem refInts_region (Q : Exit → Act → World → Prop) (a0 : Act) (w0 : World) (hsz : a0.tmps.size = 26) (b1 o1 c1 b2 o2 c2 n j : Nat) (x y : Int) (z : Bool)
    (e0 : a0.tmps.getD 0 undef = .slice (some ⟨b1, o1, none⟩) n c1) (e1 : a0.tmps.getD 1 undef = .slice (some ⟨b2, o2, none⟩) n c2) (e5 : a0.tmps.getD 5 undef = .int .i64 (j : Int)) (hj : j < n)
    (p1 : w0.cell? ⟨b1, o1 + j, none⟩ = some (.int .i64 x)) (l1 : b1 < w0.heap.size) (p2 : w0.cell? ⟨b2, o2 + j, none⟩ = some (.int .i64 y)) (l2 : b2 < w0.heap.size) (hz : (x != y) = z)
    (hQ : ∀ (f : Nat → Value) (w : World), f 25 = .bool z → Below w0.heap.size w0 w → Q .normal { tmps := [17, 18, 19, 20, 21, 22, 23, 24, 25].foldl (fun t s => t.setIfInBounds s (f s)) a0.tmps, defers := a0.defers } w) :
    (Code.region 6 refIntsops true).wp Tryz.prog Q a0 w0 := by
  refine wp_region_flow mixed (by rw [hsz]; kernel_rfl) ?_
  rw [show refIntsops.size = 9 by kernel_rfl]
  refine ⟨isVal (.slice (some ⟨b1, o1, none⟩) n c1), step_move (.tmp 0) (by kernel_rfl) (wanted_none (by kernel_rfl)) (stable_val _) (knows_old 0 (.slice (some ⟨b1, o1, none⟩) n c1) (by kernel_rfl) e0), ?_⟩
  refine ⟨isVal (.int .i64 (j : Int)), step_move (.tmp 5) (by kernel_rfl) (wanted_none (by kernel_rfl)) (stable_val _) (knows_old 5 (.int .i64 (j : Int)) (by kernel_rfl) e5), ?_⟩
  refine ⟨isVal (.pointer (some ⟨b1, o1 + j, none⟩)), step_place 22 3 (.tmp 17) (.tmp 18) b1 o1 n c1 j (by kernel_rfl) (wanted_none (by kernel_rfl)) (knows_new (V := isVal (.slice (some ⟨b1, o1, none⟩) n c1)) 17 0 (by kernel_rfl) (by kernel_rfl) (by kernel_rfl)) (knows_new (V := isVal (.int .i64 (j : Int))) 18 1 (by kernel_rfl) (by kernel_rfl) (by kernel_rfl)) Tryz.underlying22 (by kernel_rfl) hj, ?_⟩
  refine ⟨isVal (.int .i64 x), step_read 3 (.tmp 19) ⟨b1, o1 + j, none⟩ (.int .i64 x) (by kernel_rfl) (wanted_none (by kernel_rfl)) (knows_new (V := isVal (.pointer (some ⟨b1, o1 + j, none⟩))) 19 2 (by kernel_rfl) (by kernel_rfl) (by kernel_rfl)) p1 l1 agg_int, ?_⟩
  refine ⟨isVal (.slice (some ⟨b2, o2, none⟩) n c2), step_move (.tmp 1) (by kernel_rfl) (wanted_none (by kernel_rfl)) (stable_val _) (knows_old 1 (.slice (some ⟨b2, o2, none⟩) n c2) (by kernel_rfl) e1), ?_⟩
  refine ⟨isVal (.int .i64 (j : Int)), step_move (.tmp 5) (by kernel_rfl) (wanted_none (by kernel_rfl)) (stable_val _) (knows_old 5 (.int .i64 (j : Int)) (by kernel_rfl) e5), ?_⟩
  refine ⟨isVal (.pointer (some ⟨b2, o2 + j, none⟩)), step_place 22 3 (.tmp 21) (.tmp 22) b2 o2 n c2 j (by kernel_rfl) (wanted_none (by kernel_rfl)) (knows_new (V := isVal (.slice (some ⟨b2, o2, none⟩) n c2)) 21 4 (by kernel_rfl) (by kernel_rfl) (by kernel_rfl)) (knows_new (V := isVal (.int .i64 (j : Int))) 22 5 (by kernel_rfl) (by kernel_rfl) (by kernel_rfl)) Tryz.underlying22 (by kernel_rfl) hj, ?_⟩
  refine ⟨isVal (.int .i64 y), step_read 3 (.tmp 23) ⟨b2, o2 + j, none⟩ (.int .i64 y) (by kernel_rfl) (wanted_none (by kernel_rfl)) (knows_new (V := isVal (.pointer (some ⟨b2, o2 + j, none⟩))) 23 6 (by kernel_rfl) (by kernel_rfl) (by kernel_rfl)) p2 l2 agg_int, ?_⟩
  refine ⟨isVal (.bool z), step_bin .neq 3 3 (.tmp 20) (.tmp 24) (.int .i64 x) (.int .i64 y) (.bool z) (by kernel_rfl) (wanted_none (by kernel_rfl)) (knows_new (V := isVal (.int .i64 x)) 20 3 (by kernel_rfl) (by kernel_rfl) (by kernel_rfl)) (knows_new (V := isVal (.int .i64 y)) 24 7 (by kernel_rfl) (by kernel_rfl) (by kernel_rfl)) (fun _ => rfl) (neq_int _ _ _ _ _ hz), ?_⟩
  intro a w hkp hb hd
  rw [kept_of hkp ((List.range 9).map fun i => some (i + 17)) [17, 18, 19, 20, 21, 22, 23, 24, 25] (by kernel_rfl) (by decide)]
  exact hQ (fun s => a.tmps.getD s undef) w (fdone_of (hd 8 (by rw [show refIntsops.size = 9 by kernel_rfl]; decide)) (t := 25) (V := isVal (.bool z)) (by kernel_rfl) (by kernel_rfl)) hb
set_option maxRecDepth 20000 in
set_option maxHeartbeats 1000000 in
theorem refInts_any (l m : List (Int)) (v u : Value) (w : World) (hv : isCells (l.map intC) v w) (hu : isCells (m.map intC) u w) (h1 : l.length ≤ 1000000000) (h2 : m.length ≤ 1000000000) :
    Calls Tryz.prog 51 #[v, u] w fun e w' => e = .returned (.bool (decide (l = m))) ∧ Below w.heap.size w w' := by
  by_cases hlen : l.length = m.length
  case neg =>
    obtain ⟨a, cap, rfl⟩ := hv.len
    obtain ⟨b, cap2, rfl⟩ := hu.len
    rw [List.length_map, List.length_map]
    have HN := Kept.mk (show decide (l = m) = false by simp; rintro rfl; exact hlen rfl)
    have d1 : ((l.length : Int) != (m.length : Int)) = true := by simp [bne]; omega
    clear hv hu hlen
    go_enter Tryz.func51, Tryz.ntmps51
    go_wp2
    go_ret
    exact ⟨by rw [HN.out]; rfl, Below.refl _ _⟩
  by_cases h0 : l = []
  · subst h0
    obtain rfl : m = [] := List.eq_nil_of_length_eq_zero (by simpa using hlen.symm)
    obtain ⟨a, cap, rfl⟩ := hv.len
    obtain ⟨b, cap2, rfl⟩ := hu.len
    clear hv hu
    simp only [List.map_nil, List.length_nil]
    go_enter Tryz.func51, Tryz.ntmps51
    go_wp2
    go_loop [5] (fun i => i = .int .i64 0) (fun _ => 0)
    case atStart => rfl
    case round =>
      subst hrel
      go_wp2
      go_ret
      exact ⟨by simp, Below.refl _ _⟩
  · have hl0 : 0 < l.length := List.length_pos_iff.2 h0
    obtain ⟨b1, o1, c1, hv', l1, hc1⟩ := hv.some_ (by simpa using hl0)
    obtain ⟨b2, o2, c2, hu', l2, hc2⟩ := hu.some_ (by rw [List.length_map]; omega)
    rw [List.length_map] at hv' hu'
    subst hv' hu'
    have HM := Kept.mk hlen
    have hmn : m.length = l.length := hlen.symm
    rw [hmn]
    obtain ⟨n, hn⟩ : ∃ n, n = l.length := ⟨_, rfl⟩
    have HN := Kept.mk hn
    rw [← hn] at h1 hl0 ⊢
    have HC1 := Kept.mk hc1
    have HC2 := Kept.mk hc2
    have hB : Below w.heap.size w w := Below.refl _ _
    clear hv hu hlen hmn hn hc1 hc2 h0
    go_enter Tryz.func51, Tryz.ntmps51
    go_wp2
    go_loopw [5] (fun i wr => ∃ j : Nat, j ≤ n ∧ i = .int .i64 (j : Int) ∧ Kept (l.take j = m.take j) ∧ Below w.heap.size w wr) (fun i _ => n - (intOf i).toNat)
    case atStart => exact ⟨0, Nat.zero_le _, rfl, ⟨rfl⟩, hB⟩
    case round =>
      clear hB
      obtain ⟨j, hj, rfl, HT, hB⟩ := hrel
      by_cases hlt : j < n
      · have d1 : decide ((j : Int) < (n : Int)) = true := by simpa using hlt
        have HA := Kept.mk (show j < l.length by rw [← HN.out]; exact hlt)
        have HB := Kept.mk (show j < m.length by rw [← HM.out, ← HN.out]; exact hlt)
        have q1 := Kept.mk ((hB.cell (p := ⟨b1, o1 + j, none⟩) l1).trans (HC1.out j _ (get_map intC l j HA.out)))
        have q2 := Kept.mk ((hB.cell (p := ⟨b2, o2 + j, none⟩) l2).trans (HC2.out j _ (get_map intC m j HB.out)))
        cases hz : (l[j]'HA.out != m[j]'HB.out) with
        | true =>
          have HR := Kept.mk (show decide (l = m) = false by
            simp only [decide_eq_false_iff_not]
            rintro rfl
            simp at hz)
          have HZ := Kept.mk hz
          clear hz
          go_wp2_with fail
          refine refInts_region _ _ _ rfl b1 o1 c1 b2 o2 c2 n j _ _ true rfl rfl rfl hlt q1.out (Nat.lt_of_lt_of_le l1 hB.size) q2.out (Nat.lt_of_lt_of_le l2 hB.size) HZ.out ?_
          clear q1 q2 HZ
          intro f9 W9 hg hb9
          replace hB := hB.trans (hb9.mono hB.size)
          clear hb9
          simp only [List.foldl_cons, List.foldl_nil, hg]
          generalize f9 17 = y17
          generalize f9 18 = y18
          generalize f9 19 = y19
          generalize f9 20 = y20
          generalize f9 21 = y21
          generalize f9 22 = y22
          generalize f9 23 = y23
          generalize f9 24 = y24
          clear hg
          simp only [List.setIfInBounds_toArray, List.set_cons_succ, List.set_cons_zero]
          go_wp2
          go_ret
          exact ⟨by rw [HR.out]; rfl, hB⟩
        | false =>
          have HR := Kept.mk (show l.take (j + 1) = m.take (j + 1) by
            rw [List.take_succ_eq_append_getElem HA.out, List.take_succ_eq_append_getElem HB.out, HT.out]
            simp at hz
            rw [hz])
          have HZ := Kept.mk hz
          clear hz HT
          go_wp2_with fail
          refine refInts_region _ _ _ rfl b1 o1 c1 b2 o2 c2 n j _ _ false rfl rfl rfl hlt q1.out (Nat.lt_of_lt_of_le l1 hB.size) q2.out (Nat.lt_of_lt_of_le l2 hB.size) HZ.out ?_
          clear q1 q2 HZ
          intro f9 W9 hg hb9
          replace hB := hB.trans (hb9.mono hB.size)
          clear hb9
          simp only [List.foldl_cons, List.foldl_nil, hg]
          generalize f9 17 = y17
          generalize f9 18 = y18
          generalize f9 19 = y19
          generalize f9 20 = y20
          generalize f9 21 = y21
          generalize f9 22 = y22
          generalize f9 23 = y23
          generalize f9 24 = y24
          clear hg
          simp only [List.setIfInBounds_toArray, List.set_cons_succ, List.set_cons_zero]
          go_wp2
          go_roundw
          case rel => exact ⟨j + 1, by omega, by go_num, HR, hB⟩
          case measure => simp [intOf]; omega
      · have d1 : decide ((j : Int) < (n : Int)) = false := by simp; omega
        have HR := Kept.mk (show decide (l = m) = true by
          have h := HT.out
          rw [List.take_of_length_le (by rw [← HN.out]; omega), List.take_of_length_le (by rw [← HM.out, ← HN.out]; omega)] at h
          simpa using h)
        go_wp2
        go_ret
        exact ⟨by rw [HR.out]; rfl, hB⟩
end Go.Proofs.YtebjljiklacolaaGreat
end
section
namespace Go.Proofs.YtebjljiklacolaaGreat
open Go.RowKit
set_option linter.unusedVariables false
set_option linter.unusedSimpArgs false
attribute [local irreducible] setN

theorem same_split2 (A B : Va) : decide (A = B) = ((A.kind == B.kind) && (A.time == B.time) && (A.node == B.node) && (A.dead == B.dead) && (A.text == B.text) && ((A.flags.toNat : Int) == (B.flags.toNat : Int)) && decide (A.plus = B.plus) && decide (A.minus = B.minus)) := by
  rw [same_split]
  generalize (A.kind == B.kind) = a
  generalize (A.time == B.time) = b
  generalize (A.node == B.node) = c
  generalize (A.dead == B.dead) = d
  generalize (A.text == B.text) = e
  generalize decide (A.plus = B.plus) = f
  generalize decide (A.minus = B.minus) = g
  generalize ((A.flags.toNat : Int) == (B.flags.toNat : Int)) = h
  cases a <;> cases b <;> cases c <;> cases d <;> cases e <;> cases f <;> cases g <;> cases h <;> rfl
set_option maxRecDepth 20000 in
set_option maxHeartbeats 2000000 in
theorem rsame_any (A B : Va) (v u : Value) (w : World) (hv : isVa A v w) (hu : isVa B u w) (hA : Fit A) (hC : Fit B) :
    Calls Tryz.prog 31 #[v, u] w fun e w' => e = .returned (.bool (decide (A = B))) ∧ Below w.heap.size w w' := by
  have hv0 := hv
  have hu0 := hu
  obtain ⟨pa, ma, rfl, hpa, hma⟩ := hv
  obtain ⟨pb, mb, rfl, hpb, hmb⟩ := hu
  obtain ⟨hB, Va⟩ := vbox w A pa ma hpa hma (w.heap.size) (by simp)
  obtain ⟨hBn, Vb⟩ := vbox (w.alloc (.cells #[.int .i64 A.kind, .int .i64 A.time, .int .i64 A.node, .bool A.dead, .string ⟨A.text.toArray⟩, pa, ma, .int .u64 (A.flags.toNat : Int)] 25)) B pb mb (stable_cells _ _ _ _ hpb hB.out) (stable_cells _ _ _ _ hmb hB.out) (w.heap.size + 1) (by simp)
  replace Va := Kept.mk (Va.out.keep hBn.out)
  replace hB := Kept.mk (hB.out.trans (hBn.out.mono hB.out.size))
  clear hBn
  clear hpa hma hpb hmb
  have HS := Kept.mk (same_split2 A B)
  have HA0 := Kept.mk (va_grow hv0 hB.out)
  have HU0 := Kept.mk (va_grow hu0 hB.out)
  clear hv0 hu0
  cases d0 : (A.kind == B.kind) with
  | false =>
    go_enter Tryz.func31, Tryz.ntmps31
    go_wp2
    all_goals go_ret
    all_goals exact ⟨by rw [HS.out, d0]; rfl, hB.out⟩
  | true =>
    cases d1 : (A.time == B.time) with
    | false =>
      go_enter Tryz.func31, Tryz.ntmps31
      go_wp2
      all_goals go_ret
      all_goals exact ⟨by rw [HS.out, d0, d1]; rfl, hB.out⟩
    | true =>
      cases d2 : (A.node == B.node) with
      | false =>
        go_enter Tryz.func31, Tryz.ntmps31
        go_wp2
        all_goals go_ret
        all_goals exact ⟨by rw [HS.out, d0, d1, d2]; rfl, hB.out⟩
      | true =>
        cases d3 : (A.dead == B.dead) with
        | false =>
          go_enter Tryz.func31, Tryz.ntmps31
          go_wp2
          all_goals go_ret
          all_goals exact ⟨by rw [HS.out, d0, d1, d2, d3]; rfl, hB.out⟩
        | true =>
          cases d4 : (A.text == B.text) with
          | false =>
            go_enter Tryz.func31, Tryz.ntmps31
            go_wp2
            all_goals go_ret
            all_goals exact ⟨by rw [HS.out, d0, d1, d2, d3, d4]; rfl, hB.out⟩
          | true =>
            cases d5 : ((A.flags.toNat : Int) == (B.flags.toNat : Int)) with
            | false =>
              go_enter Tryz.func31, Tryz.ntmps31
              go_wp2
              all_goals go_ret
              all_goals exact ⟨by rw [HS.out, d0, d1, d2, d3, d4, d5]; rfl, hB.out⟩
            | true =>
              go_enter Tryz.func31, Tryz.ntmps31
              go_wp2_with fail
              generalize (w.alloc (.cells #[.int .i64 A.kind, .int .i64 A.time, .int .i64 A.node, .bool A.dead, .string ⟨A.text.toArray⟩, pa, ma, .int .u64 (A.flags.toNat : Int)] 25)).alloc (.cells #[.int .i64 B.kind, .int .i64 B.time, .int .i64 B.node, .bool B.dead, .string ⟨B.text.toArray⟩, pb, mb, .int .u64 (B.flags.toNat : Int)] 25) = W0 at *
              obtain ⟨_, _, e1, e2, e3⟩ := HA0.out
              obtain ⟨_, _, e4, e5, e6⟩ := HU0.out
              cases e1
              cases e4
              ((with_reducible refine (refInts_any A.plus B.plus _ _ _ e2 e5 (by have := hA.plus; omega) (by have := hC.plus; omega)).mono ?_); rintro e W1 ⟨rfl, hb1⟩)
              replace hB := Kept.mk (hB.out.trans ((hb1).mono hB.out.size))
              replace Va := Kept.mk (Va.out.keep (hb1))
              replace Vb := Kept.mk (Vb.out.keep (hb1))
              clear hb1 e2 e3 e5 e6 HA0 HU0
              cases d6 : decide (A.plus = B.plus) with
              | false =>
                go_wp2
                all_goals go_ret
                all_goals exact ⟨by rw [HS.out, d0, d1, d2, d3, d4, d5, d6]; rfl, hB.out⟩
              | true =>
                obtain ⟨qa, ra, -, -, ma2, ka0, ka1, ka2, ka3, ka4, ka5, ka6, ka7⟩ := Va.out.open_
                obtain ⟨qb, rb, -, -, mb2, kb0, kb1, kb2, kb3, kb4, kb5, kb6, kb7⟩ := Vb.out.open_
                go_wp2_with fail
                ((with_reducible refine (refInts_any A.minus B.minus _ _ _ ma2.out mb2.out (by have := hA.minus; omega) (by have := hC.minus; omega)).mono ?_); rintro e W2 ⟨rfl, hb1⟩)
                clear ma2 mb2 ka0 ka1 ka2 ka3 ka4 ka5 ka6 ka7 kb0 kb1 kb2 kb3 kb4 kb5 kb6 kb7
                replace hB := Kept.mk (hB.out.trans ((hb1).mono hB.out.size))
                replace Va := Kept.mk (Va.out.keep (hb1))
                replace Vb := Kept.mk (Vb.out.keep (hb1))
                clear hb1
                obtain ⟨z, hz⟩ : ∃ z, z = decide (A.minus = B.minus) := ⟨_, rfl⟩
                rw [← hz] at HS ⊢
                clear hz
                go_wp2
                all_goals go_ret
                all_goals exact ⟨by rw [HS.out, d0, d1, d2, d3, d4, d5, d6]; rfl, hB.out⟩
theorem behind_split (A B : Va) : behindB A B = if A.time = B.time then (if A.node = B.node then (if A.dead = B.dead then (!(Op.bytesLess A.text B.text || A.text == B.text)) else A.dead) else decide (B.node < A.node)) else decide (B.time < A.time) := by
  rw [Bool.eq_iff_iff, behindB_iff]
  unfold Behind
  by_cases h1 : A.time = B.time
  · rw [if_pos h1]
    by_cases h2 : A.node = B.node
    · rw [if_pos h2]
      by_cases h3 : A.dead = B.dead
      · rw [if_pos h3]
        have e : (!(Op.bytesLess A.text B.text || A.text == B.text)) = Op.bytesLess B.text A.text := by
          cases a : Op.bytesLess A.text B.text with
          | true => rw [less_asymm a]; rfl
          | false =>
            cases b : Op.bytesLess B.text A.text with
            | true =>
              have : A.text ≠ B.text := by intro e; rw [e, less_irrefl] at b; cases b
              simp [this]
            | false => simp [less_total _ _ a b]
        rw [e]
        simp [h1, h2, h3]
      · rw [if_neg h3]
        cases ha : A.dead <;> cases hb : B.dead <;> simp [ha, hb] at h3 <;> simp [h1, h2, rankI]
    · rw [if_neg h2]
      simp [h1, h2]
  · rw [if_neg h1]
    simp [h1]
set_option maxRecDepth 20000 in
set_option maxHeartbeats 2000000 in
theorem rbehind_any (A B : Va) (v u : Value) (w : World) (hv : isVa A v w) (hu : isVa B u w) :
    Calls Tryz.prog 49 #[v, u] w fun e w' => e = .returned (.bool (behindB A B)) ∧ Below w.heap.size w w' := by
  obtain ⟨pa, ma, rfl, hpa, hma⟩ := hv
  obtain ⟨pb, mb, rfl, hpb, hmb⟩ := hu
  obtain ⟨hB, Va⟩ := vbox w A pa ma hpa hma (w.heap.size) (by simp)
  obtain ⟨hBn, Vb⟩ := vbox (w.alloc (.cells #[.int .i64 A.kind, .int .i64 A.time, .int .i64 A.node, .bool A.dead, .string ⟨A.text.toArray⟩, pa, ma, .int .u64 (A.flags.toNat : Int)] 25)) B pb mb (stable_cells _ _ _ _ hpb hB.out) (stable_cells _ _ _ _ hmb hB.out) (w.heap.size + 1) (by simp)
  replace Va := Kept.mk (Va.out.keep hBn.out)
  replace hB := Kept.mk (hB.out.trans (hBn.out.mono hB.out.size))
  clear hBn
  clear hpa hma hpb hmb
  have HS := Kept.mk (behind_split A B)
  clear Va Vb
  by_cases h1 : A.time = B.time
  case neg =>
    have d1 : (A.time == B.time) = false := by simpa using h1
    have HR := Kept.mk (show behindB A B = decide (B.time < A.time) by rw [HS.out, if_neg h1])
    clear h1 HS
    go_enter Tryz.func49, Tryz.ntmps49
    go_wp2
    all_goals go_ret
    all_goals exact ⟨by rw [HR.out]; rfl, hB.out⟩
  rw [if_pos h1] at HS
  have d1 : (A.time == B.time) = true := by simpa using h1
  clear h1
  by_cases h2 : A.node = B.node
  case neg =>
    have d2 : (A.node == B.node) = false := by simpa using h2
    have HR := Kept.mk (show behindB A B = decide (B.node < A.node) by rw [HS.out, if_neg h2])
    clear h2 HS
    go_enter Tryz.func49, Tryz.ntmps49
    go_wp2
    all_goals go_ret
    all_goals exact ⟨by rw [HR.out]; rfl, hB.out⟩
  rw [if_pos h2] at HS
  have d2 : (A.node == B.node) = true := by simpa using h2
  clear h2
  cases ha : A.dead with
  | false =>
    cases hb : B.dead with
    | false =>
      rw [ha, hb] at HS hB
      rw [if_pos rfl, Bool.not_or] at HS
      go_enter Tryz.func49, Tryz.ntmps49
      go_wp2
      all_goals go_ret
      all_goals exact ⟨by rw [HS.out]; rfl, hB.out⟩
    | true =>
      rw [ha, hb] at HS hB
      rw [if_neg (by decide)] at HS
      go_enter Tryz.func49, Tryz.ntmps49
      go_wp2
      all_goals go_ret
      all_goals exact ⟨by rw [HS.out]; rfl, hB.out⟩
  | true =>
    cases hb : B.dead with
    | false =>
      rw [ha, hb] at HS hB
      rw [if_neg (by decide)] at HS
      go_enter Tryz.func49, Tryz.ntmps49
      go_wp2
      all_goals go_ret
      all_goals exact ⟨by rw [HS.out]; rfl, hB.out⟩
    | true =>
      rw [ha, hb] at HS hB
      rw [if_pos rfl, Bool.not_or] at HS
      go_enter Tryz.func49, Tryz.ntmps49
      go_wp2
      all_goals go_ret
      all_goals exact ⟨by rw [HS.out]; rfl, hB.out⟩
end Go.Proofs.YtebjljiklacolaaGreat
end
section
namespace Go.Proofs.YtebjljiklacolaaGreat
open Go.RowKit
set_option linter.unusedVariables false
section
variable {P : Program} {ops : Array Oper} {base : World} {a0 : Act} {Q : Exit → Act → World → Prop} {kn : Nat → VP} {i : Nat} {V : VP}
theorem step_max (k : IntKind) (t1 t2 : TypeId) (x y : Operand) (m n r : Int) (hop : (ops[i]?).map (·.op) = some (.call { callee := .builtin .max, args := #[x, y], argTypes := #[t1, t2] })) (hw : Wanted ops a0 kn i) (hx : Knows ops a0 kn i x (isVal (.int k m))) (hy : Knows ops a0 kn i y (isVal (.int k n)))
    (hr : (if n > m then n else m) = r) : FStep P ops base a0 Q kn i (isVal (.int k r)) :=
  step_pure _ hop hw fun o a w ho hk hd => by
    have e1 : a.eval x = .int k m := hx a w hk hd
    have e2 : a.eval y = .int k n := hy a w hk hd
    unfold execOp
    rw [ho]
    simp only [resolve, Sem.run_bind, Sem.run_pure, Result.andThen_ok, invoke, builtin, List.map_toArray, List.map_cons, List.map_nil, e1, e2, run_max_int2, hr]
end
end Go.Proofs.YtebjljiklacolaaGreat
end
section
namespace Go.Proofs.YtebjljiklacolaaGreat
open Go.RowKit
set_option linter.unusedVariables false
set_option linter.unusedSimpArgs false

section
variable {P : Program} {ops : Array Oper} {base : World} {a0 : Act} {Q : Exit → Act → World → Prop} {kn : Nat → VP} {i : Nat} {V : VP}
theorem step_int1 (t e : TypeId) (x : Operand) (a1 : Int) (ie : TypeInfo) (hop : (ops[i]?).map (·.op) = some (.buildSlice t 1 #[(0, x)])) (hw : Wanted ops a0 kn i) (h0 : Knows ops a0 kn i x (isVal (.int .i64 a1)))
    (hu : P.underlying t = some (.slice e)) (hie : P.info? e = some ie) (hz : ie.zero = some (.int .i64 0)) (hsz : ie.size = 1) : FStep P ops base a0 Q kn i (isCells [intC a1]) :=
  step_mk (stable_cells _) hw fun o ho a w hk hb hd => by
    have e0 : a.eval x = intC a1 := h0 a w hk hd
    have hf : Instr.fill (fun i => some (i * ie.size, ie.size)) ((Array.range (1 * ie.size)).map ((Value.int .i64 0).cells[· % (Value.int .i64 0).cells.size]!)) ((#[(0, x)] : Array (Nat × Operand)).map fun (i, x) => (i, a.eval x)).toList = some #[intC a1] := by
      have e1 : ((#[(0, x)] : Array (Nat × Operand)).map fun (i, x) => (i, a.eval x)).toList = (([intC a1] : List Value).zipIdx 0).map fun x => (x.2, x.1) := by simp [e0]
      rw [e1, hsz, Great.fill_flat _ _ (fun v hv => by simp only [List.mem_cons, List.not_mem_nil, or_false] at hv; subst hv; rfl) (by simp)]
    refine wp_buildSlice t e 1 _ (op_of hop ho) _ ie (.int .i64 0) hu hie hz (by rw [hsz]; omega) (by rw [hsz]; omega) hf ?_
    refine ⟨_, rfl, .inr (.inr ⟨w.heap.size, 0, 1, rfl, by simp, fun j v hv => ?_⟩), (Below.refl _ _).alloc (Nat.le_refl _) _⟩
    rw [World.cell?_alloc_new]
    simpa using hv
end
theorem ownsRow_grow {W W' : World} {n₀ : Nat} {e : TypeId} {size : Nat} {v : Value} {k : Nat} {xs : List Value} (h : W.ownsRow n₀ e size v k xs) (hb : Below W.heap.size W W') : W'.ownsRow n₀ e size v k xs := by
  obtain ⟨hl, h | ⟨g, cap, cur, hv, hB, hg, rest⟩⟩ := h
  · exact ⟨hl, .inl h⟩
  · exact ⟨hl, .inr ⟨g, cap, cur, hv, hB, (hb.block g (Array.getElem?_eq_some_iff.1 hg).1).trans hg, rest⟩⟩
theorem ownsRow_at {w : World} {base : Nat} {e : TypeId} {z : Nat} {v : Value} {k : Nat} {xs : List Value} (h : w.ownsRow base e z v k xs) : ∀ j, v.ownBlock = some j → base ≤ j := by
  intro j hj
  obtain ⟨_, ⟨rfl, _⟩ | ⟨g, cap, cur, rfl, hB, _⟩⟩ := h
  · simp [Value.ownBlock] at hj
  · simp [Value.ownBlock] at hj; omega
noncomputable def mostOps : Array Oper := regionOf Tryz.f50 5
set_option maxRecDepth 100000 in
set_option maxHeartbeats 2000000 in
theorem most_region (Q : Exit → Act → World → Prop) (a0 : Act) (w0 : World) (hsz : a0.tmps.size = 26) (B : Nat) (v0 : Value) (xs : List Int) (b1 o1 c1 b2 o2 c2 n k : Nat) (x y : Int) (e5 : a0.tmps.getD 5 undef = v0) (e0 : a0.tmps.getD 0 undef = (.slice (some ⟨b1, o1, none⟩) n c1)) (e1 : a0.tmps.getD 1 undef = (.slice (some ⟨b2, o2, none⟩) n c2)) (e6 : a0.tmps.getD 6 undef = .int .i64 (k : Int)) (hk : k < n)
    (p1 : w0.cell? ⟨b1, o1 + k, none⟩ = some (.int .i64 x)) (l1 : b1 < w0.heap.size) (p2 : w0.cell? ⟨b2, o2 + k, none⟩ = some (.int .i64 y)) (l2 : b2 < w0.heap.size) (hown : w0.ownsRow B 3 1 v0 xs.length (xs.map intC)) (hx : xs.length ≤ 1000000) (hBs : B ≤ w0.heap.size)
    (hQ : ∀ (f : Nat → Value) (w1 : World), f 5 = f 24 → w1.ownsRow B 3 1 (f 24) (xs ++ [maxI x y]).length ((xs ++ [maxI x y]).map intC) → Below B w0 w1 → Q .normal { tmps := [13, 14, 15, 16, 17, 18, 19, 20, 21, 22, 23, 24, 5].foldl (fun t s => t.setIfInBounds s (f s)) a0.tmps, defers := a0.defers } w1) :
    (Code.region 5 mostOps true).wp Tryz.prog Q a0 w0 := by
  obtain ⟨iint, hiint, hzint, hsint, hbint⟩ := info_parts Tryz.infoInt
  refine wp_region_relC grows_pre 11 mixed (by rw [hsz]; kernel_rfl) (by kernel_rfl) ?_
  rw [show mostOps.size - 11 = 2 by kernel_rfl]
  refine ⟨isVal v0, RStep.old 5 v0 (by kernel_rfl) (by kernel_rfl) (by kernel_rfl) e5, ?_⟩
  refine ⟨isVal (.slice (some ⟨b1, o1, none⟩) n c1), RStep.of grows_pre (stable_val _) (by kernel_rfl) (by intro w hbw; exact step_move (.tmp 0) (by kernel_rfl) (wanted_none (by kernel_rfl)) (stable_val _) (knows_old 0 (.slice (some ⟨b1, o1, none⟩) n c1) (by kernel_rfl) e0)), ?_⟩
  refine ⟨isVal (.int .i64 (k : Int)), RStep.of grows_pre (stable_val _) (by kernel_rfl) (by intro w hbw; exact step_move (.tmp 6) (by kernel_rfl) (wanted_none (by kernel_rfl)) (stable_val _) (knows_old 6 (.int .i64 (k : Int)) (by kernel_rfl) e6)), ?_⟩
  refine ⟨isVal (.pointer (some ⟨b1, o1 + k, none⟩)), RStep.of grows_pre (stable_val _) (by kernel_rfl) (by intro w hbw; exact step_place 22 3 (.tmp 14) (.tmp 15) b1 o1 n c1 k (by kernel_rfl) (wanted_none (by kernel_rfl)) (knows_new (V := isVal (.slice (some ⟨b1, o1, none⟩) n c1)) 14 1 (by kernel_rfl) (by kernel_rfl) (by kernel_rfl)) (knows_new (V := isVal (.int .i64 (k : Int))) 15 2 (by kernel_rfl) (by kernel_rfl) (by kernel_rfl)) Tryz.underlying22 (by kernel_rfl) hk), ?_⟩
  refine ⟨isVal (.int .i64 x), RStep.of grows_pre (stable_val _) (by kernel_rfl) (by intro w hbw; exact step_read 3 (.tmp 16) ⟨b1, o1 + k, none⟩ (.int .i64 x) (by kernel_rfl) (wanted_none (by kernel_rfl)) (knows_new (V := isVal (.pointer (some ⟨b1, o1 + k, none⟩))) 16 3 (by kernel_rfl) (by kernel_rfl) (by kernel_rfl)) ((hbw.cell (p := ⟨b1, o1 + k, none⟩) l1).trans p1) (Nat.lt_of_lt_of_le l1 hbw.size) agg_int), ?_⟩
  refine ⟨isVal (.slice (some ⟨b2, o2, none⟩) n c2), RStep.of grows_pre (stable_val _) (by kernel_rfl) (by intro w hbw; exact step_move (.tmp 1) (by kernel_rfl) (wanted_none (by kernel_rfl)) (stable_val _) (knows_old 1 (.slice (some ⟨b2, o2, none⟩) n c2) (by kernel_rfl) e1)), ?_⟩
  refine ⟨isVal (.int .i64 (k : Int)), RStep.of grows_pre (stable_val _) (by kernel_rfl) (by intro w hbw; exact step_move (.tmp 6) (by kernel_rfl) (wanted_none (by kernel_rfl)) (stable_val _) (knows_old 6 (.int .i64 (k : Int)) (by kernel_rfl) e6)), ?_⟩
  refine ⟨isVal (.pointer (some ⟨b2, o2 + k, none⟩)), RStep.of grows_pre (stable_val _) (by kernel_rfl) (by intro w hbw; exact step_place 22 3 (.tmp 18) (.tmp 19) b2 o2 n c2 k (by kernel_rfl) (wanted_none (by kernel_rfl)) (knows_new (V := isVal (.slice (some ⟨b2, o2, none⟩) n c2)) 18 5 (by kernel_rfl) (by kernel_rfl) (by kernel_rfl)) (knows_new (V := isVal (.int .i64 (k : Int))) 19 6 (by kernel_rfl) (by kernel_rfl) (by kernel_rfl)) Tryz.underlying22 (by kernel_rfl) hk), ?_⟩
  refine ⟨isVal (.int .i64 y), RStep.of grows_pre (stable_val _) (by kernel_rfl) (by intro w hbw; exact step_read 3 (.tmp 20) ⟨b2, o2 + k, none⟩ (.int .i64 y) (by kernel_rfl) (wanted_none (by kernel_rfl)) (knows_new (V := isVal (.pointer (some ⟨b2, o2 + k, none⟩))) 20 7 (by kernel_rfl) (by kernel_rfl) (by kernel_rfl)) ((hbw.cell (p := ⟨b2, o2 + k, none⟩) l2).trans p2) (Nat.lt_of_lt_of_le l2 hbw.size) agg_int), ?_⟩
  refine ⟨isVal (.int .i64 (maxI x y)), RStep.of grows_pre (stable_val _) (by kernel_rfl) (by intro w hbw; exact step_max .i64 3 3 (.tmp 17) (.tmp 21) x y (maxI x y) (by kernel_rfl) (wanted_none (by kernel_rfl)) (knows_new (V := isVal (.int .i64 x)) 17 4 (by kernel_rfl) (by kernel_rfl) (by kernel_rfl)) (knows_new (V := isVal (.int .i64 y)) 21 8 (by kernel_rfl) (by kernel_rfl) (by kernel_rfl)) rfl), ?_⟩
  refine ⟨isCells [intC (maxI x y)], RStep.of grows_pre (stable_cells _) (by kernel_rfl) (by intro w hbw; exact step_int1 22 3 (.tmp 22) (maxI x y) iint (by kernel_rfl) (wanted_none (by kernel_rfl)) (knows_new (V := isVal (.int .i64 (maxI x y))) 22 9 (by kernel_rfl) (by kernel_rfl) (by kernel_rfl)) Tryz.underlying22 hiint hzint hsint), ?_⟩
  intro a w hk0 hb0 hd
  have hb : Below w0.heap.size w0 w := hb0
  have d13 := fdone_of (rdone_f (hd 0 (by decide))) (t := 13) (V := isVal v0) (by kernel_rfl) (by kernel_rfl)
  have d23 := fdone_of (rdone_f (hd 10 (by decide))) (t := 23) (V := isCells [intC (maxI x y)]) (by kernel_rfl) (by kernel_rfl)
  obtain ⟨bb, off, cap, hs23, hlt, hc⟩ := d23.some_ (by simp)
  have hown2 := ownsRow_grow hown hb
  have h24 : 24 < a.tmps.size := by rw [hk0.2.1, hsz]; decide
  refine tail_op (fun _ _ => True) (OP := .call { callee := .builtin .append, args := #[.tmp 13, .tmp 23], argTypes := #[22, 22] }) (by kernel_rfl) (fun o ho e => ?_)
  have hdst : o.dst = some 24 := by have : (mostOps[11]?).map (·.dst) = some (some 24) := by kernel_rfl
                                    rw [ho] at this; simpa using this
  refine wp_append_own _ (.tmp 13) (.tmp 23) 22 e B 3 iint (.int .i64 0) 1 8 Tryz.underlying22 hiint hzint hsint hbint rfl (by decide) v0 xs.length (xs.map intC) d13 hown2 ⟨bb, off, none⟩ 1 cap [intC (maxI x y)] hs23 rfl (fun j u hu => ?_) (fun u hu => by simp at hu; subst hu; rfl) (by unfold maxLen; omega) (by omega) (Nat.le_trans hBs hb.size) (fun v' w1 ho1 hgr _ => ?_)
  · have := hc j u hu
    by_cases e0 : j = 0
    · subst e0; simpa [Addr.add] using this
    · simpa [Addr.add, e0] using this
  rw [hdst]
  have hB1 : Below B w0 w1 := (hb.mono hBs).trans ((Below.refl B w).grown hgr (Nat.le_trans hBs hb.size) (ownsRow_at hown2))
  refine tail_op (fun _ _ => True) (OP := .assign (.tmp 24)) (by kernel_rfl) (fun o2 ho2 e2 => ?_)
  have hdst2 : o2.dst = some 5 := by have : (mostOps[12]?).map (·.dst) = some (some 5) := by kernel_rfl
                                     rw [ho2] at this; simpa using this
  have e24 : (a.put (some 24) v').tmps.getD 24 undef = v' := getD_put_self h24
  unfold Oper.wp execOp
  rw [e2]
  simp only [Oper.upon, Sem.run_pure, hdst2]
  show Tail Tryz.prog mostOps Q 0 13 (((a.put (some 24) v')).put (some 5) ((a.put (some 24) v').tmps.getD 24 undef)) w1
  rw [e24]
  have h5 : 5 < (a.put (some 24) v').tmps.size := by rw [size_put, hk0.2.1, hsz]; decide
  have f5 : ((a.put (some 24) v').put (some 5) v').tmps.getD 5 undef = v' := getD_put_self h5
  have f24 : ((a.put (some 24) v').put (some 5) v').tmps.getD 24 undef = v' := (getD_put (by decide)).trans e24
  show Q .normal ((a.put (some 24) v').put (some 5) v') w1
  have key := act_of (a := (a.put (some 24) v').put (some 5) v') (a0 := a0) (by rw [defers_put, defers_put]; exact hk0.1) (by rw [size_put, size_put]; exact hk0.2.1) [13, 14, 15, 16, 17, 18, 19, 20, 21, 22, 23, 24, 5] (fun t ht => by
    have n1 : t ≠ 5 := by rintro rfl; revert ht; decide
    have n2 : t ≠ 24 := by rintro rfl; revert ht; decide
    rw [getD_put n1, getD_put n2]
    refine hk0.2.2 t ?_
    have e13 : ((List.range 11).all fun i => (mostOps[i]?).all fun o => o.dst != some t) = ([13, 14, 15, 16, 17, 18, 19, 20, 21, 22, 23].all fun d => some d != some t) := by kernel_rfl
    rw [e13, List.all_eq_true]
    intro d hd'
    simp only [bne_iff_ne, ne_eq, Option.some.injEq]
    rintro rfl
    rw [List.contains_eq_mem] at ht
    simp only [decide_eq_false_iff_not] at ht
    exact ht (by simp only [List.mem_cons, List.not_mem_nil, or_false] at hd' ⊢; omega))
  rw [key]
  refine hQ (fun s => ((a.put (some 24) v').put (some 5) v').tmps.getD s undef) w1 (f5.trans f24.symm) ?_ hB1
  show w1.ownsRow B 3 1 (((a.put (some 24) v').put (some 5) v').tmps.getD 24 undef) _ _
  rw [f24]
  simpa using ho1
end Go.Proofs.YtebjljiklacolaaGreat
end
section
namespace Go.Proofs.YtebjljiklacolaaGreat
open Go.RowKit
set_option linter.unusedVariables false
set_option linter.unusedSimpArgs false

theorem zip_take (l m : List Int) (k : Nat) (h1 : k < l.length) (h2 : k < m.length) : (List.zipWith maxI l m).take (k + 1) = (List.zipWith maxI l m).take k ++ [maxI l[k] m[k]] := by
  rw [List.take_succ_eq_append_getElem (by rw [List.length_zipWith]; omega), List.getElem_zipWith]
set_option maxRecDepth 100000 in
set_option maxHeartbeats 2000000 in
theorem most_any (l m : List Int) (v u : Value) (w : World) (hv : isCells (l.map intC) v w) (hu : isCells (m.map intC) u w) (hlm : l.length = m.length) (hl : l.length ≤ 1000000) :
    Calls Tryz.prog 50 #[v, u] w fun e w' => ∃ v', e = .returned v' ∧ isOwn w.heap.size 3 ((List.zipWith maxI l m).map intC) v' w' ∧ Below w.heap.size w w' := by
  by_cases h0 : l.length = 0
  · obtain rfl : l = [] := List.eq_nil_of_length_eq_zero h0
    obtain ⟨a, cap, rfl⟩ := hv.len
    obtain ⟨b, cap2, rfl⟩ := hu.len
    clear hv hu
    simp only [List.map_nil, List.length_nil]
    go_enter Tryz.func50, Tryz.ntmps50
    go_wp2
    go_loop [5, 6] (fun c i => c = .slice none 0 0 ∧ i = .int .i64 0) (fun _ _ => 0)
    case atStart => exact ⟨rfl, rfl⟩
    case round =>
      obtain ⟨rfl, rfl⟩ := hrel
      go_wp2
      go_ret
      exact ⟨_, rfl, World.ownsRow_nil _ _ _ _, Below.refl _ _⟩
  · obtain ⟨b1, o1, c1, hv', l1, hc1⟩ := hv.some_ (by rw [List.length_map]; omega)
    obtain ⟨b2, o2, c2, hu', l2, hc2⟩ := hu.some_ (by rw [List.length_map]; omega)
    rw [List.length_map] at hv' hu'
    rw [← hlm] at hu'
    subst hv' hu'
    have HZ := Kept.mk (show (List.zipWith maxI l m).length = l.length by rw [List.length_zipWith]; omega)
    have HLM := Kept.mk hlm
    have HC1 := Kept.mk hc1
    have HC2 := Kept.mk hc2
    obtain ⟨n, hn⟩ : ∃ n, n = l.length := ⟨_, rfl⟩
    have HN := Kept.mk hn
    rw [← hn] at hl h0 ⊢
    clear hv hu hlm hc1 hc2 hn
    go_enter Tryz.func50, Tryz.ntmps50
    go_wp2
    go_loopw [5, 6] (fun c i wr => ∃ k : Nat, k ≤ n ∧ i = .int .i64 (k : Int) ∧ Kept (wr.ownsRow w.heap.size 3 1 c ((List.zipWith maxI l m).take k).length (((List.zipWith maxI l m).take k).map intC)) ∧ Kept (Below w.heap.size w wr)) (fun _ i _ => n - (intOf i).toNat)
    case atStart => exact ⟨0, Nat.zero_le _, rfl, ⟨World.ownsRow_nil _ _ _ _⟩, ⟨Below.refl _ _⟩⟩
    case round =>
      obtain ⟨k, hk, rfl, HO, HB⟩ := hrel
      by_cases hlt : k < n
      · have d1 : decide ((k : Int) < (n : Int)) = true := by simpa using hlt
        have hkl : k < l.length := by rw [← HN.out]; exact hlt
        have hkm : k < m.length := by rw [← HLM.out]; exact hkl
        have HT := Kept.mk (zip_take l m k hkl hkm)
        have P1 := Kept.mk ((HB.out.cell (p := ⟨b1, o1 + k, none⟩) l1).trans (HC1.out k _ (get_map intC l k hkl)))
        have P2 := Kept.mk ((HB.out.cell (p := ⟨b2, o2 + k, none⟩) l2).trans (HC2.out k _ (get_map intC m k hkm)))
        have HLT := Kept.mk (show ((List.zipWith maxI l m).take k).length ≤ 1000000 by rw [List.length_take]; omega)
        generalize (List.zipWith maxI l m).take k = xs at *
        go_wp2_with fail
        refine most_region _ _ _ rfl w.heap.size _ xs b1 o1 c1 b2 o2 c2 n k l[k] m[k] rfl rfl rfl rfl hlt P1.out (Nat.lt_of_lt_of_le l1 HB.out.size) P2.out (Nat.lt_of_lt_of_le l2 HB.out.size) HO.out HLT.out HB.out.size ?_
        intro f9 W9 h5 ho hb9
        simp only [List.foldl_cons, List.foldl_nil, h5]
        generalize f9 13 = y13
        generalize f9 14 = y14
        generalize f9 15 = y15
        generalize f9 16 = y16
        generalize f9 17 = y17
        generalize f9 18 = y18
        generalize f9 19 = y19
        generalize f9 20 = y20
        generalize f9 21 = y21
        generalize f9 22 = y22
        generalize f9 23 = y23
        generalize f9 24 = y24 at ho ⊢
        clear h5
        simp only [List.setIfInBounds_toArray, List.set_cons_succ, List.set_cons_zero]
        have HO9 := Kept.mk ho
        rw [← HT.out] at HO9
        have HB9 := Kept.mk (HB.out.trans hb9)
        clear ho hb9 HO HB P1 P2
        go_wp2
        go_roundw
        case rel => exact ⟨k + 1, by omega, by go_num, HO9, HB9⟩
        case measure => simp [intOf]; omega
      · have d1 : decide ((k : Int) < (n : Int)) = false := by simp; omega
        have HE := Kept.mk (show (List.zipWith maxI l m).take k = List.zipWith maxI l m by rw [List.take_of_length_le]; rw [HZ.out, ← HN.out]; omega)
        rw [HE.out] at HO
        go_wp2
        go_ret
        refine ⟨_, rfl, ?_, HB.out⟩
        unfold isOwn
        rw [List.length_map]
        exact HO.out
end Go.Proofs.YtebjljiklacolaaGreat
end
section
namespace Go.Proofs.YtebjljiklacolaaGreat
open Go.RowKit
set_option linter.unusedVariables false
set_option linter.unusedSimpArgs false
attribute [local irreducible] setN

/-- A value whose rows, if it has any, are new. -/
def isVaR (B : Nat) (A : Va) : VP := fun v w => ∃ vp vm, v = .agg #[.int .i64 A.kind, .int .i64 A.time, .int .i64 A.node, .bool A.dead, .string ⟨A.text.toArray⟩, vp, vm, .int .u64 (A.flags.toNat : Int)] ∧ isCells (A.plus.map intC) vp w ∧ isCells (A.minus.map intC) vm w ∧ (A.plus ≠ [] → NewB B vp) ∧ (A.minus ≠ [] → NewB B vm)
theorem va_mk {A : Va} {vp vm : Value} {w : World} (hp : isCells (A.plus.map intC) vp w) (hm : isCells (A.minus.map intC) vm w) : isVa A (.agg #[.int .i64 A.kind, .int .i64 A.time, .int .i64 A.node, .bool A.dead, .string ⟨A.text.toArray⟩, vp, vm, .int .u64 (A.flags.toNat : Int)]) w := ⟨vp, vm, rfl, hp, hm⟩
theorem cells_up {cs : List Value} {v : Value} {w w' : World} (h : isCells cs v w) (hb : Below w.heap.size w w') : isCells cs v w' := stable_cells _ _ _ _ h hb
theorem vset2 {B g : Nat} {w0 w : World} (A : Va) (vp vm : Value) (hB : B ≤ g) (hb : Below B w0 w) {old : List Value} (hc : CellsN w g old) (h8 : old.length = 8) (hp : isCells (A.plus.map intC) vp w) (hm : isCells (A.minus.map intC) vm w) (np : A.plus ≠ [] → blk vp ≠ some g) (nm : A.minus ≠ [] → blk vm ≠ some g) :
    Kept (Below B w0 (setN w g 0 [.int .i64 A.kind, .int .i64 A.time, .int .i64 A.node, .bool A.dead, .string ⟨A.text.toArray⟩, vp, vm, .int .u64 (A.flags.toNat : Int)])) ∧ Kept (VarE (setN w g 0 [.int .i64 A.kind, .int .i64 A.time, .int .i64 A.node, .bool A.dead, .string ⟨A.text.toArray⟩, vp, vm, .int .u64 (A.flags.toNat : Int)]) g A vp vm) ∧ Kept (Ones [.int .i64 A.kind, .int .i64 A.time, .int .i64 A.node, .bool A.dead, .string ⟨A.text.toArray⟩, vp, vm, .int .u64 (A.flags.toNat : Int)]) := by
  have ap : ∀ (v : Value) (l : List Int), (l ≠ [] → blk v ≠ some g) → ∀ b off cap, v = .slice (some ⟨b, off, none⟩) (l.map intC).length cap → l.map intC ≠ [] → b ≠ g := by
    rintro v l h b off cap rfl hne rfl
    exact h (fun e => hne (by rw [e]; rfl)) rfl
  exact ⟨⟨below_setN hB _ 0 _ hb⟩, ⟨⟨hc.setN_ _ h8, cells_apart hp (ap vp _ np) _ _, cells_apart hm (ap vm _ nm) _ _⟩⟩, ⟨⟨rfl, rfl, rfl, rfl, rfl, hp.one, hm.one, rfl, trivial⟩⟩⟩
theorem CellsN.setAt {w : World} {g : Nat} {l : List Value} (h : CellsN w g l) (k : Nat) (v : Value) (hk : k < l.length) : CellsN (w.setCell ⟨g, k, none⟩ v) g (l.set k v) := by
  refine ⟨by rw [World.size_setCell]; exact h.1, fun j x hx => ?_⟩
  by_cases e : k = j
  · subst e
    rw [List.getElem?_set_self hk] at hx
    injection hx with hx
    subst hx
    exact World.cell?_setCell_same w _ _ (h.2 k _ (List.getElem?_eq_getElem hk))
  · rw [List.getElem?_set_ne e] at hx
    rw [World.cell?_setCell_other w _ _ _ (by intro hh; injection hh; omega)]
    exact h.2 j x hx
theorem CellsN.setOther {w : World} {g b : Nat} {l : List Value} (h : CellsN w g l) (hne : g ≠ b) (k : Nat) (v : Value) : CellsN (w.setCell ⟨b, k, none⟩ v) g l :=
  ⟨by rw [World.size_setCell]; exact h.1, fun j x hx => (World.cell?_setCell_other w _ _ _ (by intro e; injection e; omega)).trans (h.2 j x hx)⟩
def mergeV (A B : Va) : Va := ⟨A.kind, A.time, A.node, A.dead, A.text, List.zipWith maxI A.plus B.plus, List.zipWith maxI A.minus B.minus, A.flags ||| B.flags⟩
theorem merge_join {A B : Va} (h : joinE A B = 0) (k : A.kind ≠ 1) : joinF A B = mergeV A B ∧ A.plus.length = B.plus.length ∧ A.minus.length = B.minus.length := by
  obtain ⟨hA, hB, hk⟩ := joinE_zero.1 h
  rw [joinF_ok h]
  rcases ok_kind hA with k1 | k2 | k3
  · exact absurd k1 k
  · obtain ⟨a1, a2⟩ := ok_count hA k2
    obtain ⟨b1, b2⟩ := ok_count hB (by omega)
    unfold inCount at a1 b1
    rw [Bool.and_eq_true] at a1 b1
    rw [joinV_count k2]
    refine ⟨?_, by rw [okRow_len a1.1, okRow_len b1.1], by rw [okRow_len a1.2, okRow_len b1.2]⟩
    have e1 : A.time = 0 := congrArg Va.time a2
    have e2 : A.node = 0 := congrArg Va.node a2
    have e3 : A.flags = 0 := congrArg Va.flags a2
    have e4 : A.dead = false := congrArg Va.dead a2
    have e5 : A.text = [] := congrArg Va.text a2
    have e6 : B.flags = 0 := congrArg Va.flags b2
    unfold joinCount mergeV
    rw [k2, e1, e2, e3, e4, e5, e6]
    rfl
  · have a2 := ok_flags hA k3
    have b2 := ok_flags hB (by omega)
    have e1 : A.time = 0 := congrArg Va.time a2
    have e2 : A.node = 0 := congrArg Va.node a2
    have e4 : A.dead = false := congrArg Va.dead a2
    have e5 : A.text = [] := congrArg Va.text a2
    have e6 : A.plus = [] := congrArg Va.plus a2
    have e7 : A.minus = [] := congrArg Va.minus a2
    have f6 : B.plus = [] := congrArg Va.plus b2
    have f7 : B.minus = [] := congrArg Va.minus b2
    rw [joinV_flags k3]
    refine ⟨?_, by rw [e6, f6], by rw [e7, f7]⟩
    unfold joinFlags mergeV
    rw [k3, e1, e2, e4, e5, e6, e7]
    rfl
set_option maxRecDepth 20000 in
set_option maxHeartbeats 2000000 in
theorem rjoin_no1 (A B : Va) (v u : Value) (w : World) (hv : isVa A v w) (hu : isVa B u w) (hA : Fit A) (hC : Fit B) (h : okV A = false) :
    Calls Tryz.prog 30 #[v, u] w fun e w' => ∃ v', e = .returned (.tuple #[v', .int .i64 2]) ∧ isVaR w.heap.size zeroV v' w' ∧ Below w.heap.size w w' := by
  obtain ⟨vp, vm, rfl, hp, hm⟩ := hv
  obtain ⟨up, um, rfl, gp, gm⟩ := hu
  have hB1 := lit_below w (.cells #[.int .i64 A.kind, .int .i64 A.time, .int .i64 A.node, .bool A.dead, .string ⟨A.text.toArray⟩, vp, vm, .int .u64 (A.flags.toNat : Int)] 25)
  have hB2 := lit_below (w.alloc (.cells #[.int .i64 A.kind, .int .i64 A.time, .int .i64 A.node, .bool A.dead, .string ⟨A.text.toArray⟩, vp, vm, .int .u64 (A.flags.toNat : Int)] 25)) (.cells #[.int .i64 B.kind, .int .i64 B.time, .int .i64 B.node, .bool B.dead, .string ⟨B.text.toArray⟩, up, um, .int .u64 (B.flags.toNat : Int)] 25)
  have hB3 := lit_below ((w.alloc (.cells #[.int .i64 A.kind, .int .i64 A.time, .int .i64 A.node, .bool A.dead, .string ⟨A.text.toArray⟩, vp, vm, .int .u64 (A.flags.toNat : Int)] 25)).alloc (.cells #[.int .i64 B.kind, .int .i64 B.time, .int .i64 B.node, .bool B.dead, .string ⟨B.text.toArray⟩, up, um, .int .u64 (B.flags.toNat : Int)] 25)) (.cells #[.int .i64 0, .int .i64 0, .int .i64 0, .bool false, .string ⟨#[]⟩, .slice none 0 0, .slice none 0 0, .int .u64 0] 25)
  have hB := Kept.mk ((hB1.trans (hB2.mono hB1.size)).trans (hB3.mono (hB1.trans (hB2.mono hB1.size)).size))
  have CA := Kept.mk (((cellsN_at w 25 [.int .i64 A.kind, .int .i64 A.time, .int .i64 A.node, .bool A.dead, .string ⟨A.text.toArray⟩, vp, vm, .int .u64 (A.flags.toNat : Int)] w.heap.size rfl).keep hB2 (by simp)).keep hB3 (by simp <;> omega))
  have CB := Kept.mk ((cellsN_at (w.alloc (.cells #[.int .i64 A.kind, .int .i64 A.time, .int .i64 A.node, .bool A.dead, .string ⟨A.text.toArray⟩, vp, vm, .int .u64 (A.flags.toNat : Int)] 25)) 25 [.int .i64 B.kind, .int .i64 B.time, .int .i64 B.node, .bool B.dead, .string ⟨B.text.toArray⟩, up, um, .int .u64 (B.flags.toNat : Int)] (w.heap.size + 1) (by simp)).keep hB3 (by simp))
  have HZ := Kept.mk (cellsN_at ((w.alloc (.cells #[.int .i64 A.kind, .int .i64 A.time, .int .i64 A.node, .bool A.dead, .string ⟨A.text.toArray⟩, vp, vm, .int .u64 (A.flags.toNat : Int)] 25)).alloc (.cells #[.int .i64 B.kind, .int .i64 B.time, .int .i64 B.node, .bool B.dead, .string ⟨B.text.toArray⟩, up, um, .int .u64 (B.flags.toNat : Int)] 25)) 25 [.int .i64 0, .int .i64 0, .int .i64 0, .bool false, .string ⟨#[]⟩, .slice none 0 0, .slice none 0 0, .int .u64 0] (w.heap.size + 2) (by simp))
  have FA := Kept.mk (((free5_at w #[.int .i64 A.kind, .int .i64 A.time, .int .i64 A.node, .bool A.dead, .string ⟨A.text.toArray⟩, vp, vm, .int .u64 (A.flags.toNat : Int)] 25 w.heap.size rfl).keep hB2 (by simp)).keep hB3 (by simp <;> omega))
  have HF := Kept.mk (free5_at ((w.alloc (.cells #[.int .i64 A.kind, .int .i64 A.time, .int .i64 A.node, .bool A.dead, .string ⟨A.text.toArray⟩, vp, vm, .int .u64 (A.flags.toNat : Int)] 25)).alloc (.cells #[.int .i64 B.kind, .int .i64 B.time, .int .i64 B.node, .bool B.dead, .string ⟨B.text.toArray⟩, up, um, .int .u64 (B.flags.toNat : Int)] 25)) #[.int .i64 0, .int .i64 0, .int .i64 0, .bool false, .string ⟨#[]⟩, .slice none 0 0, .slice none 0 0, .int .u64 0] 25 (w.heap.size + 2) (by simp))
  have hs : Kept ((((w.alloc (.cells #[.int .i64 A.kind, .int .i64 A.time, .int .i64 A.node, .bool A.dead, .string ⟨A.text.toArray⟩, vp, vm, .int .u64 (A.flags.toNat : Int)] 25)).alloc (.cells #[.int .i64 B.kind, .int .i64 B.time, .int .i64 B.node, .bool B.dead, .string ⟨B.text.toArray⟩, up, um, .int .u64 (B.flags.toNat : Int)] 25)).alloc (.cells #[.int .i64 0, .int .i64 0, .int .i64 0, .bool false, .string ⟨#[]⟩, .slice none 0 0, .slice none 0 0, .int .u64 0] 25)).heap.size = w.heap.size + 3) := ⟨by simp⟩
  have HP := Kept.mk hp
  have HM := Kept.mk hm
  have GP := Kept.mk gp
  have GM := Kept.mk gm
  clear hp hm gp gm hB1 hB2 hB3
  have HO := Kept.mk h
  clear h
  go_enter Tryz.func30, Tryz.ntmps30
  go_wp2_with fail
  generalize ((w.alloc (.cells #[.int .i64 A.kind, .int .i64 A.time, .int .i64 A.node, .bool A.dead, .string ⟨A.text.toArray⟩, vp, vm, .int .u64 (A.flags.toNat : Int)] 25)).alloc (.cells #[.int .i64 B.kind, .int .i64 B.time, .int .i64 B.node, .bool B.dead, .string ⟨B.text.toArray⟩, up, um, .int .u64 (B.flags.toNat : Int)] 25)).alloc (.cells #[.int .i64 0, .int .i64 0, .int .i64 0, .bool false, .string ⟨#[]⟩, .slice none 0 0, .slice none 0 0, .int .u64 0] 25) = W0 at *
  replace hs := Kept.mk (Nat.le_of_eq hs.out.symm)
  ((with_reducible refine (rcheck_any A _ _ (show isVa A (.agg #[.int .i64 A.kind, .int .i64 A.time, .int .i64 A.node, .bool A.dead, .string ⟨A.text.toArray⟩, vp, vm, .int .u64 (A.flags.toNat : Int)]) W0 from va_mk (cells_up HP.out hB.out) (cells_up HM.out hB.out)) hA).mono ?_); rintro e w1 ⟨rfl, hb1⟩)
  have hgA := CA.out.1
  replace FA := Kept.mk (FA.out.keep hb1 (Nat.lt_of_lt_of_le (by show w.heap.size < _; exact hgA) (Nat.le_refl _)))
  replace HF := Kept.mk (HF.out.keep hb1 HZ.out.1)
  replace CA := Kept.mk (CA.out.keep hb1 CA.out.1)
  replace CB := Kept.mk (CB.out.keep hb1 CB.out.1)
  replace HZ := Kept.mk (HZ.out.keep hb1 HZ.out.1)
  replace hB := Kept.mk (hB.out.trans (hb1.mono hB.out.size))
  replace hs := Kept.mk (Nat.le_trans hs.out hb1.size)
  clear hb1 hgA
  rewrite [HO.out]
  obtain ⟨hBK, K4, K5⟩ := vset zeroV (.slice none 0 0) (.slice none 0 0) (g := w.heap.size + 2) (by omega) hB.out HZ.out rfl (.inl ⟨rfl, rfl⟩) (.inl ⟨rfl, rfl⟩) (by intro h; cases h) (by intro h; cases h)
  have NP1 : Kept (zeroV.plus ≠ [] → NewB w.heap.size (.slice none 0 0)) := ⟨fun h => absurd rfl h⟩
  have NM1 : Kept (zeroV.minus ≠ [] → NewB w.heap.size (.slice none 0 0)) := ⟨fun h => absurd rfl h⟩
  obtain ⟨hc', hp', hm'⟩ := K4.out
  clear K4
  go_wp2_with (have hz0 := K5; refine wpList_storeN 25 rfl (.tmp 4) (.tmp 14) rfl (w.heap.size + 2) [.int .i64 0, .int .i64 0, .int .i64 0, .bool false, .string ⟨#[]⟩, .slice none 0 0, .slice none 0 0, .int .u64 0] size_va rfl rfl HZ.out rfl HF.out K5.out ?_; clear hz0 K5)
  exact bodyPost_ret (resultsN2 rfl _ _ (w.heap.size + 2) _ (.int .i64 2) size_va agg_va rfl rfl hc') rfl ⟨_, rfl, ⟨(.slice none 0 0), (.slice none 0 0), rfl, hp', hm', NP1.out, NM1.out⟩, hBK.out⟩
set_option maxRecDepth 20000 in
set_option maxHeartbeats 2000000 in
theorem rjoin_no2 (A B : Va) (v u : Value) (w : World) (hv : isVa A v w) (hu : isVa B u w) (hA : Fit A) (hC : Fit B) (h : okV A = true) (h2 : okV B = false) :
    Calls Tryz.prog 30 #[v, u] w fun e w' => ∃ v', e = .returned (.tuple #[v', .int .i64 2]) ∧ isVaR w.heap.size zeroV v' w' ∧ Below w.heap.size w w' := by
  obtain ⟨vp, vm, rfl, hp, hm⟩ := hv
  obtain ⟨up, um, rfl, gp, gm⟩ := hu
  have hB1 := lit_below w (.cells #[.int .i64 A.kind, .int .i64 A.time, .int .i64 A.node, .bool A.dead, .string ⟨A.text.toArray⟩, vp, vm, .int .u64 (A.flags.toNat : Int)] 25)
  have hB2 := lit_below (w.alloc (.cells #[.int .i64 A.kind, .int .i64 A.time, .int .i64 A.node, .bool A.dead, .string ⟨A.text.toArray⟩, vp, vm, .int .u64 (A.flags.toNat : Int)] 25)) (.cells #[.int .i64 B.kind, .int .i64 B.time, .int .i64 B.node, .bool B.dead, .string ⟨B.text.toArray⟩, up, um, .int .u64 (B.flags.toNat : Int)] 25)
  have hB3 := lit_below ((w.alloc (.cells #[.int .i64 A.kind, .int .i64 A.time, .int .i64 A.node, .bool A.dead, .string ⟨A.text.toArray⟩, vp, vm, .int .u64 (A.flags.toNat : Int)] 25)).alloc (.cells #[.int .i64 B.kind, .int .i64 B.time, .int .i64 B.node, .bool B.dead, .string ⟨B.text.toArray⟩, up, um, .int .u64 (B.flags.toNat : Int)] 25)) (.cells #[.int .i64 0, .int .i64 0, .int .i64 0, .bool false, .string ⟨#[]⟩, .slice none 0 0, .slice none 0 0, .int .u64 0] 25)
  have hB := Kept.mk ((hB1.trans (hB2.mono hB1.size)).trans (hB3.mono (hB1.trans (hB2.mono hB1.size)).size))
  have CA := Kept.mk (((cellsN_at w 25 [.int .i64 A.kind, .int .i64 A.time, .int .i64 A.node, .bool A.dead, .string ⟨A.text.toArray⟩, vp, vm, .int .u64 (A.flags.toNat : Int)] w.heap.size rfl).keep hB2 (by simp)).keep hB3 (by simp <;> omega))
  have CB := Kept.mk ((cellsN_at (w.alloc (.cells #[.int .i64 A.kind, .int .i64 A.time, .int .i64 A.node, .bool A.dead, .string ⟨A.text.toArray⟩, vp, vm, .int .u64 (A.flags.toNat : Int)] 25)) 25 [.int .i64 B.kind, .int .i64 B.time, .int .i64 B.node, .bool B.dead, .string ⟨B.text.toArray⟩, up, um, .int .u64 (B.flags.toNat : Int)] (w.heap.size + 1) (by simp)).keep hB3 (by simp))
  have HZ := Kept.mk (cellsN_at ((w.alloc (.cells #[.int .i64 A.kind, .int .i64 A.time, .int .i64 A.node, .bool A.dead, .string ⟨A.text.toArray⟩, vp, vm, .int .u64 (A.flags.toNat : Int)] 25)).alloc (.cells #[.int .i64 B.kind, .int .i64 B.time, .int .i64 B.node, .bool B.dead, .string ⟨B.text.toArray⟩, up, um, .int .u64 (B.flags.toNat : Int)] 25)) 25 [.int .i64 0, .int .i64 0, .int .i64 0, .bool false, .string ⟨#[]⟩, .slice none 0 0, .slice none 0 0, .int .u64 0] (w.heap.size + 2) (by simp))
  have FA := Kept.mk (((free5_at w #[.int .i64 A.kind, .int .i64 A.time, .int .i64 A.node, .bool A.dead, .string ⟨A.text.toArray⟩, vp, vm, .int .u64 (A.flags.toNat : Int)] 25 w.heap.size rfl).keep hB2 (by simp)).keep hB3 (by simp <;> omega))
  have HF := Kept.mk (free5_at ((w.alloc (.cells #[.int .i64 A.kind, .int .i64 A.time, .int .i64 A.node, .bool A.dead, .string ⟨A.text.toArray⟩, vp, vm, .int .u64 (A.flags.toNat : Int)] 25)).alloc (.cells #[.int .i64 B.kind, .int .i64 B.time, .int .i64 B.node, .bool B.dead, .string ⟨B.text.toArray⟩, up, um, .int .u64 (B.flags.toNat : Int)] 25)) #[.int .i64 0, .int .i64 0, .int .i64 0, .bool false, .string ⟨#[]⟩, .slice none 0 0, .slice none 0 0, .int .u64 0] 25 (w.heap.size + 2) (by simp))
  have hs : Kept ((((w.alloc (.cells #[.int .i64 A.kind, .int .i64 A.time, .int .i64 A.node, .bool A.dead, .string ⟨A.text.toArray⟩, vp, vm, .int .u64 (A.flags.toNat : Int)] 25)).alloc (.cells #[.int .i64 B.kind, .int .i64 B.time, .int .i64 B.node, .bool B.dead, .string ⟨B.text.toArray⟩, up, um, .int .u64 (B.flags.toNat : Int)] 25)).alloc (.cells #[.int .i64 0, .int .i64 0, .int .i64 0, .bool false, .string ⟨#[]⟩, .slice none 0 0, .slice none 0 0, .int .u64 0] 25)).heap.size = w.heap.size + 3) := ⟨by simp⟩
  have HP := Kept.mk hp
  have HM := Kept.mk hm
  have GP := Kept.mk gp
  have GM := Kept.mk gm
  clear hp hm gp gm hB1 hB2 hB3
  have HO := Kept.mk h
  have HO2 := Kept.mk h2
  clear h h2
  go_enter Tryz.func30, Tryz.ntmps30
  go_wp2_with fail
  generalize ((w.alloc (.cells #[.int .i64 A.kind, .int .i64 A.time, .int .i64 A.node, .bool A.dead, .string ⟨A.text.toArray⟩, vp, vm, .int .u64 (A.flags.toNat : Int)] 25)).alloc (.cells #[.int .i64 B.kind, .int .i64 B.time, .int .i64 B.node, .bool B.dead, .string ⟨B.text.toArray⟩, up, um, .int .u64 (B.flags.toNat : Int)] 25)).alloc (.cells #[.int .i64 0, .int .i64 0, .int .i64 0, .bool false, .string ⟨#[]⟩, .slice none 0 0, .slice none 0 0, .int .u64 0] 25) = W0 at *
  replace hs := Kept.mk (Nat.le_of_eq hs.out.symm)
  ((with_reducible refine (rcheck_any A _ _ (show isVa A (.agg #[.int .i64 A.kind, .int .i64 A.time, .int .i64 A.node, .bool A.dead, .string ⟨A.text.toArray⟩, vp, vm, .int .u64 (A.flags.toNat : Int)]) W0 from va_mk (cells_up HP.out hB.out) (cells_up HM.out hB.out)) hA).mono ?_); rintro e w1 ⟨rfl, hb1⟩)
  have hgA := CA.out.1
  replace FA := Kept.mk (FA.out.keep hb1 (Nat.lt_of_lt_of_le (by show w.heap.size < _; exact hgA) (Nat.le_refl _)))
  replace HF := Kept.mk (HF.out.keep hb1 HZ.out.1)
  replace CA := Kept.mk (CA.out.keep hb1 CA.out.1)
  replace CB := Kept.mk (CB.out.keep hb1 CB.out.1)
  replace HZ := Kept.mk (HZ.out.keep hb1 HZ.out.1)
  replace hB := Kept.mk (hB.out.trans (hb1.mono hB.out.size))
  replace hs := Kept.mk (Nat.le_trans hs.out hb1.size)
  clear hb1 hgA
  rewrite [HO.out]
  have kb0 := CB.out.2 0 _ rfl
  have kb1 := CB.out.2 1 _ rfl
  have kb2 := CB.out.2 2 _ rfl
  have kb3 := CB.out.2 3 _ rfl
  have kb4 := CB.out.2 4 _ rfl
  have kb5 := CB.out.2 5 _ rfl
  have kb6 := CB.out.2 6 _ rfl
  have kb7 := CB.out.2 7 _ rfl
  go_wp2_with fail
  ((with_reducible refine (rcheck_any B _ _ (show isVa B (.agg #[.int .i64 B.kind, .int .i64 B.time, .int .i64 B.node, .bool B.dead, .string ⟨B.text.toArray⟩, up, um, .int .u64 (B.flags.toNat : Int)]) w1 from va_mk (cells_up GP.out hB.out) (cells_up GM.out hB.out)) hC).mono ?_); rintro e w2 ⟨rfl, hb1⟩)
  clear kb0 kb1 kb2 kb3 kb4 kb5 kb6 kb7
  have hgA := CA.out.1
  replace FA := Kept.mk (FA.out.keep hb1 (Nat.lt_of_lt_of_le (by show w.heap.size < _; exact hgA) (Nat.le_refl _)))
  replace HF := Kept.mk (HF.out.keep hb1 HZ.out.1)
  replace CA := Kept.mk (CA.out.keep hb1 CA.out.1)
  replace CB := Kept.mk (CB.out.keep hb1 CB.out.1)
  replace HZ := Kept.mk (HZ.out.keep hb1 HZ.out.1)
  replace hB := Kept.mk (hB.out.trans (hb1.mono hB.out.size))
  replace hs := Kept.mk (Nat.le_trans hs.out hb1.size)
  clear hb1 hgA
  rewrite [HO2.out]
  obtain ⟨hBK, K4, K5⟩ := vset zeroV (.slice none 0 0) (.slice none 0 0) (g := w.heap.size + 2) (by omega) hB.out HZ.out rfl (.inl ⟨rfl, rfl⟩) (.inl ⟨rfl, rfl⟩) (by intro h; cases h) (by intro h; cases h)
  have NP1 : Kept (zeroV.plus ≠ [] → NewB w.heap.size (.slice none 0 0)) := ⟨fun h => absurd rfl h⟩
  have NM1 : Kept (zeroV.minus ≠ [] → NewB w.heap.size (.slice none 0 0)) := ⟨fun h => absurd rfl h⟩
  obtain ⟨hc', hp', hm'⟩ := K4.out
  clear K4
  go_wp2_with (have hz0 := K5; refine wpList_storeN 25 rfl (.tmp 4) (.tmp 14) rfl (w.heap.size + 2) [.int .i64 0, .int .i64 0, .int .i64 0, .bool false, .string ⟨#[]⟩, .slice none 0 0, .slice none 0 0, .int .u64 0] size_va rfl rfl HZ.out rfl HF.out K5.out ?_; clear hz0 K5)
  exact bodyPost_ret (resultsN2 rfl _ _ (w.heap.size + 2) _ (.int .i64 2) size_va agg_va rfl rfl hc') rfl ⟨_, rfl, ⟨(.slice none 0 0), (.slice none 0 0), rfl, hp', hm', NP1.out, NM1.out⟩, hBK.out⟩
set_option maxRecDepth 20000 in
set_option maxHeartbeats 2000000 in
theorem rjoin_no3 (A B : Va) (v u : Value) (w : World) (hv : isVa A v w) (hu : isVa B u w) (hA : Fit A) (hC : Fit B) (h : okV A = true) (h2 : okV B = true) (h3 : A.kind ≠ B.kind) :
    Calls Tryz.prog 30 #[v, u] w fun e w' => ∃ v', e = .returned (.tuple #[v', .int .i64 3]) ∧ isVaR w.heap.size zeroV v' w' ∧ Below w.heap.size w w' := by
  obtain ⟨vp, vm, rfl, hp, hm⟩ := hv
  obtain ⟨up, um, rfl, gp, gm⟩ := hu
  have hB1 := lit_below w (.cells #[.int .i64 A.kind, .int .i64 A.time, .int .i64 A.node, .bool A.dead, .string ⟨A.text.toArray⟩, vp, vm, .int .u64 (A.flags.toNat : Int)] 25)
  have hB2 := lit_below (w.alloc (.cells #[.int .i64 A.kind, .int .i64 A.time, .int .i64 A.node, .bool A.dead, .string ⟨A.text.toArray⟩, vp, vm, .int .u64 (A.flags.toNat : Int)] 25)) (.cells #[.int .i64 B.kind, .int .i64 B.time, .int .i64 B.node, .bool B.dead, .string ⟨B.text.toArray⟩, up, um, .int .u64 (B.flags.toNat : Int)] 25)
  have hB3 := lit_below ((w.alloc (.cells #[.int .i64 A.kind, .int .i64 A.time, .int .i64 A.node, .bool A.dead, .string ⟨A.text.toArray⟩, vp, vm, .int .u64 (A.flags.toNat : Int)] 25)).alloc (.cells #[.int .i64 B.kind, .int .i64 B.time, .int .i64 B.node, .bool B.dead, .string ⟨B.text.toArray⟩, up, um, .int .u64 (B.flags.toNat : Int)] 25)) (.cells #[.int .i64 0, .int .i64 0, .int .i64 0, .bool false, .string ⟨#[]⟩, .slice none 0 0, .slice none 0 0, .int .u64 0] 25)
  have hB := Kept.mk ((hB1.trans (hB2.mono hB1.size)).trans (hB3.mono (hB1.trans (hB2.mono hB1.size)).size))
  have CA := Kept.mk (((cellsN_at w 25 [.int .i64 A.kind, .int .i64 A.time, .int .i64 A.node, .bool A.dead, .string ⟨A.text.toArray⟩, vp, vm, .int .u64 (A.flags.toNat : Int)] w.heap.size rfl).keep hB2 (by simp)).keep hB3 (by simp <;> omega))
  have CB := Kept.mk ((cellsN_at (w.alloc (.cells #[.int .i64 A.kind, .int .i64 A.time, .int .i64 A.node, .bool A.dead, .string ⟨A.text.toArray⟩, vp, vm, .int .u64 (A.flags.toNat : Int)] 25)) 25 [.int .i64 B.kind, .int .i64 B.time, .int .i64 B.node, .bool B.dead, .string ⟨B.text.toArray⟩, up, um, .int .u64 (B.flags.toNat : Int)] (w.heap.size + 1) (by simp)).keep hB3 (by simp))
  have HZ := Kept.mk (cellsN_at ((w.alloc (.cells #[.int .i64 A.kind, .int .i64 A.time, .int .i64 A.node, .bool A.dead, .string ⟨A.text.toArray⟩, vp, vm, .int .u64 (A.flags.toNat : Int)] 25)).alloc (.cells #[.int .i64 B.kind, .int .i64 B.time, .int .i64 B.node, .bool B.dead, .string ⟨B.text.toArray⟩, up, um, .int .u64 (B.flags.toNat : Int)] 25)) 25 [.int .i64 0, .int .i64 0, .int .i64 0, .bool false, .string ⟨#[]⟩, .slice none 0 0, .slice none 0 0, .int .u64 0] (w.heap.size + 2) (by simp))
  have FA := Kept.mk (((free5_at w #[.int .i64 A.kind, .int .i64 A.time, .int .i64 A.node, .bool A.dead, .string ⟨A.text.toArray⟩, vp, vm, .int .u64 (A.flags.toNat : Int)] 25 w.heap.size rfl).keep hB2 (by simp)).keep hB3 (by simp <;> omega))
  have HF := Kept.mk (free5_at ((w.alloc (.cells #[.int .i64 A.kind, .int .i64 A.time, .int .i64 A.node, .bool A.dead, .string ⟨A.text.toArray⟩, vp, vm, .int .u64 (A.flags.toNat : Int)] 25)).alloc (.cells #[.int .i64 B.kind, .int .i64 B.time, .int .i64 B.node, .bool B.dead, .string ⟨B.text.toArray⟩, up, um, .int .u64 (B.flags.toNat : Int)] 25)) #[.int .i64 0, .int .i64 0, .int .i64 0, .bool false, .string ⟨#[]⟩, .slice none 0 0, .slice none 0 0, .int .u64 0] 25 (w.heap.size + 2) (by simp))
  have hs : Kept ((((w.alloc (.cells #[.int .i64 A.kind, .int .i64 A.time, .int .i64 A.node, .bool A.dead, .string ⟨A.text.toArray⟩, vp, vm, .int .u64 (A.flags.toNat : Int)] 25)).alloc (.cells #[.int .i64 B.kind, .int .i64 B.time, .int .i64 B.node, .bool B.dead, .string ⟨B.text.toArray⟩, up, um, .int .u64 (B.flags.toNat : Int)] 25)).alloc (.cells #[.int .i64 0, .int .i64 0, .int .i64 0, .bool false, .string ⟨#[]⟩, .slice none 0 0, .slice none 0 0, .int .u64 0] 25)).heap.size = w.heap.size + 3) := ⟨by simp⟩
  have HP := Kept.mk hp
  have HM := Kept.mk hm
  have GP := Kept.mk gp
  have GM := Kept.mk gm
  clear hp hm gp gm hB1 hB2 hB3
  have HO := Kept.mk h
  have HO2 := Kept.mk h2
  have d3 : (A.kind == B.kind) = false := by simpa using h3
  clear h h2 h3
  go_enter Tryz.func30, Tryz.ntmps30
  go_wp2_with fail
  generalize ((w.alloc (.cells #[.int .i64 A.kind, .int .i64 A.time, .int .i64 A.node, .bool A.dead, .string ⟨A.text.toArray⟩, vp, vm, .int .u64 (A.flags.toNat : Int)] 25)).alloc (.cells #[.int .i64 B.kind, .int .i64 B.time, .int .i64 B.node, .bool B.dead, .string ⟨B.text.toArray⟩, up, um, .int .u64 (B.flags.toNat : Int)] 25)).alloc (.cells #[.int .i64 0, .int .i64 0, .int .i64 0, .bool false, .string ⟨#[]⟩, .slice none 0 0, .slice none 0 0, .int .u64 0] 25) = W0 at *
  replace hs := Kept.mk (Nat.le_of_eq hs.out.symm)
  ((with_reducible refine (rcheck_any A _ _ (show isVa A (.agg #[.int .i64 A.kind, .int .i64 A.time, .int .i64 A.node, .bool A.dead, .string ⟨A.text.toArray⟩, vp, vm, .int .u64 (A.flags.toNat : Int)]) W0 from va_mk (cells_up HP.out hB.out) (cells_up HM.out hB.out)) hA).mono ?_); rintro e w1 ⟨rfl, hb1⟩)
  have hgA := CA.out.1
  replace FA := Kept.mk (FA.out.keep hb1 (Nat.lt_of_lt_of_le (by show w.heap.size < _; exact hgA) (Nat.le_refl _)))
  replace HF := Kept.mk (HF.out.keep hb1 HZ.out.1)
  replace CA := Kept.mk (CA.out.keep hb1 CA.out.1)
  replace CB := Kept.mk (CB.out.keep hb1 CB.out.1)
  replace HZ := Kept.mk (HZ.out.keep hb1 HZ.out.1)
  replace hB := Kept.mk (hB.out.trans (hb1.mono hB.out.size))
  replace hs := Kept.mk (Nat.le_trans hs.out hb1.size)
  clear hb1 hgA
  rewrite [HO.out]
  have kb0 := CB.out.2 0 _ rfl
  have kb1 := CB.out.2 1 _ rfl
  have kb2 := CB.out.2 2 _ rfl
  have kb3 := CB.out.2 3 _ rfl
  have kb4 := CB.out.2 4 _ rfl
  have kb5 := CB.out.2 5 _ rfl
  have kb6 := CB.out.2 6 _ rfl
  have kb7 := CB.out.2 7 _ rfl
  go_wp2_with fail
  ((with_reducible refine (rcheck_any B _ _ (show isVa B (.agg #[.int .i64 B.kind, .int .i64 B.time, .int .i64 B.node, .bool B.dead, .string ⟨B.text.toArray⟩, up, um, .int .u64 (B.flags.toNat : Int)]) w1 from va_mk (cells_up GP.out hB.out) (cells_up GM.out hB.out)) hC).mono ?_); rintro e w2 ⟨rfl, hb1⟩)
  clear kb0 kb1 kb2 kb3 kb4 kb5 kb6 kb7
  have hgA := CA.out.1
  replace FA := Kept.mk (FA.out.keep hb1 (Nat.lt_of_lt_of_le (by show w.heap.size < _; exact hgA) (Nat.le_refl _)))
  replace HF := Kept.mk (HF.out.keep hb1 HZ.out.1)
  replace CA := Kept.mk (CA.out.keep hb1 CA.out.1)
  replace CB := Kept.mk (CB.out.keep hb1 CB.out.1)
  replace HZ := Kept.mk (HZ.out.keep hb1 HZ.out.1)
  replace hB := Kept.mk (hB.out.trans (hb1.mono hB.out.size))
  replace hs := Kept.mk (Nat.le_trans hs.out hb1.size)
  clear hb1 hgA
  rewrite [HO2.out]
  obtain ⟨hBK, K4, K5⟩ := vset zeroV (.slice none 0 0) (.slice none 0 0) (g := w.heap.size + 2) (by omega) hB.out HZ.out rfl (.inl ⟨rfl, rfl⟩) (.inl ⟨rfl, rfl⟩) (by intro h; cases h) (by intro h; cases h)
  have ka0 := CA.out.2 0 _ rfl
  have kb0 := CB.out.2 0 _ rfl
  have NP1 : Kept (zeroV.plus ≠ [] → NewB w.heap.size (.slice none 0 0)) := ⟨fun h => absurd rfl h⟩
  have NM1 : Kept (zeroV.minus ≠ [] → NewB w.heap.size (.slice none 0 0)) := ⟨fun h => absurd rfl h⟩
  obtain ⟨hc', hp', hm'⟩ := K4.out
  clear K4
  go_wp2_with (have hz0 := K5; refine wpList_storeN 25 rfl (.tmp 4) (.tmp 20) rfl (w.heap.size + 2) [.int .i64 0, .int .i64 0, .int .i64 0, .bool false, .string ⟨#[]⟩, .slice none 0 0, .slice none 0 0, .int .u64 0] size_va rfl rfl HZ.out rfl HF.out K5.out ?_; clear hz0 K5)
  exact bodyPost_ret (resultsN2 rfl _ _ (w.heap.size + 2) _ (.int .i64 3) size_va agg_va rfl rfl hc') rfl ⟨_, rfl, ⟨(.slice none 0 0), (.slice none 0 0), rfl, hp', hm', NP1.out, NM1.out⟩, hBK.out⟩
set_option maxRecDepth 20000 in
set_option maxHeartbeats 2000000 in
theorem rjoin_reg_true (A B : Va) (v u : Value) (w : World) (hv : isVa A v w) (hu : isVa B u w) (hA : Fit A) (hC : Fit B) (h : okV A = true) (h2 : okV B = true) (h3 : A.kind = B.kind) (h4 : A.kind = 1) (h5 : behindB B A = true) (hn1 : B.plus = []) (hn2 : B.minus = []) :
    Calls Tryz.prog 30 #[v, u] w fun e w' => ∃ v', e = .returned (.tuple #[v', .int .i64 0]) ∧ isVaR w.heap.size B v' w' ∧ Below w.heap.size w w' := by
  obtain ⟨vp, vm, rfl, hp, hm⟩ := hv
  obtain ⟨up, um, rfl, gp, gm⟩ := hu
  have hB1 := lit_below w (.cells #[.int .i64 A.kind, .int .i64 A.time, .int .i64 A.node, .bool A.dead, .string ⟨A.text.toArray⟩, vp, vm, .int .u64 (A.flags.toNat : Int)] 25)
  have hB2 := lit_below (w.alloc (.cells #[.int .i64 A.kind, .int .i64 A.time, .int .i64 A.node, .bool A.dead, .string ⟨A.text.toArray⟩, vp, vm, .int .u64 (A.flags.toNat : Int)] 25)) (.cells #[.int .i64 B.kind, .int .i64 B.time, .int .i64 B.node, .bool B.dead, .string ⟨B.text.toArray⟩, up, um, .int .u64 (B.flags.toNat : Int)] 25)
  have hB3 := lit_below ((w.alloc (.cells #[.int .i64 A.kind, .int .i64 A.time, .int .i64 A.node, .bool A.dead, .string ⟨A.text.toArray⟩, vp, vm, .int .u64 (A.flags.toNat : Int)] 25)).alloc (.cells #[.int .i64 B.kind, .int .i64 B.time, .int .i64 B.node, .bool B.dead, .string ⟨B.text.toArray⟩, up, um, .int .u64 (B.flags.toNat : Int)] 25)) (.cells #[.int .i64 0, .int .i64 0, .int .i64 0, .bool false, .string ⟨#[]⟩, .slice none 0 0, .slice none 0 0, .int .u64 0] 25)
  have hB := Kept.mk ((hB1.trans (hB2.mono hB1.size)).trans (hB3.mono (hB1.trans (hB2.mono hB1.size)).size))
  have CA := Kept.mk (((cellsN_at w 25 [.int .i64 A.kind, .int .i64 A.time, .int .i64 A.node, .bool A.dead, .string ⟨A.text.toArray⟩, vp, vm, .int .u64 (A.flags.toNat : Int)] w.heap.size rfl).keep hB2 (by simp)).keep hB3 (by simp <;> omega))
  have CB := Kept.mk ((cellsN_at (w.alloc (.cells #[.int .i64 A.kind, .int .i64 A.time, .int .i64 A.node, .bool A.dead, .string ⟨A.text.toArray⟩, vp, vm, .int .u64 (A.flags.toNat : Int)] 25)) 25 [.int .i64 B.kind, .int .i64 B.time, .int .i64 B.node, .bool B.dead, .string ⟨B.text.toArray⟩, up, um, .int .u64 (B.flags.toNat : Int)] (w.heap.size + 1) (by simp)).keep hB3 (by simp))
  have HZ := Kept.mk (cellsN_at ((w.alloc (.cells #[.int .i64 A.kind, .int .i64 A.time, .int .i64 A.node, .bool A.dead, .string ⟨A.text.toArray⟩, vp, vm, .int .u64 (A.flags.toNat : Int)] 25)).alloc (.cells #[.int .i64 B.kind, .int .i64 B.time, .int .i64 B.node, .bool B.dead, .string ⟨B.text.toArray⟩, up, um, .int .u64 (B.flags.toNat : Int)] 25)) 25 [.int .i64 0, .int .i64 0, .int .i64 0, .bool false, .string ⟨#[]⟩, .slice none 0 0, .slice none 0 0, .int .u64 0] (w.heap.size + 2) (by simp))
  have FA := Kept.mk (((free5_at w #[.int .i64 A.kind, .int .i64 A.time, .int .i64 A.node, .bool A.dead, .string ⟨A.text.toArray⟩, vp, vm, .int .u64 (A.flags.toNat : Int)] 25 w.heap.size rfl).keep hB2 (by simp)).keep hB3 (by simp <;> omega))
  have HF := Kept.mk (free5_at ((w.alloc (.cells #[.int .i64 A.kind, .int .i64 A.time, .int .i64 A.node, .bool A.dead, .string ⟨A.text.toArray⟩, vp, vm, .int .u64 (A.flags.toNat : Int)] 25)).alloc (.cells #[.int .i64 B.kind, .int .i64 B.time, .int .i64 B.node, .bool B.dead, .string ⟨B.text.toArray⟩, up, um, .int .u64 (B.flags.toNat : Int)] 25)) #[.int .i64 0, .int .i64 0, .int .i64 0, .bool false, .string ⟨#[]⟩, .slice none 0 0, .slice none 0 0, .int .u64 0] 25 (w.heap.size + 2) (by simp))
  have hs : Kept ((((w.alloc (.cells #[.int .i64 A.kind, .int .i64 A.time, .int .i64 A.node, .bool A.dead, .string ⟨A.text.toArray⟩, vp, vm, .int .u64 (A.flags.toNat : Int)] 25)).alloc (.cells #[.int .i64 B.kind, .int .i64 B.time, .int .i64 B.node, .bool B.dead, .string ⟨B.text.toArray⟩, up, um, .int .u64 (B.flags.toNat : Int)] 25)).alloc (.cells #[.int .i64 0, .int .i64 0, .int .i64 0, .bool false, .string ⟨#[]⟩, .slice none 0 0, .slice none 0 0, .int .u64 0] 25)).heap.size = w.heap.size + 3) := ⟨by simp⟩
  have HP := Kept.mk hp
  have HM := Kept.mk hm
  have GP := Kept.mk gp
  have GM := Kept.mk gm
  clear hp hm gp gm hB1 hB2 hB3
  have HO := Kept.mk h
  have HO2 := Kept.mk h2
  have HBH := Kept.mk h5
  have d3 : (A.kind == B.kind) = true := by simpa using h3
  have d4 : (A.kind == 1) = true := by simpa using h4
  clear h h2 h3 h4 h5
  go_enter Tryz.func30, Tryz.ntmps30
  go_wp2_with fail
  generalize ((w.alloc (.cells #[.int .i64 A.kind, .int .i64 A.time, .int .i64 A.node, .bool A.dead, .string ⟨A.text.toArray⟩, vp, vm, .int .u64 (A.flags.toNat : Int)] 25)).alloc (.cells #[.int .i64 B.kind, .int .i64 B.time, .int .i64 B.node, .bool B.dead, .string ⟨B.text.toArray⟩, up, um, .int .u64 (B.flags.toNat : Int)] 25)).alloc (.cells #[.int .i64 0, .int .i64 0, .int .i64 0, .bool false, .string ⟨#[]⟩, .slice none 0 0, .slice none 0 0, .int .u64 0] 25) = W0 at *
  replace hs := Kept.mk (Nat.le_of_eq hs.out.symm)
  ((with_reducible refine (rcheck_any A _ _ (show isVa A (.agg #[.int .i64 A.kind, .int .i64 A.time, .int .i64 A.node, .bool A.dead, .string ⟨A.text.toArray⟩, vp, vm, .int .u64 (A.flags.toNat : Int)]) W0 from va_mk (cells_up HP.out hB.out) (cells_up HM.out hB.out)) hA).mono ?_); rintro e w1 ⟨rfl, hb1⟩)
  have hgA := CA.out.1
  replace FA := Kept.mk (FA.out.keep hb1 (Nat.lt_of_lt_of_le (by show w.heap.size < _; exact hgA) (Nat.le_refl _)))
  replace HF := Kept.mk (HF.out.keep hb1 HZ.out.1)
  replace CA := Kept.mk (CA.out.keep hb1 CA.out.1)
  replace CB := Kept.mk (CB.out.keep hb1 CB.out.1)
  replace HZ := Kept.mk (HZ.out.keep hb1 HZ.out.1)
  replace hB := Kept.mk (hB.out.trans (hb1.mono hB.out.size))
  replace hs := Kept.mk (Nat.le_trans hs.out hb1.size)
  clear hb1 hgA
  rewrite [HO.out]
  have kb0 := CB.out.2 0 _ rfl
  have kb1 := CB.out.2 1 _ rfl
  have kb2 := CB.out.2 2 _ rfl
  have kb3 := CB.out.2 3 _ rfl
  have kb4 := CB.out.2 4 _ rfl
  have kb5 := CB.out.2 5 _ rfl
  have kb6 := CB.out.2 6 _ rfl
  have kb7 := CB.out.2 7 _ rfl
  go_wp2_with fail
  ((with_reducible refine (rcheck_any B _ _ (show isVa B (.agg #[.int .i64 B.kind, .int .i64 B.time, .int .i64 B.node, .bool B.dead, .string ⟨B.text.toArray⟩, up, um, .int .u64 (B.flags.toNat : Int)]) w1 from va_mk (cells_up GP.out hB.out) (cells_up GM.out hB.out)) hC).mono ?_); rintro e w2 ⟨rfl, hb1⟩)
  clear kb0 kb1 kb2 kb3 kb4 kb5 kb6 kb7
  have hgA := CA.out.1
  replace FA := Kept.mk (FA.out.keep hb1 (Nat.lt_of_lt_of_le (by show w.heap.size < _; exact hgA) (Nat.le_refl _)))
  replace HF := Kept.mk (HF.out.keep hb1 HZ.out.1)
  replace CA := Kept.mk (CA.out.keep hb1 CA.out.1)
  replace CB := Kept.mk (CB.out.keep hb1 CB.out.1)
  replace HZ := Kept.mk (HZ.out.keep hb1 HZ.out.1)
  replace hB := Kept.mk (hB.out.trans (hb1.mono hB.out.size))
  replace hs := Kept.mk (Nat.le_trans hs.out hb1.size)
  clear hb1 hgA
  rewrite [HO2.out]
  have ka0 := CA.out.2 0 _ rfl
  have ka1 := CA.out.2 1 _ rfl
  have ka2 := CA.out.2 2 _ rfl
  have ka3 := CA.out.2 3 _ rfl
  have ka4 := CA.out.2 4 _ rfl
  have ka5 := CA.out.2 5 _ rfl
  have ka6 := CA.out.2 6 _ rfl
  have ka7 := CA.out.2 7 _ rfl
  have kb0 := CB.out.2 0 _ rfl
  have kb1 := CB.out.2 1 _ rfl
  have kb2 := CB.out.2 2 _ rfl
  have kb3 := CB.out.2 3 _ rfl
  have kb4 := CB.out.2 4 _ rfl
  have kb5 := CB.out.2 5 _ rfl
  have kb6 := CB.out.2 6 _ rfl
  have kb7 := CB.out.2 7 _ rfl
  go_wp2_with fail
  ((with_reducible refine (rbehind_any B A _ _ _ (show isVa B (.agg #[.int .i64 B.kind, .int .i64 B.time, .int .i64 B.node, .bool B.dead, .string ⟨B.text.toArray⟩, up, um, .int .u64 (B.flags.toNat : Int)]) w2 from va_mk (cells_up GP.out hB.out) (cells_up GM.out hB.out)) (show isVa A (.agg #[.int .i64 A.kind, .int .i64 A.time, .int .i64 A.node, .bool A.dead, .string ⟨A.text.toArray⟩, vp, vm, .int .u64 (A.flags.toNat : Int)]) w2 from va_mk (cells_up HP.out hB.out) (cells_up HM.out hB.out))).mono ?_); rintro e w3 ⟨rfl, hb1⟩)
  clear ka0 ka1 ka2 ka3 ka4 ka5 ka6 ka7 kb0 kb1 kb2 kb3 kb4 kb5 kb6 kb7
  have hgA := CA.out.1
  replace FA := Kept.mk (FA.out.keep hb1 (Nat.lt_of_lt_of_le (by show w.heap.size < _; exact hgA) (Nat.le_refl _)))
  replace HF := Kept.mk (HF.out.keep hb1 HZ.out.1)
  replace CA := Kept.mk (CA.out.keep hb1 CA.out.1)
  replace CB := Kept.mk (CB.out.keep hb1 CB.out.1)
  replace HZ := Kept.mk (HZ.out.keep hb1 HZ.out.1)
  replace hB := Kept.mk (hB.out.trans (hb1.mono hB.out.size))
  replace hs := Kept.mk (Nat.le_trans hs.out hb1.size)
  clear hb1 hgA
  rewrite [HBH.out]
  obtain ⟨hBK, K4, K5⟩ := vset2 B up um (g := w.heap.size + 2) (by omega) hB.out HZ.out rfl (stable_cells _ _ _ _ GP.out hB.out) (stable_cells _ _ _ _ GM.out hB.out) (fun e => absurd hn1 e) (fun e => absurd hn2 e)
  have kb0 := CB.out.2 0 _ rfl
  have kb1 := CB.out.2 1 _ rfl
  have kb2 := CB.out.2 2 _ rfl
  have kb3 := CB.out.2 3 _ rfl
  have kb4 := CB.out.2 4 _ rfl
  have kb5 := CB.out.2 5 _ rfl
  have kb6 := CB.out.2 6 _ rfl
  have kb7 := CB.out.2 7 _ rfl
  have NP1 : Kept (B.plus ≠ [] → NewB w.heap.size up) := ⟨fun h => absurd hn1 h⟩
  have NM1 : Kept (B.minus ≠ [] → NewB w.heap.size um) := ⟨fun h => absurd hn2 h⟩
  obtain ⟨hc', hp', hm'⟩ := K4.out
  clear K4
  go_wp2_with (have hz0 := K5; refine wpList_storeN 25 rfl (.tmp 4) (.tmp 27) rfl (w.heap.size + 2) [.int .i64 B.kind, .int .i64 B.time, .int .i64 B.node, .bool B.dead, .string ⟨B.text.toArray⟩, up, um, .int .u64 (B.flags.toNat : Int)] size_va rfl rfl HZ.out rfl HF.out K5.out ?_; clear hz0 K5)
  exact bodyPost_ret (resultsN2 rfl _ _ (w.heap.size + 2) _ (.int .i64 0) size_va agg_va rfl rfl hc') rfl ⟨_, rfl, ⟨up, um, rfl, hp', hm', NP1.out, NM1.out⟩, hBK.out⟩
set_option maxRecDepth 20000 in
set_option maxHeartbeats 2000000 in
theorem rjoin_reg_false (A B : Va) (v u : Value) (w : World) (hv : isVa A v w) (hu : isVa B u w) (hA : Fit A) (hC : Fit B) (h : okV A = true) (h2 : okV B = true) (h3 : A.kind = B.kind) (h4 : A.kind = 1) (h5 : behindB B A = false) (hn1 : A.plus = []) (hn2 : A.minus = []) :
    Calls Tryz.prog 30 #[v, u] w fun e w' => ∃ v', e = .returned (.tuple #[v', .int .i64 0]) ∧ isVaR w.heap.size A v' w' ∧ Below w.heap.size w w' := by
  obtain ⟨vp, vm, rfl, hp, hm⟩ := hv
  obtain ⟨up, um, rfl, gp, gm⟩ := hu
  have hB1 := lit_below w (.cells #[.int .i64 A.kind, .int .i64 A.time, .int .i64 A.node, .bool A.dead, .string ⟨A.text.toArray⟩, vp, vm, .int .u64 (A.flags.toNat : Int)] 25)
  have hB2 := lit_below (w.alloc (.cells #[.int .i64 A.kind, .int .i64 A.time, .int .i64 A.node, .bool A.dead, .string ⟨A.text.toArray⟩, vp, vm, .int .u64 (A.flags.toNat : Int)] 25)) (.cells #[.int .i64 B.kind, .int .i64 B.time, .int .i64 B.node, .bool B.dead, .string ⟨B.text.toArray⟩, up, um, .int .u64 (B.flags.toNat : Int)] 25)
  have hB3 := lit_below ((w.alloc (.cells #[.int .i64 A.kind, .int .i64 A.time, .int .i64 A.node, .bool A.dead, .string ⟨A.text.toArray⟩, vp, vm, .int .u64 (A.flags.toNat : Int)] 25)).alloc (.cells #[.int .i64 B.kind, .int .i64 B.time, .int .i64 B.node, .bool B.dead, .string ⟨B.text.toArray⟩, up, um, .int .u64 (B.flags.toNat : Int)] 25)) (.cells #[.int .i64 0, .int .i64 0, .int .i64 0, .bool false, .string ⟨#[]⟩, .slice none 0 0, .slice none 0 0, .int .u64 0] 25)
  have hB := Kept.mk ((hB1.trans (hB2.mono hB1.size)).trans (hB3.mono (hB1.trans (hB2.mono hB1.size)).size))
  have CA := Kept.mk (((cellsN_at w 25 [.int .i64 A.kind, .int .i64 A.time, .int .i64 A.node, .bool A.dead, .string ⟨A.text.toArray⟩, vp, vm, .int .u64 (A.flags.toNat : Int)] w.heap.size rfl).keep hB2 (by simp)).keep hB3 (by simp <;> omega))
  have CB := Kept.mk ((cellsN_at (w.alloc (.cells #[.int .i64 A.kind, .int .i64 A.time, .int .i64 A.node, .bool A.dead, .string ⟨A.text.toArray⟩, vp, vm, .int .u64 (A.flags.toNat : Int)] 25)) 25 [.int .i64 B.kind, .int .i64 B.time, .int .i64 B.node, .bool B.dead, .string ⟨B.text.toArray⟩, up, um, .int .u64 (B.flags.toNat : Int)] (w.heap.size + 1) (by simp)).keep hB3 (by simp))
  have HZ := Kept.mk (cellsN_at ((w.alloc (.cells #[.int .i64 A.kind, .int .i64 A.time, .int .i64 A.node, .bool A.dead, .string ⟨A.text.toArray⟩, vp, vm, .int .u64 (A.flags.toNat : Int)] 25)).alloc (.cells #[.int .i64 B.kind, .int .i64 B.time, .int .i64 B.node, .bool B.dead, .string ⟨B.text.toArray⟩, up, um, .int .u64 (B.flags.toNat : Int)] 25)) 25 [.int .i64 0, .int .i64 0, .int .i64 0, .bool false, .string ⟨#[]⟩, .slice none 0 0, .slice none 0 0, .int .u64 0] (w.heap.size + 2) (by simp))
  have FA := Kept.mk (((free5_at w #[.int .i64 A.kind, .int .i64 A.time, .int .i64 A.node, .bool A.dead, .string ⟨A.text.toArray⟩, vp, vm, .int .u64 (A.flags.toNat : Int)] 25 w.heap.size rfl).keep hB2 (by simp)).keep hB3 (by simp <;> omega))
  have HF := Kept.mk (free5_at ((w.alloc (.cells #[.int .i64 A.kind, .int .i64 A.time, .int .i64 A.node, .bool A.dead, .string ⟨A.text.toArray⟩, vp, vm, .int .u64 (A.flags.toNat : Int)] 25)).alloc (.cells #[.int .i64 B.kind, .int .i64 B.time, .int .i64 B.node, .bool B.dead, .string ⟨B.text.toArray⟩, up, um, .int .u64 (B.flags.toNat : Int)] 25)) #[.int .i64 0, .int .i64 0, .int .i64 0, .bool false, .string ⟨#[]⟩, .slice none 0 0, .slice none 0 0, .int .u64 0] 25 (w.heap.size + 2) (by simp))
  have hs : Kept ((((w.alloc (.cells #[.int .i64 A.kind, .int .i64 A.time, .int .i64 A.node, .bool A.dead, .string ⟨A.text.toArray⟩, vp, vm, .int .u64 (A.flags.toNat : Int)] 25)).alloc (.cells #[.int .i64 B.kind, .int .i64 B.time, .int .i64 B.node, .bool B.dead, .string ⟨B.text.toArray⟩, up, um, .int .u64 (B.flags.toNat : Int)] 25)).alloc (.cells #[.int .i64 0, .int .i64 0, .int .i64 0, .bool false, .string ⟨#[]⟩, .slice none 0 0, .slice none 0 0, .int .u64 0] 25)).heap.size = w.heap.size + 3) := ⟨by simp⟩
  have HP := Kept.mk hp
  have HM := Kept.mk hm
  have GP := Kept.mk gp
  have GM := Kept.mk gm
  clear hp hm gp gm hB1 hB2 hB3
  have HO := Kept.mk h
  have HO2 := Kept.mk h2
  have HBH := Kept.mk h5
  have d3 : (A.kind == B.kind) = true := by simpa using h3
  have d4 : (A.kind == 1) = true := by simpa using h4
  clear h h2 h3 h4 h5
  go_enter Tryz.func30, Tryz.ntmps30
  go_wp2_with fail
  generalize ((w.alloc (.cells #[.int .i64 A.kind, .int .i64 A.time, .int .i64 A.node, .bool A.dead, .string ⟨A.text.toArray⟩, vp, vm, .int .u64 (A.flags.toNat : Int)] 25)).alloc (.cells #[.int .i64 B.kind, .int .i64 B.time, .int .i64 B.node, .bool B.dead, .string ⟨B.text.toArray⟩, up, um, .int .u64 (B.flags.toNat : Int)] 25)).alloc (.cells #[.int .i64 0, .int .i64 0, .int .i64 0, .bool false, .string ⟨#[]⟩, .slice none 0 0, .slice none 0 0, .int .u64 0] 25) = W0 at *
  replace hs := Kept.mk (Nat.le_of_eq hs.out.symm)
  ((with_reducible refine (rcheck_any A _ _ (show isVa A (.agg #[.int .i64 A.kind, .int .i64 A.time, .int .i64 A.node, .bool A.dead, .string ⟨A.text.toArray⟩, vp, vm, .int .u64 (A.flags.toNat : Int)]) W0 from va_mk (cells_up HP.out hB.out) (cells_up HM.out hB.out)) hA).mono ?_); rintro e w1 ⟨rfl, hb1⟩)
  have hgA := CA.out.1
  replace FA := Kept.mk (FA.out.keep hb1 (Nat.lt_of_lt_of_le (by show w.heap.size < _; exact hgA) (Nat.le_refl _)))
  replace HF := Kept.mk (HF.out.keep hb1 HZ.out.1)
  replace CA := Kept.mk (CA.out.keep hb1 CA.out.1)
  replace CB := Kept.mk (CB.out.keep hb1 CB.out.1)
  replace HZ := Kept.mk (HZ.out.keep hb1 HZ.out.1)
  replace hB := Kept.mk (hB.out.trans (hb1.mono hB.out.size))
  replace hs := Kept.mk (Nat.le_trans hs.out hb1.size)
  clear hb1 hgA
  rewrite [HO.out]
  have kb0 := CB.out.2 0 _ rfl
  have kb1 := CB.out.2 1 _ rfl
  have kb2 := CB.out.2 2 _ rfl
  have kb3 := CB.out.2 3 _ rfl
  have kb4 := CB.out.2 4 _ rfl
  have kb5 := CB.out.2 5 _ rfl
  have kb6 := CB.out.2 6 _ rfl
  have kb7 := CB.out.2 7 _ rfl
  go_wp2_with fail
  ((with_reducible refine (rcheck_any B _ _ (show isVa B (.agg #[.int .i64 B.kind, .int .i64 B.time, .int .i64 B.node, .bool B.dead, .string ⟨B.text.toArray⟩, up, um, .int .u64 (B.flags.toNat : Int)]) w1 from va_mk (cells_up GP.out hB.out) (cells_up GM.out hB.out)) hC).mono ?_); rintro e w2 ⟨rfl, hb1⟩)
  clear kb0 kb1 kb2 kb3 kb4 kb5 kb6 kb7
  have hgA := CA.out.1
  replace FA := Kept.mk (FA.out.keep hb1 (Nat.lt_of_lt_of_le (by show w.heap.size < _; exact hgA) (Nat.le_refl _)))
  replace HF := Kept.mk (HF.out.keep hb1 HZ.out.1)
  replace CA := Kept.mk (CA.out.keep hb1 CA.out.1)
  replace CB := Kept.mk (CB.out.keep hb1 CB.out.1)
  replace HZ := Kept.mk (HZ.out.keep hb1 HZ.out.1)
  replace hB := Kept.mk (hB.out.trans (hb1.mono hB.out.size))
  replace hs := Kept.mk (Nat.le_trans hs.out hb1.size)
  clear hb1 hgA
  rewrite [HO2.out]
  have ka0 := CA.out.2 0 _ rfl
  have ka1 := CA.out.2 1 _ rfl
  have ka2 := CA.out.2 2 _ rfl
  have ka3 := CA.out.2 3 _ rfl
  have ka4 := CA.out.2 4 _ rfl
  have ka5 := CA.out.2 5 _ rfl
  have ka6 := CA.out.2 6 _ rfl
  have ka7 := CA.out.2 7 _ rfl
  have kb0 := CB.out.2 0 _ rfl
  have kb1 := CB.out.2 1 _ rfl
  have kb2 := CB.out.2 2 _ rfl
  have kb3 := CB.out.2 3 _ rfl
  have kb4 := CB.out.2 4 _ rfl
  have kb5 := CB.out.2 5 _ rfl
  have kb6 := CB.out.2 6 _ rfl
  have kb7 := CB.out.2 7 _ rfl
  go_wp2_with fail
  ((with_reducible refine (rbehind_any B A _ _ _ (show isVa B (.agg #[.int .i64 B.kind, .int .i64 B.time, .int .i64 B.node, .bool B.dead, .string ⟨B.text.toArray⟩, up, um, .int .u64 (B.flags.toNat : Int)]) w2 from va_mk (cells_up GP.out hB.out) (cells_up GM.out hB.out)) (show isVa A (.agg #[.int .i64 A.kind, .int .i64 A.time, .int .i64 A.node, .bool A.dead, .string ⟨A.text.toArray⟩, vp, vm, .int .u64 (A.flags.toNat : Int)]) w2 from va_mk (cells_up HP.out hB.out) (cells_up HM.out hB.out))).mono ?_); rintro e w3 ⟨rfl, hb1⟩)
  clear ka0 ka1 ka2 ka3 ka4 ka5 ka6 ka7 kb0 kb1 kb2 kb3 kb4 kb5 kb6 kb7
  have hgA := CA.out.1
  replace FA := Kept.mk (FA.out.keep hb1 (Nat.lt_of_lt_of_le (by show w.heap.size < _; exact hgA) (Nat.le_refl _)))
  replace HF := Kept.mk (HF.out.keep hb1 HZ.out.1)
  replace CA := Kept.mk (CA.out.keep hb1 CA.out.1)
  replace CB := Kept.mk (CB.out.keep hb1 CB.out.1)
  replace HZ := Kept.mk (HZ.out.keep hb1 HZ.out.1)
  replace hB := Kept.mk (hB.out.trans (hb1.mono hB.out.size))
  replace hs := Kept.mk (Nat.le_trans hs.out hb1.size)
  clear hb1 hgA
  rewrite [HBH.out]
  obtain ⟨hBK, K4, K5⟩ := vset2 A vp vm (g := w.heap.size + 2) (by omega) hB.out HZ.out rfl (stable_cells _ _ _ _ HP.out hB.out) (stable_cells _ _ _ _ HM.out hB.out) (fun e => absurd hn1 e) (fun e => absurd hn2 e)
  have ka0 := CA.out.2 0 _ rfl
  have ka1 := CA.out.2 1 _ rfl
  have ka2 := CA.out.2 2 _ rfl
  have ka3 := CA.out.2 3 _ rfl
  have ka4 := CA.out.2 4 _ rfl
  have ka5 := CA.out.2 5 _ rfl
  have ka6 := CA.out.2 6 _ rfl
  have ka7 := CA.out.2 7 _ rfl
  have NP1 : Kept (A.plus ≠ [] → NewB w.heap.size vp) := ⟨fun h => absurd hn1 h⟩
  have NM1 : Kept (A.minus ≠ [] → NewB w.heap.size vm) := ⟨fun h => absurd hn2 h⟩
  obtain ⟨hc', hp', hm'⟩ := K4.out
  clear K4
  go_wp2_with (have hz0 := K5; refine wpList_storeN 25 rfl (.tmp 4) (.tmp 28) rfl (w.heap.size + 2) [.int .i64 A.kind, .int .i64 A.time, .int .i64 A.node, .bool A.dead, .string ⟨A.text.toArray⟩, vp, vm, .int .u64 (A.flags.toNat : Int)] size_va rfl rfl HZ.out rfl HF.out K5.out ?_; clear hz0 K5)
  exact bodyPost_ret (resultsN2 rfl _ _ (w.heap.size + 2) _ (.int .i64 0) size_va agg_va rfl rfl hc') rfl ⟨_, rfl, ⟨vp, vm, rfl, hp', hm', NP1.out, NM1.out⟩, hBK.out⟩
set_option maxRecDepth 20000 in
set_option maxHeartbeats 2000000 in
theorem rjoin_rest (A B : Va) (v u : Value) (w : World) (hv : isVa A v w) (hu : isVa B u w) (hA : Fit A) (hC : Fit B) (h : okV A = true) (h2 : okV B = true) (h3 : A.kind = B.kind) (h4 : A.kind ≠ 1) (l1 : A.plus.length = B.plus.length) (l2 : A.minus.length = B.minus.length) :
    Calls Tryz.prog 30 #[v, u] w fun e w' => ∃ v', e = .returned (.tuple #[v', .int .i64 0]) ∧ isVaR w.heap.size (mergeV A B) v' w' ∧ Below w.heap.size w w' := by
  obtain ⟨vp, vm, rfl, hp, hm⟩ := hv
  obtain ⟨up, um, rfl, gp, gm⟩ := hu
  have hB1 := lit_below w (.cells #[.int .i64 A.kind, .int .i64 A.time, .int .i64 A.node, .bool A.dead, .string ⟨A.text.toArray⟩, vp, vm, .int .u64 (A.flags.toNat : Int)] 25)
  have hB2 := lit_below (w.alloc (.cells #[.int .i64 A.kind, .int .i64 A.time, .int .i64 A.node, .bool A.dead, .string ⟨A.text.toArray⟩, vp, vm, .int .u64 (A.flags.toNat : Int)] 25)) (.cells #[.int .i64 B.kind, .int .i64 B.time, .int .i64 B.node, .bool B.dead, .string ⟨B.text.toArray⟩, up, um, .int .u64 (B.flags.toNat : Int)] 25)
  have hB3 := lit_below ((w.alloc (.cells #[.int .i64 A.kind, .int .i64 A.time, .int .i64 A.node, .bool A.dead, .string ⟨A.text.toArray⟩, vp, vm, .int .u64 (A.flags.toNat : Int)] 25)).alloc (.cells #[.int .i64 B.kind, .int .i64 B.time, .int .i64 B.node, .bool B.dead, .string ⟨B.text.toArray⟩, up, um, .int .u64 (B.flags.toNat : Int)] 25)) (.cells #[.int .i64 0, .int .i64 0, .int .i64 0, .bool false, .string ⟨#[]⟩, .slice none 0 0, .slice none 0 0, .int .u64 0] 25)
  have hB := Kept.mk ((hB1.trans (hB2.mono hB1.size)).trans (hB3.mono (hB1.trans (hB2.mono hB1.size)).size))
  have CA := Kept.mk (((cellsN_at w 25 [.int .i64 A.kind, .int .i64 A.time, .int .i64 A.node, .bool A.dead, .string ⟨A.text.toArray⟩, vp, vm, .int .u64 (A.flags.toNat : Int)] w.heap.size rfl).keep hB2 (by simp)).keep hB3 (by simp <;> omega))
  have CB := Kept.mk ((cellsN_at (w.alloc (.cells #[.int .i64 A.kind, .int .i64 A.time, .int .i64 A.node, .bool A.dead, .string ⟨A.text.toArray⟩, vp, vm, .int .u64 (A.flags.toNat : Int)] 25)) 25 [.int .i64 B.kind, .int .i64 B.time, .int .i64 B.node, .bool B.dead, .string ⟨B.text.toArray⟩, up, um, .int .u64 (B.flags.toNat : Int)] (w.heap.size + 1) (by simp)).keep hB3 (by simp))
  have HZ := Kept.mk (cellsN_at ((w.alloc (.cells #[.int .i64 A.kind, .int .i64 A.time, .int .i64 A.node, .bool A.dead, .string ⟨A.text.toArray⟩, vp, vm, .int .u64 (A.flags.toNat : Int)] 25)).alloc (.cells #[.int .i64 B.kind, .int .i64 B.time, .int .i64 B.node, .bool B.dead, .string ⟨B.text.toArray⟩, up, um, .int .u64 (B.flags.toNat : Int)] 25)) 25 [.int .i64 0, .int .i64 0, .int .i64 0, .bool false, .string ⟨#[]⟩, .slice none 0 0, .slice none 0 0, .int .u64 0] (w.heap.size + 2) (by simp))
  have FA := Kept.mk (((free5_at w #[.int .i64 A.kind, .int .i64 A.time, .int .i64 A.node, .bool A.dead, .string ⟨A.text.toArray⟩, vp, vm, .int .u64 (A.flags.toNat : Int)] 25 w.heap.size rfl).keep hB2 (by simp)).keep hB3 (by simp <;> omega))
  have HF := Kept.mk (free5_at ((w.alloc (.cells #[.int .i64 A.kind, .int .i64 A.time, .int .i64 A.node, .bool A.dead, .string ⟨A.text.toArray⟩, vp, vm, .int .u64 (A.flags.toNat : Int)] 25)).alloc (.cells #[.int .i64 B.kind, .int .i64 B.time, .int .i64 B.node, .bool B.dead, .string ⟨B.text.toArray⟩, up, um, .int .u64 (B.flags.toNat : Int)] 25)) #[.int .i64 0, .int .i64 0, .int .i64 0, .bool false, .string ⟨#[]⟩, .slice none 0 0, .slice none 0 0, .int .u64 0] 25 (w.heap.size + 2) (by simp))
  have hs : Kept ((((w.alloc (.cells #[.int .i64 A.kind, .int .i64 A.time, .int .i64 A.node, .bool A.dead, .string ⟨A.text.toArray⟩, vp, vm, .int .u64 (A.flags.toNat : Int)] 25)).alloc (.cells #[.int .i64 B.kind, .int .i64 B.time, .int .i64 B.node, .bool B.dead, .string ⟨B.text.toArray⟩, up, um, .int .u64 (B.flags.toNat : Int)] 25)).alloc (.cells #[.int .i64 0, .int .i64 0, .int .i64 0, .bool false, .string ⟨#[]⟩, .slice none 0 0, .slice none 0 0, .int .u64 0] 25)).heap.size = w.heap.size + 3) := ⟨by simp⟩
  have HP := Kept.mk hp
  have HM := Kept.mk hm
  have GP := Kept.mk gp
  have GM := Kept.mk gm
  clear hp hm gp gm hB1 hB2 hB3
  have HO := Kept.mk h
  have HO2 := Kept.mk h2
  have d3 : (A.kind == B.kind) = true := by simpa using h3
  have d4 : (A.kind == 1) = false := by simpa using h4
  clear h h2 h3 h4
  go_enter Tryz.func30, Tryz.ntmps30
  go_wp2_with fail
  generalize ((w.alloc (.cells #[.int .i64 A.kind, .int .i64 A.time, .int .i64 A.node, .bool A.dead, .string ⟨A.text.toArray⟩, vp, vm, .int .u64 (A.flags.toNat : Int)] 25)).alloc (.cells #[.int .i64 B.kind, .int .i64 B.time, .int .i64 B.node, .bool B.dead, .string ⟨B.text.toArray⟩, up, um, .int .u64 (B.flags.toNat : Int)] 25)).alloc (.cells #[.int .i64 0, .int .i64 0, .int .i64 0, .bool false, .string ⟨#[]⟩, .slice none 0 0, .slice none 0 0, .int .u64 0] 25) = W0 at *
  replace hs := Kept.mk (Nat.le_of_eq hs.out.symm)
  ((with_reducible refine (rcheck_any A _ _ (show isVa A (.agg #[.int .i64 A.kind, .int .i64 A.time, .int .i64 A.node, .bool A.dead, .string ⟨A.text.toArray⟩, vp, vm, .int .u64 (A.flags.toNat : Int)]) W0 from va_mk (cells_up HP.out hB.out) (cells_up HM.out hB.out)) hA).mono ?_); rintro e w1 ⟨rfl, hb1⟩)
  have hgA := CA.out.1
  replace FA := Kept.mk (FA.out.keep hb1 (Nat.lt_of_lt_of_le (by show w.heap.size < _; exact hgA) (Nat.le_refl _)))
  replace HF := Kept.mk (HF.out.keep hb1 HZ.out.1)
  replace CA := Kept.mk (CA.out.keep hb1 CA.out.1)
  replace CB := Kept.mk (CB.out.keep hb1 CB.out.1)
  replace HZ := Kept.mk (HZ.out.keep hb1 HZ.out.1)
  replace hB := Kept.mk (hB.out.trans (hb1.mono hB.out.size))
  replace hs := Kept.mk (Nat.le_trans hs.out hb1.size)
  clear hb1 hgA
  rewrite [HO.out]
  have kb0 := CB.out.2 0 _ rfl
  have kb1 := CB.out.2 1 _ rfl
  have kb2 := CB.out.2 2 _ rfl
  have kb3 := CB.out.2 3 _ rfl
  have kb4 := CB.out.2 4 _ rfl
  have kb5 := CB.out.2 5 _ rfl
  have kb6 := CB.out.2 6 _ rfl
  have kb7 := CB.out.2 7 _ rfl
  go_wp2_with fail
  ((with_reducible refine (rcheck_any B _ _ (show isVa B (.agg #[.int .i64 B.kind, .int .i64 B.time, .int .i64 B.node, .bool B.dead, .string ⟨B.text.toArray⟩, up, um, .int .u64 (B.flags.toNat : Int)]) w1 from va_mk (cells_up GP.out hB.out) (cells_up GM.out hB.out)) hC).mono ?_); rintro e w2 ⟨rfl, hb1⟩)
  clear kb0 kb1 kb2 kb3 kb4 kb5 kb6 kb7
  have hgA := CA.out.1
  replace FA := Kept.mk (FA.out.keep hb1 (Nat.lt_of_lt_of_le (by show w.heap.size < _; exact hgA) (Nat.le_refl _)))
  replace HF := Kept.mk (HF.out.keep hb1 HZ.out.1)
  replace CA := Kept.mk (CA.out.keep hb1 CA.out.1)
  replace CB := Kept.mk (CB.out.keep hb1 CB.out.1)
  replace HZ := Kept.mk (HZ.out.keep hb1 HZ.out.1)
  replace hB := Kept.mk (hB.out.trans (hb1.mono hB.out.size))
  replace hs := Kept.mk (Nat.le_trans hs.out hb1.size)
  clear hb1 hgA
  rewrite [HO2.out]
  have ka0 := CA.out.2 0 _ rfl
  have ka1 := CA.out.2 1 _ rfl
  have ka2 := CA.out.2 2 _ rfl
  have ka3 := CA.out.2 3 _ rfl
  have ka4 := CA.out.2 4 _ rfl
  have ka5 := CA.out.2 5 _ rfl
  have ka6 := CA.out.2 6 _ rfl
  have ka7 := CA.out.2 7 _ rfl
  have kb0 := CB.out.2 0 _ rfl
  have kb1 := CB.out.2 1 _ rfl
  have kb2 := CB.out.2 2 _ rfl
  have kb3 := CB.out.2 3 _ rfl
  have kb4 := CB.out.2 4 _ rfl
  have kb5 := CB.out.2 5 _ rfl
  have kb6 := CB.out.2 6 _ rfl
  have kb7 := CB.out.2 7 _ rfl
  go_wp2_with fail
  ((with_reducible refine (most_any A.plus B.plus _ _ _ (cells_up HP.out hB.out) (cells_up GP.out hB.out) l1 hA.plus).mono ?_); rintro e w3 ⟨v1, rfl, o1, hb1⟩)
  obtain ⟨-, a1, n1, c1, rfl⟩ := own_slice o1
  clear ka0 ka1 ka2 ka3 ka4 ka5 ka6 ka7 kb0 kb1 kb2 kb3 kb4 kb5 kb6 kb7
  have hs2 := hs.out
  have hs3 := hb1.size
  replace o1 := Kept.mk o1
  have hgA := CA.out.1
  replace FA := Kept.mk (FA.out.keep hb1 (Nat.lt_of_lt_of_le (by show w.heap.size < _; exact hgA) (Nat.le_refl _)))
  replace HF := Kept.mk (HF.out.keep hb1 HZ.out.1)
  replace CA := Kept.mk (CA.out.keep hb1 CA.out.1)
  replace CB := Kept.mk (CB.out.keep hb1 CB.out.1)
  replace HZ := Kept.mk (HZ.out.keep hb1 HZ.out.1)
  replace hB := Kept.mk (hB.out.trans (hb1.mono hB.out.size))
  replace hs := Kept.mk (Nat.le_trans hs.out hb1.size)
  clear hb1 hgA
  have ka0 := CA.out.2 0 _ rfl
  have ka1 := CA.out.2 1 _ rfl
  have ka2 := CA.out.2 2 _ rfl
  have ka3 := CA.out.2 3 _ rfl
  have ka4 := CA.out.2 4 _ rfl
  have ka5 := CA.out.2 5 _ rfl
  have ka6 := CA.out.2 6 _ rfl
  have ka7 := CA.out.2 7 _ rfl
  have kb0 := CB.out.2 0 _ rfl
  have kb1 := CB.out.2 1 _ rfl
  have kb2 := CB.out.2 2 _ rfl
  have kb3 := CB.out.2 3 _ rfl
  have kb4 := CB.out.2 4 _ rfl
  have kb5 := CB.out.2 5 _ rfl
  have kb6 := CB.out.2 6 _ rfl
  have kb7 := CB.out.2 7 _ rfl
  have fz5 := FA.out 5
  have HB4 := Kept.mk (hB.out.setCell (p := ⟨w.heap.size, 5, none⟩) (Nat.le_refl _) (.slice a1 n1 c1))
  have CA4 := Kept.mk (CA.out.setAt 5 (.slice a1 n1 c1) (by simp))
  have CB4 := Kept.mk (CB.out.setOther (b := w.heap.size) (by omega) 5 (.slice a1 n1 c1))
  have HZ4 := Kept.mk (HZ.out.setOther (b := w.heap.size) (by omega) 5 (.slice a1 n1 c1))
  have FA4 := Kept.mk (FA.out.set ⟨w.heap.size, 5, none⟩ (.slice a1 n1 c1))
  have HF4 := Kept.mk (HF.out.set ⟨w.heap.size, 5, none⟩ (.slice a1 n1 c1))
  have o4 := Kept.mk (o1.out.set (p := ⟨w.heap.size, 5, none⟩) (by show w.heap.size < _; omega) (.slice a1 n1 c1))
  go_wp2_with fail
  generalize w3.setCell ⟨w.heap.size, 5, none⟩ (.slice a1 n1 c1) = W4 at *
  clear CA CB HZ FA HF o1 hB fz5
  clear ka0 ka1 ka2 ka3 ka4 ka5 ka6 ka7 kb0 kb1 kb2 kb3 kb4 kb5 kb6 kb7
  have hsz4 : w.heap.size + 3 ≤ W4.heap.size := by have := HB4.out.size; have := HZ4.out.1; omega
  ((with_reducible refine (most_any A.minus B.minus _ _ _ (cells_up HM.out HB4.out) (cells_up GM.out HB4.out) l2 hA.minus).mono ?_); rintro e w5 ⟨v2, rfl, o2, hb1⟩)
  obtain ⟨-, a2, n2, c2, rfl⟩ := own_slice o2
  have hs5 := hb1.size
  have CA := Kept.mk (CA4.out.keep hb1 CA4.out.1)
  have CB := Kept.mk (CB4.out.keep hb1 CB4.out.1)
  have FA := Kept.mk (FA4.out.keep hb1 CA4.out.1)
  have HF := Kept.mk (HF4.out.keep hb1 HZ4.out.1)
  have HZ := Kept.mk (HZ4.out.keep hb1 HZ4.out.1)
  have hB := Kept.mk (HB4.out.trans (hb1.mono HB4.out.size))
  have o1 := Kept.mk (stable_own _ _ _ _ _ _ o4.out hb1)
  have O2 := Kept.mk o2
  clear CA4 CB4 FA4 HF4 HZ4 HB4 o4 o2 hb1
  have ka0 := CA.out.2 0 _ rfl
  have ka1 := CA.out.2 1 _ rfl
  have ka2 := CA.out.2 2 _ rfl
  have ka3 := CA.out.2 3 _ rfl
  have ka4 := CA.out.2 4 _ rfl
  have ka5 := CA.out.2 5 _ rfl
  have ka6 := CA.out.2 6 _ rfl
  have ka7 := CA.out.2 7 _ rfl
  have kb0 := CB.out.2 0 _ rfl
  have kb1 := CB.out.2 1 _ rfl
  have kb2 := CB.out.2 2 _ rfl
  have kb3 := CB.out.2 3 _ rfl
  have kb4 := CB.out.2 4 _ rfl
  have kb5 := CB.out.2 5 _ rfl
  have kb6 := CB.out.2 6 _ rfl
  have kb7 := CB.out.2 7 _ rfl
  have fz6 := FA.out 6
  have fz7 := FA.out 7
  have hor := or_u64 A.flags B.flags
  have HB7 := Kept.mk ((hB.out.setCell (p := ⟨w.heap.size, 6, none⟩) (Nat.le_refl _) (.slice a2 n2 c2)).setCell (p := ⟨w.heap.size, 7, none⟩) (Nat.le_refl _) (.int .u64 ((A.flags ||| B.flags).toNat : Int)))
  have HZ7 := Kept.mk ((HZ.out.setOther (b := w.heap.size) (by omega) 6 (.slice a2 n2 c2)).setOther (b := w.heap.size) (by omega) 7 (.int .u64 ((A.flags ||| B.flags).toNat : Int)))
  have HF7 := Kept.mk ((HF.out.set ⟨w.heap.size, 6, none⟩ (.slice a2 n2 c2)).set ⟨w.heap.size, 7, none⟩ (.int .u64 ((A.flags ||| B.flags).toNat : Int)))
  have o17 := (o1.out.set (p := ⟨w.heap.size, 6, none⟩) (by show w.heap.size < _; omega) (.slice a2 n2 c2)).set (p := ⟨w.heap.size, 7, none⟩) (by show w.heap.size < _; omega) (.int .u64 ((A.flags ||| B.flags).toNat : Int))
  have o27 := (O2.out.set (p := ⟨w.heap.size, 6, none⟩) (by show w.heap.size < _; omega) (.slice a2 n2 c2)).set (p := ⟨w.heap.size, 7, none⟩) (by show w.heap.size < _; omega) (.int .u64 ((A.flags ||| B.flags).toNat : Int))
  obtain ⟨hBK, K4, K5⟩ := vset2 (mergeV A B) (.slice a1 n1 c1) (.slice a2 n2 c2) (g := w.heap.size + 2) (by omega) HB7.out HZ7.out rfl o17.cells o27.cells (fun _ => (own_slice o17).1.ne (by omega)) (fun _ => (own_slice o27).1.ne (by omega))
  have NP1 : Kept ((mergeV A B).plus ≠ [] → NewB w.heap.size (.slice a1 n1 c1)) := ⟨fun _ => (own_slice o17).1.low (by omega)⟩
  have NM1 : Kept ((mergeV A B).minus ≠ [] → NewB w.heap.size (.slice a2 n2 c2)) := ⟨fun _ => (own_slice o27).1.low (by omega)⟩
  clear o17 o27 HB7
  obtain ⟨hc', hp', hm'⟩ := K4.out
  clear K4
  go_wp2_with (have hz0 := K5; refine wpList_storeN 25 rfl (.tmp 4) (.tmp 47) rfl (w.heap.size + 2) [.int .i64 (mergeV A B).kind, .int .i64 (mergeV A B).time, .int .i64 (mergeV A B).node, .bool (mergeV A B).dead, .string ⟨(mergeV A B).text.toArray⟩, .slice a1 n1 c1, .slice a2 n2 c2, .int .u64 ((mergeV A B).flags.toNat : Int)] size_va rfl rfl HZ7.out rfl HF7.out K5.out ?_; clear hz0 K5)
  exact bodyPost_ret (resultsN2 rfl _ _ (w.heap.size + 2) _ (.int .i64 0) size_va agg_va rfl rfl hc') rfl ⟨_, rfl, ⟨(.slice a1 n1 c1), (.slice a2 n2 c2), rfl, hp', hm', NP1.out, NM1.out⟩, hBK.out⟩
theorem rjoinR_any (A B : Va) (v u : Value) (w : World) (hv : isVa A v w) (hu : isVa B u w) (hA : Fit A) (hC : Fit B) :
    Calls Tryz.prog 30 #[v, u] w fun e w' => ∃ v', e = .returned (.tuple #[v', .int .i64 (joinE A B)]) ∧ isVaR w.heap.size (joinF A B) v' w' ∧ Below w.heap.size w w' := by
  cases h1 : okV A with
  | false =>
    have e : joinE A B = 2 := by unfold joinE; rw [h1]; rfl
    rw [show joinF A B = zeroV by unfold joinF; rw [e]; rfl, e]
    exact rjoin_no1 A B v u w hv hu hA hC h1
  | true =>
    cases h2 : okV B with
    | false =>
      have e : joinE A B = 2 := by unfold joinE; rw [h1, h2]; rfl
      rw [show joinF A B = zeroV by unfold joinF; rw [e]; rfl, e]
      exact rjoin_no2 A B v u w hv hu hA hC h1 h2
    | true =>
      by_cases h3 : A.kind = B.kind
      · have e : joinE A B = 0 := joinE_zero.2 ⟨h1, h2, h3⟩
        by_cases h4 : A.kind = 1
        · have rA := (ok_reg h1 h4).2
          have rB := (ok_reg h2 (by omega)).2
          have e2 : joinE B A = 0 := by rw [joinE_comm]; exact e
          have ej : joinF A B = if behindB B A = true then B else A := by
            rw [join_comm e, joinF_ok e2, joinV_reg (by omega)]
            unfold joinReg
            rw [← rA, ← rB]
          rw [e, ej]
          cases h5 : behindB B A with
          | true => rw [if_pos rfl]; exact rjoin_reg_true A B v u w hv hu hA hC h1 h2 h3 h4 h5 (congrArg Va.plus rB) (congrArg Va.minus rB)
          | false => rw [if_neg (by decide)]; exact rjoin_reg_false A B v u w hv hu hA hC h1 h2 h3 h4 h5 (congrArg Va.plus rA) (congrArg Va.minus rA)
        · obtain ⟨m1, m2, m3⟩ := merge_join e h4
          rw [e, m1]
          exact rjoin_rest A B v u w hv hu hA hC h1 h2 h3 h4 m2 m3
      · have e : joinE A B = 3 := by unfold joinE; rw [h1, h2]; simp [h3]
        rw [show joinF A B = zeroV by unfold joinF; rw [e]; rfl, e]
        exact rjoin_no3 A B v u w hv hu hA hC h1 h2 h3
theorem rjoin_any (A B : Va) (v u : Value) (w : World) (hv : isVa A v w) (hu : isVa B u w) (hA : Fit A) (hC : Fit B) :
    Calls Tryz.prog 30 #[v, u] w fun e w' => ∃ v', e = .returned (.tuple #[v', .int .i64 (joinE A B)]) ∧ isVa (joinF A B) v' w' ∧ Below w.heap.size w w' :=
  (rjoinR_any A B v u w hv hu hA hC).mono (by rintro e w' ⟨v', rfl, ⟨p, m, e, hp, hm, _, _⟩, hb⟩; exact ⟨v', rfl, ⟨p, m, e, hp, hm⟩, hb⟩)
end Go.Proofs.YtebjljiklacolaaGreat
end
section
namespace Go.Proofs.YtebjljiklacolaaGreat
open Go.RowKit
set_option linter.unusedVariables false
set_option linter.unusedSimpArgs false
attribute [local irreducible] setN

noncomputable def rd1Ops : Array Oper := regionOf Tryz.f27 2
set_option maxRecDepth 100000 in
set_option maxHeartbeats 2000000 in
theorem rd1_region (Q : Exit → Act → World → Prop) (a0 : Act) (w0 : World) (hsz : a0.tmps.size = 47) (A : Va) (b : Nat) (vp vm : Value) (e1 : a0.tmps.getD 1 undef = .pointer (some ⟨b, 0, none⟩)) (hc : CellsN w0 b [.int .i64 A.kind, .int .i64 A.time, .int .i64 A.node, .bool A.dead, .string ⟨A.text.toArray⟩, vp, vm, .int .u64 (A.flags.toNat : Int)]) (t0 : 0 ≤ A.time) (t1 : A.time ≤ 2147483647) (n0 : 0 ≤ A.node) (n1 : A.node ≤ 7) (x8 : A.text.length ≤ 8) (hb2 : bitN A.dead ≤ 1)
    (hQ : ∀ (g : Nat → Value) (w : World), g 2 = .string ⟨(((((putL (A.time).toNat 4) ++ (putL (A.node).toNat 1)) ++ (putL ((bitI A.dead)).toNat 1)) ++ (putL ((A.text.length : Int)).toNat 1)) ++ A.text).toArray⟩ → Below w0.heap.size w0 w → Q .normal { tmps := [6, 7, 8, 9, 10, 11, 12, 13, 14, 15, 16, 17, 18, 19, 20, 21, 22, 23, 24, 25, 2].foldl (fun t s => t.setIfInBounds s (g s)) a0.tmps, defers := a0.defers } w) :
    (Code.region 2 rd1Ops true).wp Tryz.prog Q a0 w0 := by
  refine wp_region_flow mixed (by rw [hsz]; kernel_rfl) ?_
  rw [show rd1Ops.size = 21 by kernel_rfl]
  refine ⟨isVal (.pointer (some ⟨b, 1, none⟩)), step_field 25 (.tmp 1) 1 ⟨b, 0, none⟩ ⟨b, 1, none⟩ (by kernel_rfl) (wanted_none (by kernel_rfl)) (knows_old 1 (.pointer (some ⟨b, 0, none⟩)) (by kernel_rfl) e1) (field_va b 1 (by omega)), ?_⟩
  refine ⟨isVal (.int .i64 A.time), step_read 3 (.tmp 6) ⟨b, 1, none⟩ (.int .i64 A.time) (by kernel_rfl) (wanted_none (by kernel_rfl)) (knows_new (V := isVal (.pointer (some ⟨b, 1, none⟩))) 6 0 (by kernel_rfl) (by kernel_rfl) (by kernel_rfl)) (hc.2 1 _ rfl) hc.1 agg_int, ?_⟩
  refine ⟨isVal (.string ⟨(putL (A.time).toNat 4).toArray⟩), step_call 25 #[.tmp 7, .const (.int .i64 4)] #[3, 3] #[.int .i64 A.time, .int .i64 4] (by kernel_rfl) (wanted_none (by kernel_rfl)) (stable_val _) (args2 (.tmp 7) (.const (.int .i64 4)) (.int .i64 A.time) (.int .i64 4) (knows_new (V := isVal (.int .i64 A.time)) 7 1 (by kernel_rfl) (by kernel_rfl) (by kernel_rfl)) (knows_const _)) (enters_of Tryz.func25 (by kernel_rfl) rfl) (by intro w hb; exact call_rnum (A.time) 4 w t0 (by omega) (by omega) (by omega) (by show _ < 4294967296; omega)), ?_⟩
  refine ⟨isVal (.pointer (some ⟨b, 2, none⟩)), step_field 25 (.tmp 1) 2 ⟨b, 0, none⟩ ⟨b, 2, none⟩ (by kernel_rfl) (wanted_none (by kernel_rfl)) (knows_old 1 (.pointer (some ⟨b, 0, none⟩)) (by kernel_rfl) e1) (field_va b 2 (by omega)), ?_⟩
  refine ⟨isVal (.int .i64 A.node), step_read 3 (.tmp 9) ⟨b, 2, none⟩ (.int .i64 A.node) (by kernel_rfl) (wanted_none (by kernel_rfl)) (knows_new (V := isVal (.pointer (some ⟨b, 2, none⟩))) 9 3 (by kernel_rfl) (by kernel_rfl) (by kernel_rfl)) (hc.2 2 _ rfl) hc.1 agg_int, ?_⟩
  refine ⟨isVal (.string ⟨(putL (A.node).toNat 1).toArray⟩), step_call 25 #[.tmp 10, .const (.int .i64 1)] #[3, 3] #[.int .i64 A.node, .int .i64 1] (by kernel_rfl) (wanted_none (by kernel_rfl)) (stable_val _) (args2 (.tmp 10) (.const (.int .i64 1)) (.int .i64 A.node) (.int .i64 1) (knows_new (V := isVal (.int .i64 A.node)) 10 4 (by kernel_rfl) (by kernel_rfl) (by kernel_rfl)) (knows_const _)) (enters_of Tryz.func25 (by kernel_rfl) rfl) (by intro w hb; exact call_rnum (A.node) 1 w n0 (by omega) (by omega) (by omega) (by show _ < 256; omega)), ?_⟩
  refine ⟨isVal (.string ⟨((putL (A.time).toNat 4) ++ (putL (A.node).toNat 1)).toArray⟩), step_bin .add 9 9 (.tmp 8) (.tmp 11) (.string ⟨(putL (A.time).toNat 4).toArray⟩) (.string ⟨(putL (A.node).toNat 1).toArray⟩) (.string ⟨((putL (A.time).toNat 4) ++ (putL (A.node).toNat 1)).toArray⟩) (by kernel_rfl) (wanted_none (by kernel_rfl)) (knows_new (V := isVal (.string ⟨(putL (A.time).toNat 4).toArray⟩)) 8 2 (by kernel_rfl) (by kernel_rfl) (by kernel_rfl)) (knows_new (V := isVal (.string ⟨(putL (A.node).toNat 1).toArray⟩)) 11 5 (by kernel_rfl) (by kernel_rfl) (by kernel_rfl)) (fun _ => rfl) (fun W => run_string_add_lists W (putL (A.time).toNat 4) (putL (A.node).toNat 1) (by first | omega | (simp only [List.length_append, length_putL]; omega)) (by first | omega | (simp only [List.length_append, length_putL]; omega))), ?_⟩
  refine ⟨isVal (.pointer (some ⟨b, 3, none⟩)), step_field 25 (.tmp 1) 3 ⟨b, 0, none⟩ ⟨b, 3, none⟩ (by kernel_rfl) (wanted_none (by kernel_rfl)) (knows_old 1 (.pointer (some ⟨b, 0, none⟩)) (by kernel_rfl) e1) (field_va b 3 (by omega)), ?_⟩
  refine ⟨isVal (.bool A.dead), step_read 4 (.tmp 13) ⟨b, 3, none⟩ (.bool A.dead) (by kernel_rfl) (wanted_none (by kernel_rfl)) (knows_new (V := isVal (.pointer (some ⟨b, 3, none⟩))) 13 7 (by kernel_rfl) (by kernel_rfl) (by kernel_rfl)) (hc.2 3 _ rfl) hc.1 agg_bool, ?_⟩
  refine ⟨isVal (.int .i64 (bitI A.dead)), step_call 46 #[.tmp 14] #[4] #[.bool A.dead] (by kernel_rfl) (wanted_none (by kernel_rfl)) (stable_val _) (args1 (.tmp 14) (.bool A.dead) (knows_new (V := isVal (.bool A.dead)) 14 8 (by kernel_rfl) (by kernel_rfl) (by kernel_rfl))) (enters_of Tryz.func46 (by kernel_rfl) rfl) (by intro w hb; exact call_rbit A.dead w), ?_⟩
  refine ⟨isVal (.string ⟨(putL ((bitI A.dead)).toNat 1).toArray⟩), step_call 25 #[.tmp 15, .const (.int .i64 1)] #[3, 3] #[.int .i64 (bitI A.dead), .int .i64 1] (by kernel_rfl) (wanted_none (by kernel_rfl)) (stable_val _) (args2 (.tmp 15) (.const (.int .i64 1)) (.int .i64 (bitI A.dead)) (.int .i64 1) (knows_new (V := isVal (.int .i64 (bitI A.dead))) 15 9 (by kernel_rfl) (by kernel_rfl) (by kernel_rfl)) (knows_const _)) (enters_of Tryz.func25 (by kernel_rfl) rfl) (by intro w hb; exact call_rnum ((bitI A.dead)) 1 w (by unfold bitI; omega) (by unfold bitI; omega) (by omega) (by omega) (by show bitN A.dead < 256; omega)), ?_⟩
  refine ⟨isVal (.string ⟨(((putL (A.time).toNat 4) ++ (putL (A.node).toNat 1)) ++ (putL ((bitI A.dead)).toNat 1)).toArray⟩), step_bin .add 9 9 (.tmp 12) (.tmp 16) (.string ⟨((putL (A.time).toNat 4) ++ (putL (A.node).toNat 1)).toArray⟩) (.string ⟨(putL ((bitI A.dead)).toNat 1).toArray⟩) (.string ⟨(((putL (A.time).toNat 4) ++ (putL (A.node).toNat 1)) ++ (putL ((bitI A.dead)).toNat 1)).toArray⟩) (by kernel_rfl) (wanted_none (by kernel_rfl)) (knows_new (V := isVal (.string ⟨((putL (A.time).toNat 4) ++ (putL (A.node).toNat 1)).toArray⟩)) 12 6 (by kernel_rfl) (by kernel_rfl) (by kernel_rfl)) (knows_new (V := isVal (.string ⟨(putL ((bitI A.dead)).toNat 1).toArray⟩)) 16 10 (by kernel_rfl) (by kernel_rfl) (by kernel_rfl)) (fun _ => rfl) (fun W => run_string_add_lists W ((putL (A.time).toNat 4) ++ (putL (A.node).toNat 1)) (putL ((bitI A.dead)).toNat 1) (by first | omega | (simp only [List.length_append, length_putL]; omega)) (by first | omega | (simp only [List.length_append, length_putL]; omega))), ?_⟩
  refine ⟨isVal (.pointer (some ⟨b, 4, none⟩)), step_field 25 (.tmp 1) 4 ⟨b, 0, none⟩ ⟨b, 4, none⟩ (by kernel_rfl) (wanted_none (by kernel_rfl)) (knows_old 1 (.pointer (some ⟨b, 0, none⟩)) (by kernel_rfl) e1) (field_va b 4 (by omega)), ?_⟩
  refine ⟨isVal (.string ⟨A.text.toArray⟩), step_read 9 (.tmp 18) ⟨b, 4, none⟩ (.string ⟨A.text.toArray⟩) (by kernel_rfl) (wanted_none (by kernel_rfl)) (knows_new (V := isVal (.pointer (some ⟨b, 4, none⟩))) 18 12 (by kernel_rfl) (by kernel_rfl) (by kernel_rfl)) (hc.2 4 _ rfl) hc.1 agg_str, ?_⟩
  refine ⟨isVal (.int .i64 (A.text.length : Int)), step_len 9 (.tmp 19) (.string ⟨A.text.toArray⟩) (.int .i64 (A.text.length : Int)) (by kernel_rfl) (wanted_none (by kernel_rfl)) (knows_new (V := isVal (.string ⟨A.text.toArray⟩)) 19 13 (by kernel_rfl) (by kernel_rfl) (by kernel_rfl)) (len_str A.text), ?_⟩
  refine ⟨isVal (.string ⟨(putL ((A.text.length : Int)).toNat 1).toArray⟩), step_call 25 #[.tmp 20, .const (.int .i64 1)] #[3, 3] #[.int .i64 (A.text.length : Int), .int .i64 1] (by kernel_rfl) (wanted_none (by kernel_rfl)) (stable_val _) (args2 (.tmp 20) (.const (.int .i64 1)) (.int .i64 (A.text.length : Int)) (.int .i64 1) (knows_new (V := isVal (.int .i64 (A.text.length : Int))) 20 14 (by kernel_rfl) (by kernel_rfl) (by kernel_rfl)) (knows_const _)) (enters_of Tryz.func25 (by kernel_rfl) rfl) (by intro w hb; exact call_rnum ((A.text.length : Int)) 1 w (by omega) (by omega) (by omega) (by omega) (by show _ < 256; omega)), ?_⟩
  refine ⟨isVal (.string ⟨((((putL (A.time).toNat 4) ++ (putL (A.node).toNat 1)) ++ (putL ((bitI A.dead)).toNat 1)) ++ (putL ((A.text.length : Int)).toNat 1)).toArray⟩), step_bin .add 9 9 (.tmp 17) (.tmp 21) (.string ⟨(((putL (A.time).toNat 4) ++ (putL (A.node).toNat 1)) ++ (putL ((bitI A.dead)).toNat 1)).toArray⟩) (.string ⟨(putL ((A.text.length : Int)).toNat 1).toArray⟩) (.string ⟨((((putL (A.time).toNat 4) ++ (putL (A.node).toNat 1)) ++ (putL ((bitI A.dead)).toNat 1)) ++ (putL ((A.text.length : Int)).toNat 1)).toArray⟩) (by kernel_rfl) (wanted_none (by kernel_rfl)) (knows_new (V := isVal (.string ⟨(((putL (A.time).toNat 4) ++ (putL (A.node).toNat 1)) ++ (putL ((bitI A.dead)).toNat 1)).toArray⟩)) 17 11 (by kernel_rfl) (by kernel_rfl) (by kernel_rfl)) (knows_new (V := isVal (.string ⟨(putL ((A.text.length : Int)).toNat 1).toArray⟩)) 21 15 (by kernel_rfl) (by kernel_rfl) (by kernel_rfl)) (fun _ => rfl) (fun W => run_string_add_lists W (((putL (A.time).toNat 4) ++ (putL (A.node).toNat 1)) ++ (putL ((bitI A.dead)).toNat 1)) (putL ((A.text.length : Int)).toNat 1) (by first | omega | (simp only [List.length_append, length_putL]; omega)) (by first | omega | (simp only [List.length_append, length_putL]; omega))), ?_⟩
  refine ⟨isVal (.pointer (some ⟨b, 4, none⟩)), step_field 25 (.tmp 1) 4 ⟨b, 0, none⟩ ⟨b, 4, none⟩ (by kernel_rfl) (wanted_none (by kernel_rfl)) (knows_old 1 (.pointer (some ⟨b, 0, none⟩)) (by kernel_rfl) e1) (field_va b 4 (by omega)), ?_⟩
  refine ⟨isVal (.string ⟨A.text.toArray⟩), step_read 9 (.tmp 23) ⟨b, 4, none⟩ (.string ⟨A.text.toArray⟩) (by kernel_rfl) (wanted_none (by kernel_rfl)) (knows_new (V := isVal (.pointer (some ⟨b, 4, none⟩))) 23 17 (by kernel_rfl) (by kernel_rfl) (by kernel_rfl)) (hc.2 4 _ rfl) hc.1 agg_str, ?_⟩
  refine ⟨isVal (.string ⟨(((((putL (A.time).toNat 4) ++ (putL (A.node).toNat 1)) ++ (putL ((bitI A.dead)).toNat 1)) ++ (putL ((A.text.length : Int)).toNat 1)) ++ A.text).toArray⟩), step_bin .add 9 9 (.tmp 22) (.tmp 24) (.string ⟨((((putL (A.time).toNat 4) ++ (putL (A.node).toNat 1)) ++ (putL ((bitI A.dead)).toNat 1)) ++ (putL ((A.text.length : Int)).toNat 1)).toArray⟩) (.string ⟨A.text.toArray⟩) (.string ⟨(((((putL (A.time).toNat 4) ++ (putL (A.node).toNat 1)) ++ (putL ((bitI A.dead)).toNat 1)) ++ (putL ((A.text.length : Int)).toNat 1)) ++ A.text).toArray⟩) (by kernel_rfl) (wanted_none (by kernel_rfl)) (knows_new (V := isVal (.string ⟨((((putL (A.time).toNat 4) ++ (putL (A.node).toNat 1)) ++ (putL ((bitI A.dead)).toNat 1)) ++ (putL ((A.text.length : Int)).toNat 1)).toArray⟩)) 22 16 (by kernel_rfl) (by kernel_rfl) (by kernel_rfl)) (knows_new (V := isVal (.string ⟨A.text.toArray⟩)) 24 18 (by kernel_rfl) (by kernel_rfl) (by kernel_rfl)) (fun _ => rfl) (fun W => run_string_add_lists W ((((putL (A.time).toNat 4) ++ (putL (A.node).toNat 1)) ++ (putL ((bitI A.dead)).toNat 1)) ++ (putL ((A.text.length : Int)).toNat 1)) A.text (by first | omega | (simp only [List.length_append, length_putL]; omega)) (by first | omega | (simp only [List.length_append, length_putL]; omega))), ?_⟩
  refine ⟨isVal (.string ⟨(((((putL (A.time).toNat 4) ++ (putL (A.node).toNat 1)) ++ (putL ((bitI A.dead)).toNat 1)) ++ (putL ((A.text.length : Int)).toNat 1)) ++ A.text).toArray⟩), step_assign (.tmp 25) (by kernel_rfl) (wanted_none (by kernel_rfl)) (stable_val _) (knows_new (V := isVal (.string ⟨(((((putL (A.time).toNat 4) ++ (putL (A.node).toNat 1)) ++ (putL ((bitI A.dead)).toNat 1)) ++ (putL ((A.text.length : Int)).toNat 1)) ++ A.text).toArray⟩)) 25 19 (by kernel_rfl) (by kernel_rfl) (by kernel_rfl)), ?_⟩
  intro a w hkp hb hd
  rw [kept_of hkp [some 6, some 7, some 8, some 9, some 10, some 11, some 12, some 13, some 14, some 15, some 16, some 17, some 18, some 19, some 20, some 21, some 22, some 23, some 24, some 25, some 2] [6, 7, 8, 9, 10, 11, 12, 13, 14, 15, 16, 17, 18, 19, 20, 21, 22, 23, 24, 25, 2] (by kernel_rfl) (by decide)]
  have d2 := fdone_of (hd 20 (by rw [show rd1Ops.size = 21 by kernel_rfl]; decide)) (t := 2) (V := isVal (.string ⟨(((((putL (A.time).toNat 4) ++ (putL (A.node).toNat 1)) ++ (putL ((bitI A.dead)).toNat 1)) ++ (putL ((A.text.length : Int)).toNat 1)) ++ A.text).toArray⟩)) (by kernel_rfl) (by kernel_rfl)
  exact hQ (fun s => a.tmps.getD s undef) w d2 hb
noncomputable def rd2Ops : Array Oper := regionOf Tryz.f27 4
set_option maxRecDepth 100000 in
set_option maxHeartbeats 2000000 in
theorem rd2_region (Q : Exit → Act → World → Prop) (a0 : Act) (w0 : World) (hsz : a0.tmps.size = 47) (A : Va) (b : Nat) (vp vm : Value) (e1 : a0.tmps.getD 1 undef = .pointer (some ⟨b, 0, none⟩)) (hc : CellsN w0 b [.int .i64 A.kind, .int .i64 A.time, .int .i64 A.node, .bool A.dead, .string ⟨A.text.toArray⟩, vp, vm, .int .u64 (A.flags.toNat : Int)]) (hp : isCells (A.plus.map intC) vp w0) (hm : isCells (A.minus.map intC) vm w0) (l1 : A.plus.length ≤ 40) (l2 : A.minus.length ≤ 40) (a1 : A.plus.all okNum = true) (a2 : A.minus.all okNum = true)
    (hQ : ∀ (g : Nat → Value) (w : World), g 2 = .string ⟨(numsL A.plus ++ numsL A.minus).toArray⟩ → Below w0.heap.size w0 w → Q .normal { tmps := [29, 30, 31, 32, 33, 34, 35, 2].foldl (fun t s => t.setIfInBounds s (g s)) a0.tmps, defers := a0.defers } w) :
    (Code.region 4 rd2Ops true).wp Tryz.prog Q a0 w0 := by
  refine wp_region_flow mixed (by rw [hsz]; kernel_rfl) ?_
  rw [show rd2Ops.size = 8 by kernel_rfl]
  refine ⟨isVal (.pointer (some ⟨b, 5, none⟩)), step_field 25 (.tmp 1) 5 ⟨b, 0, none⟩ ⟨b, 5, none⟩ (by kernel_rfl) (wanted_none (by kernel_rfl)) (knows_old 1 (.pointer (some ⟨b, 0, none⟩)) (by kernel_rfl) e1) (field_va b 5 (by omega)), ?_⟩
  refine ⟨isVal vp, step_read 22 (.tmp 29) ⟨b, 5, none⟩ vp (by kernel_rfl) (wanted_none (by kernel_rfl)) (knows_new (V := isVal (.pointer (some ⟨b, 5, none⟩))) 29 0 (by kernel_rfl) (by kernel_rfl) (by kernel_rfl)) (hc.2 5 _ rfl) hc.1 agg_ints, ?_⟩
  refine ⟨isVal (.string ⟨(numsL A.plus).toArray⟩), step_call 47 #[.tmp 30] #[22] #[vp] (by kernel_rfl) (wanted_none (by kernel_rfl)) (stable_val _) (args1 (.tmp 30) vp (knows_new (V := isVal vp) 30 1 (by kernel_rfl) (by kernel_rfl) (by kernel_rfl))) (enters_of Tryz.func47 (by kernel_rfl) rfl) (by intro w hb; exact call_rnums A.plus vp w (stable_cells _ _ _ _ hp hb) l1 a1), ?_⟩
  refine ⟨isVal (.pointer (some ⟨b, 6, none⟩)), step_field 25 (.tmp 1) 6 ⟨b, 0, none⟩ ⟨b, 6, none⟩ (by kernel_rfl) (wanted_none (by kernel_rfl)) (knows_old 1 (.pointer (some ⟨b, 0, none⟩)) (by kernel_rfl) e1) (field_va b 6 (by omega)), ?_⟩
  refine ⟨isVal vm, step_read 22 (.tmp 32) ⟨b, 6, none⟩ vm (by kernel_rfl) (wanted_none (by kernel_rfl)) (knows_new (V := isVal (.pointer (some ⟨b, 6, none⟩))) 32 3 (by kernel_rfl) (by kernel_rfl) (by kernel_rfl)) (hc.2 6 _ rfl) hc.1 agg_ints, ?_⟩
  refine ⟨isVal (.string ⟨(numsL A.minus).toArray⟩), step_call 47 #[.tmp 33] #[22] #[vm] (by kernel_rfl) (wanted_none (by kernel_rfl)) (stable_val _) (args1 (.tmp 33) vm (knows_new (V := isVal vm) 33 4 (by kernel_rfl) (by kernel_rfl) (by kernel_rfl))) (enters_of Tryz.func47 (by kernel_rfl) rfl) (by intro w hb; exact call_rnums A.minus vm w (stable_cells _ _ _ _ hm hb) l2 a2), ?_⟩
  refine ⟨isVal (.string ⟨((numsL A.plus) ++ (numsL A.minus)).toArray⟩), step_bin .add 9 9 (.tmp 31) (.tmp 34) (.string ⟨(numsL A.plus).toArray⟩) (.string ⟨(numsL A.minus).toArray⟩) (.string ⟨((numsL A.plus) ++ (numsL A.minus)).toArray⟩) (by kernel_rfl) (wanted_none (by kernel_rfl)) (knows_new (V := isVal (.string ⟨(numsL A.plus).toArray⟩)) 31 2 (by kernel_rfl) (by kernel_rfl) (by kernel_rfl)) (knows_new (V := isVal (.string ⟨(numsL A.minus).toArray⟩)) 34 5 (by kernel_rfl) (by kernel_rfl) (by kernel_rfl)) (fun _ => rfl) (fun W => run_string_add_lists W (numsL A.plus) (numsL A.minus) (by rw [length_nums]; omega) (by rw [length_nums]; omega)), ?_⟩
  refine ⟨isVal (.string ⟨((numsL A.plus) ++ (numsL A.minus)).toArray⟩), step_assign (.tmp 35) (by kernel_rfl) (wanted_none (by kernel_rfl)) (stable_val _) (knows_new (V := isVal (.string ⟨((numsL A.plus) ++ (numsL A.minus)).toArray⟩)) 35 6 (by kernel_rfl) (by kernel_rfl) (by kernel_rfl)), ?_⟩
  intro a w hkp hb hd
  rw [kept_of hkp [some 29, some 30, some 31, some 32, some 33, some 34, some 35, some 2] [29, 30, 31, 32, 33, 34, 35, 2] (by kernel_rfl) (by decide)]
  have d2 := fdone_of (hd 7 (by rw [show rd2Ops.size = 8 by kernel_rfl]; decide)) (t := 2) (V := isVal (.string ⟨(numsL A.plus ++ numsL A.minus).toArray⟩)) (by kernel_rfl) (by kernel_rfl)
  exact hQ (fun s => a.tmps.getD s undef) w d2 hb
theorem rem_half (F : Nat) (t : TypeId) (w : World) : (binOp .rem t (.int .u64 (F : Int)) (.int .u64 4294967296)).run Tryz.prog w = .ok (.int .u64 ((F % 4294967296 : Nat) : Int)) w := by
  simp [go_sem]
  exact Int.tmod_eq_emod_of_nonneg (by omega)
theorem quo_half (F : Nat) (h : F < 18446744073709551616) (t : TypeId) (w : World) : (binOp .quo t (.int .u64 (F : Int)) (.int .u64 4294967296)).run Tryz.prog w = .ok (.int .u64 ((F / 4294967296 : Nat) : Int)) w := by
  simp [go_sem]
  exact IntWalk.u64_in _ (by omega)
noncomputable def rd3Ops : Array Oper := regionOf Tryz.f27 5
set_option maxRecDepth 100000 in
set_option maxHeartbeats 2000000 in
theorem rd3_region (Q : Exit → Act → World → Prop) (a0 : Act) (w0 : World) (hsz : a0.tmps.size = 47) (A : Va) (b : Nat) (vp vm : Value) (e1 : a0.tmps.getD 1 undef = .pointer (some ⟨b, 0, none⟩)) (hc : CellsN w0 b [.int .i64 A.kind, .int .i64 A.time, .int .i64 A.node, .bool A.dead, .string ⟨A.text.toArray⟩, vp, vm, .int .u64 (A.flags.toNat : Int)]) (hF : A.flags.toNat < 18446744073709551616)
    (hQ : ∀ (g : Nat → Value) (w : World), g 2 = .string ⟨((putL (((A.flags.toNat % 4294967296 : Nat) : Int)).toNat 4) ++ (putL (((A.flags.toNat / 4294967296 : Nat) : Int)).toNat 4)).toArray⟩ → Below w0.heap.size w0 w → Q .normal { tmps := [36, 37, 38, 39, 40, 41, 42, 43, 44, 45, 46, 2].foldl (fun t s => t.setIfInBounds s (g s)) a0.tmps, defers := a0.defers } w) :
    (Code.region 5 rd3Ops true).wp Tryz.prog Q a0 w0 := by
  refine wp_region_flow mixed (by rw [hsz]; kernel_rfl) ?_
  rw [show rd3Ops.size = 12 by kernel_rfl]
  refine ⟨isVal (.pointer (some ⟨b, 7, none⟩)), step_field 25 (.tmp 1) 7 ⟨b, 0, none⟩ ⟨b, 7, none⟩ (by kernel_rfl) (wanted_none (by kernel_rfl)) (knows_old 1 (.pointer (some ⟨b, 0, none⟩)) (by kernel_rfl) e1) (field_va b 7 (by omega)), ?_⟩
  refine ⟨isVal (.int .u64 (A.flags.toNat : Int)), step_read 23 (.tmp 36) ⟨b, 7, none⟩ (.int .u64 (A.flags.toNat : Int)) (by kernel_rfl) (wanted_none (by kernel_rfl)) (knows_new (V := isVal (.pointer (some ⟨b, 7, none⟩))) 36 0 (by kernel_rfl) (by kernel_rfl) (by kernel_rfl)) (hc.2 7 _ rfl) hc.1 agg_u64, ?_⟩
  refine ⟨isVal (.int .u64 ((A.flags.toNat % 4294967296 : Nat) : Int)), step_bin .rem 23 23 (.tmp 37) (.const (.int .u64 4294967296)) (.int .u64 (A.flags.toNat : Int)) (.int .u64 4294967296) (.int .u64 ((A.flags.toNat % 4294967296 : Nat) : Int)) (by kernel_rfl) (wanted_none (by kernel_rfl)) (knows_new (V := isVal (.int .u64 (A.flags.toNat : Int))) 37 1 (by kernel_rfl) (by kernel_rfl) (by kernel_rfl)) (knows_const _) (fun _ => rfl) (rem_half _ _), ?_⟩
  refine ⟨isVal (.int .i64 ((A.flags.toNat % 4294967296 : Nat) : Int)), step_conv 23 3 (.tmp 38) (.int .u64 ((A.flags.toNat % 4294967296 : Nat) : Int)) (.int .i64 ((A.flags.toNat % 4294967296 : Nat) : Int)) (by kernel_rfl) (wanted_none (by kernel_rfl)) (knows_new (V := isVal (.int .u64 ((A.flags.toNat % 4294967296 : Nat) : Int))) 38 2 (by kernel_rfl) (by kernel_rfl) (by kernel_rfl)) (conv_int _ (by have := A.flags.toNat_lt; omega)), ?_⟩
  refine ⟨isVal (.string ⟨(putL (((A.flags.toNat % 4294967296 : Nat) : Int)).toNat 4).toArray⟩), step_call 25 #[.tmp 39, .const (.int .i64 4)] #[3, 3] #[.int .i64 ((A.flags.toNat % 4294967296 : Nat) : Int), .int .i64 4] (by kernel_rfl) (wanted_none (by kernel_rfl)) (stable_val _) (args2 (.tmp 39) (.const (.int .i64 4)) (.int .i64 ((A.flags.toNat % 4294967296 : Nat) : Int)) (.int .i64 4) (knows_new (V := isVal (.int .i64 ((A.flags.toNat % 4294967296 : Nat) : Int))) 39 3 (by kernel_rfl) (by kernel_rfl) (by kernel_rfl)) (knows_const _)) (enters_of Tryz.func25 (by kernel_rfl) rfl) (by intro w hb; exact call_rnum (((A.flags.toNat % 4294967296 : Nat) : Int)) 4 w (by omega) (by omega) (by omega) (by omega) (by show _ < 4294967296; omega)), ?_⟩
  refine ⟨isVal (.pointer (some ⟨b, 7, none⟩)), step_field 25 (.tmp 1) 7 ⟨b, 0, none⟩ ⟨b, 7, none⟩ (by kernel_rfl) (wanted_none (by kernel_rfl)) (knows_old 1 (.pointer (some ⟨b, 0, none⟩)) (by kernel_rfl) e1) (field_va b 7 (by omega)), ?_⟩
  refine ⟨isVal (.int .u64 (A.flags.toNat : Int)), step_read 23 (.tmp 41) ⟨b, 7, none⟩ (.int .u64 (A.flags.toNat : Int)) (by kernel_rfl) (wanted_none (by kernel_rfl)) (knows_new (V := isVal (.pointer (some ⟨b, 7, none⟩))) 41 5 (by kernel_rfl) (by kernel_rfl) (by kernel_rfl)) (hc.2 7 _ rfl) hc.1 agg_u64, ?_⟩
  refine ⟨isVal (.int .u64 ((A.flags.toNat / 4294967296 : Nat) : Int)), step_bin .quo 23 23 (.tmp 42) (.const (.int .u64 4294967296)) (.int .u64 (A.flags.toNat : Int)) (.int .u64 4294967296) (.int .u64 ((A.flags.toNat / 4294967296 : Nat) : Int)) (by kernel_rfl) (wanted_none (by kernel_rfl)) (knows_new (V := isVal (.int .u64 (A.flags.toNat : Int))) 42 6 (by kernel_rfl) (by kernel_rfl) (by kernel_rfl)) (knows_const _) (fun _ => rfl) (quo_half _ A.flags.toNat_lt _), ?_⟩
  refine ⟨isVal (.int .i64 ((A.flags.toNat / 4294967296 : Nat) : Int)), step_conv 23 3 (.tmp 43) (.int .u64 ((A.flags.toNat / 4294967296 : Nat) : Int)) (.int .i64 ((A.flags.toNat / 4294967296 : Nat) : Int)) (by kernel_rfl) (wanted_none (by kernel_rfl)) (knows_new (V := isVal (.int .u64 ((A.flags.toNat / 4294967296 : Nat) : Int))) 43 7 (by kernel_rfl) (by kernel_rfl) (by kernel_rfl)) (conv_int _ (by have := A.flags.toNat_lt; omega)), ?_⟩
  refine ⟨isVal (.string ⟨(putL (((A.flags.toNat / 4294967296 : Nat) : Int)).toNat 4).toArray⟩), step_call 25 #[.tmp 44, .const (.int .i64 4)] #[3, 3] #[.int .i64 ((A.flags.toNat / 4294967296 : Nat) : Int), .int .i64 4] (by kernel_rfl) (wanted_none (by kernel_rfl)) (stable_val _) (args2 (.tmp 44) (.const (.int .i64 4)) (.int .i64 ((A.flags.toNat / 4294967296 : Nat) : Int)) (.int .i64 4) (knows_new (V := isVal (.int .i64 ((A.flags.toNat / 4294967296 : Nat) : Int))) 44 8 (by kernel_rfl) (by kernel_rfl) (by kernel_rfl)) (knows_const _)) (enters_of Tryz.func25 (by kernel_rfl) rfl) (by intro w hb; exact call_rnum (((A.flags.toNat / 4294967296 : Nat) : Int)) 4 w (by omega) (by omega) (by omega) (by omega) (by show _ < 4294967296; omega)), ?_⟩
  refine ⟨isVal (.string ⟨((putL (((A.flags.toNat % 4294967296 : Nat) : Int)).toNat 4) ++ (putL (((A.flags.toNat / 4294967296 : Nat) : Int)).toNat 4)).toArray⟩), step_bin .add 9 9 (.tmp 40) (.tmp 45) (.string ⟨(putL (((A.flags.toNat % 4294967296 : Nat) : Int)).toNat 4).toArray⟩) (.string ⟨(putL (((A.flags.toNat / 4294967296 : Nat) : Int)).toNat 4).toArray⟩) (.string ⟨((putL (((A.flags.toNat % 4294967296 : Nat) : Int)).toNat 4) ++ (putL (((A.flags.toNat / 4294967296 : Nat) : Int)).toNat 4)).toArray⟩) (by kernel_rfl) (wanted_none (by kernel_rfl)) (knows_new (V := isVal (.string ⟨(putL (((A.flags.toNat % 4294967296 : Nat) : Int)).toNat 4).toArray⟩)) 40 4 (by kernel_rfl) (by kernel_rfl) (by kernel_rfl)) (knows_new (V := isVal (.string ⟨(putL (((A.flags.toNat / 4294967296 : Nat) : Int)).toNat 4).toArray⟩)) 45 9 (by kernel_rfl) (by kernel_rfl) (by kernel_rfl)) (fun _ => rfl) (fun W => run_string_add_lists W (putL (((A.flags.toNat % 4294967296 : Nat) : Int)).toNat 4) (putL (((A.flags.toNat / 4294967296 : Nat) : Int)).toNat 4) (by first | omega | (simp only [List.length_append, length_putL]; omega)) (by first | omega | (simp only [List.length_append, length_putL]; omega))), ?_⟩
  refine ⟨isVal (.string ⟨((putL (((A.flags.toNat % 4294967296 : Nat) : Int)).toNat 4) ++ (putL (((A.flags.toNat / 4294967296 : Nat) : Int)).toNat 4)).toArray⟩), step_assign (.tmp 46) (by kernel_rfl) (wanted_none (by kernel_rfl)) (stable_val _) (knows_new (V := isVal (.string ⟨((putL (((A.flags.toNat % 4294967296 : Nat) : Int)).toNat 4) ++ (putL (((A.flags.toNat / 4294967296 : Nat) : Int)).toNat 4)).toArray⟩)) 46 10 (by kernel_rfl) (by kernel_rfl) (by kernel_rfl)), ?_⟩
  intro a w hkp hb hd
  rw [kept_of hkp [some 36, some 37, some 38, some 39, some 40, some 41, some 42, some 43, some 44, some 45, some 46, some 2] [36, 37, 38, 39, 40, 41, 42, 43, 44, 45, 46, 2] (by kernel_rfl) (by decide)]
  have d2 := fdone_of (hd 11 (by rw [show rd3Ops.size = 12 by kernel_rfl]; decide)) (t := 2) (V := isVal (.string ⟨((putL (((A.flags.toNat % 4294967296 : Nat) : Int)).toNat 4) ++ (putL (((A.flags.toNat / 4294967296 : Nat) : Int)).toNat 4)).toArray⟩)) (by kernel_rfl) (by kernel_rfl)
  exact hQ (fun s => a.tmps.getD s undef) w d2 hb
set_option maxRecDepth 100000 in
set_option maxHeartbeats 4000000 in
theorem rdata_1 (A : Va) (v : Value) (w : World) (hv : isVa A v w) (hok : okV A = true) (hk : A.kind = 1) : Calls Tryz.prog 27 #[v] w fun e w' => e = .returned (txt (dataL A)) ∧ Below w.heap.size w w' := by
  have HD := Kept.mk (data_reg hk)
  have hI : inReg A = true := by
    unfold okV kindN at hok; rw [if_pos hk] at hok; split at hok
    · rename_i h3; rw [Bool.and_eq_true] at h3; exact h3.1
    · simp at hok
  simp only [inReg, Bool.and_eq_true, decide_eq_true_eq] at hI
  obtain ⟨⟨⟨⟨t0, t1⟩, ⟨n0, n1⟩⟩, x8⟩, -⟩ := hI
  have hb2 : bitN A.dead ≤ 1 := by unfold bitN; split <;> omega
  have hk1 : (A.kind == 1) = true := by simpa using hk
  clear hok
  clear hk
  obtain ⟨vp, vm, rfl, hp, hm⟩ := hv
  have HB := Kept.mk (lit_below w (.cells #[.int .i64 A.kind, .int .i64 A.time, .int .i64 A.node, .bool A.dead, .string ⟨A.text.toArray⟩, vp, vm, .int .u64 (A.flags.toNat : Int)] 25))
  have HC := Kept.mk (cellsN_at w 25 [.int .i64 A.kind, .int .i64 A.time, .int .i64 A.node, .bool A.dead, .string ⟨A.text.toArray⟩, vp, vm, .int .u64 (A.flags.toNat : Int)] w.heap.size rfl)
  have HP := Kept.mk (stable_cells _ _ _ _ hp HB.out)
  have HM := Kept.mk (stable_cells _ _ _ _ hm HB.out)
  clear hp hm
  have k0 := HC.out.2 0 _ rfl
  go_enter Tryz.func27, Tryz.ntmps27
  go_wp2_with fail
  generalize w.alloc (.cells #[.int .i64 A.kind, .int .i64 A.time, .int .i64 A.node, .bool A.dead, .string ⟨A.text.toArray⟩, vp, vm, .int .u64 (A.flags.toNat : Int)] 25) = W0 at *
  clear k0
  refine rd1_region _ _ _ rfl A w.heap.size vp vm rfl HC.out t0 t1 n0 n1 (by omega) hb2 ?_
  intro f9 W9 d2 hb9
  simp only [List.foldl_cons, List.foldl_nil, d2]
  generalize f9 6 = y6
  generalize f9 7 = y7
  generalize f9 8 = y8
  generalize f9 9 = y9
  generalize f9 10 = y10
  generalize f9 11 = y11
  generalize f9 12 = y12
  generalize f9 13 = y13
  generalize f9 14 = y14
  generalize f9 15 = y15
  generalize f9 16 = y16
  generalize f9 17 = y17
  generalize f9 18 = y18
  generalize f9 19 = y19
  generalize f9 20 = y20
  generalize f9 21 = y21
  generalize f9 22 = y22
  generalize f9 23 = y23
  generalize f9 24 = y24
  generalize f9 25 = y25
  clear d2
  simp only [List.setIfInBounds_toArray, List.set_cons_succ, List.set_cons_zero]
  replace HB := Kept.mk (HB.out.trans (hb9.mono HB.out.size))
  clear hb9
  go_wp2
  go_ret
  refine ⟨ret_str ?_, HB.out⟩
  rw [HD.out]
  simp only [List.append_assoc, bitI, Int.toNat_natCast]
set_option maxRecDepth 100000 in
set_option maxHeartbeats 4000000 in
theorem rdata_2 (A : Va) (v : Value) (w : World) (hv : isVa A v w) (hok : okV A = true) (hk : A.kind = 2) : Calls Tryz.prog 27 #[v] w fun e w' => e = .returned (txt (dataL A)) ∧ Below w.heap.size w w' := by
  have HD := Kept.mk (data_count hk)
  have hI : inCount A = true := by
    unfold okV kindN at hok; rw [if_neg (by rw [hk]; decide), if_pos hk] at hok; split at hok
    · rename_i h3; rw [Bool.and_eq_true] at h3; exact h3.1
    · simp at hok
  simp only [inCount, okRow, Bool.and_eq_true, decide_eq_true_eq] at hI
  obtain ⟨⟨l1, a1⟩, ⟨l2, a2⟩⟩ := hI
  have hk1 : (A.kind == 1) = false := by simp [hk]
  have hk2 : (A.kind == 2) = true := by simpa using hk
  clear hok
  clear hk
  obtain ⟨vp, vm, rfl, hp, hm⟩ := hv
  have HB := Kept.mk (lit_below w (.cells #[.int .i64 A.kind, .int .i64 A.time, .int .i64 A.node, .bool A.dead, .string ⟨A.text.toArray⟩, vp, vm, .int .u64 (A.flags.toNat : Int)] 25))
  have HC := Kept.mk (cellsN_at w 25 [.int .i64 A.kind, .int .i64 A.time, .int .i64 A.node, .bool A.dead, .string ⟨A.text.toArray⟩, vp, vm, .int .u64 (A.flags.toNat : Int)] w.heap.size rfl)
  have HP := Kept.mk (stable_cells _ _ _ _ hp HB.out)
  have HM := Kept.mk (stable_cells _ _ _ _ hm HB.out)
  clear hp hm
  have k0 := HC.out.2 0 _ rfl
  go_enter Tryz.func27, Tryz.ntmps27
  go_wp2_with fail
  generalize w.alloc (.cells #[.int .i64 A.kind, .int .i64 A.time, .int .i64 A.node, .bool A.dead, .string ⟨A.text.toArray⟩, vp, vm, .int .u64 (A.flags.toNat : Int)] 25) = W0 at *
  clear k0
  refine rd2_region _ _ _ rfl A w.heap.size vp vm rfl HC.out HP.out HM.out (by omega) (by omega) a1 a2 ?_
  intro f9 W9 d2 hb9
  simp only [List.foldl_cons, List.foldl_nil, d2]
  generalize f9 29 = y29
  generalize f9 30 = y30
  generalize f9 31 = y31
  generalize f9 32 = y32
  generalize f9 33 = y33
  generalize f9 34 = y34
  generalize f9 35 = y35
  clear d2
  simp only [List.setIfInBounds_toArray, List.set_cons_succ, List.set_cons_zero]
  replace HB := Kept.mk (HB.out.trans (hb9.mono HB.out.size))
  clear hb9
  go_wp2
  go_ret
  exact ⟨ret_str HD.out.symm, HB.out⟩
set_option maxRecDepth 100000 in
set_option maxHeartbeats 4000000 in
theorem rdata_3 (A : Va) (v : Value) (w : World) (hv : isVa A v w) (hk : A.kind = 3) : Calls Tryz.prog 27 #[v] w fun e w' => e = .returned (txt (dataL A)) ∧ Below w.heap.size w w' := by
  have HD := Kept.mk (data_flags hk)
  have hk1 : (A.kind == 1) = false := by simp [hk]
  have hk2 : (A.kind == 2) = false := by simp [hk]
  clear hk
  obtain ⟨vp, vm, rfl, hp, hm⟩ := hv
  have HB := Kept.mk (lit_below w (.cells #[.int .i64 A.kind, .int .i64 A.time, .int .i64 A.node, .bool A.dead, .string ⟨A.text.toArray⟩, vp, vm, .int .u64 (A.flags.toNat : Int)] 25))
  have HC := Kept.mk (cellsN_at w 25 [.int .i64 A.kind, .int .i64 A.time, .int .i64 A.node, .bool A.dead, .string ⟨A.text.toArray⟩, vp, vm, .int .u64 (A.flags.toNat : Int)] w.heap.size rfl)
  have HP := Kept.mk (stable_cells _ _ _ _ hp HB.out)
  have HM := Kept.mk (stable_cells _ _ _ _ hm HB.out)
  clear hp hm
  have k0 := HC.out.2 0 _ rfl
  go_enter Tryz.func27, Tryz.ntmps27
  go_wp2_with fail
  generalize w.alloc (.cells #[.int .i64 A.kind, .int .i64 A.time, .int .i64 A.node, .bool A.dead, .string ⟨A.text.toArray⟩, vp, vm, .int .u64 (A.flags.toNat : Int)] 25) = W0 at *
  clear k0
  refine rd3_region _ _ _ rfl A w.heap.size vp vm rfl HC.out A.flags.toNat_lt ?_
  intro f9 W9 d2 hb9
  simp only [List.foldl_cons, List.foldl_nil, d2]
  generalize f9 36 = y36
  generalize f9 37 = y37
  generalize f9 38 = y38
  generalize f9 39 = y39
  generalize f9 40 = y40
  generalize f9 41 = y41
  generalize f9 42 = y42
  generalize f9 43 = y43
  generalize f9 44 = y44
  generalize f9 45 = y45
  generalize f9 46 = y46
  clear d2
  simp only [List.setIfInBounds_toArray, List.set_cons_succ, List.set_cons_zero]
  replace HB := Kept.mk (HB.out.trans (hb9.mono HB.out.size))
  clear hb9
  go_wp2
  go_ret
  refine ⟨ret_str ?_, HB.out⟩
  rw [HD.out]
  simp only [Int.toNat_natCast]
theorem call_rdata (A : Va) (v : Value) (w : World) (hv : isVa A v w) (hok : okV A = true) : Calls Tryz.prog 27 #[v] w fun e w' => ∃ x, e = .returned x ∧ isVal (txt (dataL A)) x w' ∧ Below w.heap.size w w' := by
  have hk := kind_lt hok
  have h : A.kind = 1 ∨ A.kind = 2 ∨ A.kind = 3 := by omega
  have key : Calls Tryz.prog 27 #[v] w fun e w' => e = .returned (txt (dataL A)) ∧ Below w.heap.size w w' := by
    rcases h with h | h | h
    · exact rdata_1 A v w hv hok h
    · exact rdata_2 A v w hv hok h
    · exact rdata_3 A v w hv h
  exact key.mono (by rintro e w' ⟨rfl, hb⟩; exact ⟨_, rfl, rfl, hb⟩)
end Go.Proofs.YtebjljiklacolaaGreat
end
section
namespace Go.Proofs.YtebjljiklacolaaGreat
open Go.RowKit
set_option linter.unusedVariables false
set_option linter.unusedSimpArgs false
attribute [local irreducible] setN

set_option maxRecDepth 100000 in
set_option maxHeartbeats 2000000 in
theorem rless_any (A B : En) (v u : Value) (w : World) (hv : isEn A v w) (hu : isEn B u w) : Calls Tryz.prog 13 #[v, u] w fun e w' => e = .returned (.bool (lessE A B)) ∧ Below w.heap.size w w' := by
  obtain ⟨pa, ma, rfl, hpa, hma⟩ := hv
  obtain ⟨pb, mb, rfl, hpb, hmb⟩ := hu
  obtain ⟨hB, Va⟩ := ebox w A pa ma hpa hma (w.heap.size) (by simp)
  obtain ⟨hBn, Vb⟩ := ebox (w.alloc (.cells #[.string ⟨A.key.toArray⟩, .int .i64 A.val.kind, .int .i64 A.val.time, .int .i64 A.val.node, .bool A.val.dead, .string ⟨A.val.text.toArray⟩, pa, ma, .int .u64 (A.val.flags.toNat : Int)] 27)) B pb mb (stable_cells _ _ _ _ hpb hB.out) (stable_cells _ _ _ _ hmb hB.out) (w.heap.size + 1) (by simp)
  replace Va := Kept.mk (Va.out.keep hBn.out)
  replace hB := Kept.mk (hB.out.trans (hBn.out.mono hB.out.size))
  clear hBn
  clear hpa hma hpb hmb
  obtain ⟨qa, ra, xa, ya, ka0, ka1, ka2, ka3, ka4, ka5, ka6, ka7, ka8⟩ := Va.out.open_
  have Xa := Kept.mk xa
  have Ya := Kept.mk ya
  clear xa ya
  obtain ⟨qb, rb, xb, yb, kb0, kb1, kb2, kb3, kb4, kb5, kb6, kb7, kb8⟩ := Vb.out.open_
  have Xb := Kept.mk xb
  have Yb := Kept.mk yb
  clear xb yb
  cases hk : (A.val.kind == B.val.kind) with
  | true =>
    have HC := Kept.mk (show lessE A B = Op.bytesLess A.key B.key by unfold lessE; rw [if_pos (by simpa using hk)])
    go_enter Tryz.func13, Tryz.ntmps13
    go_wp2
    go_ret
    exact ⟨by rw [HC.out]; rfl, hB.out⟩
  | false =>
    have HC := Kept.mk (show lessE A B = decide (A.val.kind < B.val.kind) by unfold lessE; rw [if_neg (by simpa using hk)])
    go_enter Tryz.func13, Tryz.ntmps13
    go_wp2
    go_ret
    exact ⟨by rw [HC.out]; rfl, hB.out⟩
set_option maxRecDepth 100000 in
set_option maxHeartbeats 2000000 in
theorem resame_any (A B : En) (v u : Value) (w : World) (hv : isEn A v w) (hu : isEn B u w) (hA : Fit A.val) (hF : Fit B.val) : Calls Tryz.prog 12 #[v, u] w fun e w' => e = .returned (.bool (decide (A = B))) ∧ Below w.heap.size w w' := by
  have HS := Kept.mk (same_en A B)
  obtain ⟨pa, ma, rfl, hpa, hma⟩ := hv
  obtain ⟨pb, mb, rfl, hpb, hmb⟩ := hu
  obtain ⟨hB, Va⟩ := ebox w A pa ma hpa hma (w.heap.size) (by simp)
  obtain ⟨hBn, Vb⟩ := ebox (w.alloc (.cells #[.string ⟨A.key.toArray⟩, .int .i64 A.val.kind, .int .i64 A.val.time, .int .i64 A.val.node, .bool A.val.dead, .string ⟨A.val.text.toArray⟩, pa, ma, .int .u64 (A.val.flags.toNat : Int)] 27)) B pb mb (stable_cells _ _ _ _ hpb hB.out) (stable_cells _ _ _ _ hmb hB.out) (w.heap.size + 1) (by simp)
  replace Va := Kept.mk (Va.out.keep hBn.out)
  replace hB := Kept.mk (hB.out.trans (hBn.out.mono hB.out.size))
  clear hBn
  clear hpa hma hpb hmb
  obtain ⟨qa, ra, xa, ya, ka0, ka1, ka2, ka3, ka4, ka5, ka6, ka7, ka8⟩ := Va.out.open_
  have Xa := Kept.mk xa
  have Ya := Kept.mk ya
  clear xa ya
  obtain ⟨qb, rb, xb, yb, kb0, kb1, kb2, kb3, kb4, kb5, kb6, kb7, kb8⟩ := Vb.out.open_
  have Xb := Kept.mk xb
  have Yb := Kept.mk yb
  clear xb yb
  cases hk : (A.key == B.key) with
  | false =>
    go_enter Tryz.func12, Tryz.ntmps12
    go_wp2
    go_ret
    exact ⟨by rw [HS.out, hk]; rfl, hB.out⟩
  | true =>
    have HK := Kept.mk hk
    go_enter Tryz.func12, Tryz.ntmps12
    go_wp2_with fail
    refine (rsame_any A.val B.val _ _ _ Ya.out Yb.out hA hF).mono ?_
    rintro e W1 ⟨rfl, hb1⟩
    replace hB := Kept.mk (hB.out.trans (hb1.mono hB.out.size))
    clear hb1 Xa Xb Ya Yb Va Vb ka0 ka1 ka2 ka3 ka4 ka5 ka6 ka7 ka8 kb0 kb1 kb2 kb3 kb4 kb5 kb6 kb7 kb8
    generalize hz : decide (A.val = B.val) = z
    have HV := Kept.mk hz
    clear hz
    go_wp2
    go_ret
    exact ⟨by rw [HS.out, HK.out, HV.out]; rfl, hB.out⟩
set_option maxRecDepth 100000 in
set_option maxHeartbeats 4000000 in
theorem rechk_any (E : En) (v : Value) (w : World) (hv : isEn E v w) (hF : FitE E) : Calls Tryz.prog 7 #[v] w fun e w' => e = .returned (.bool (okE E)) ∧ Below w.heap.size w w' := by
  have hk := hF.key
  have hs : (⟨E.key.toArray⟩ : ByteArray).size = E.key.length := by simp [ByteArray.size]
  obtain ⟨pe, me, rfl, hpe, hme⟩ := hv
  obtain ⟨hB, Ve⟩ := ebox w E pe me hpe hme (w.heap.size) (by simp)
  clear hpe hme
  obtain ⟨qe, re, xe, ye, ke0, ke1, ke2, ke3, ke4, ke5, ke6, ke7, ke8⟩ := Ve.out.open_
  have Xe := Kept.mk xe
  have Ye := Kept.mk ye
  clear xe ye
  by_cases h1 : (1 : Int) ≤ E.key.length
  · have d1 : decide ((1 : Int) ≤ E.key.length) = true := by simpa using h1
    by_cases h8 : (E.key.length : Int) ≤ 8
    · have d8 : decide ((E.key.length : Int) ≤ 8) = true := by simpa using h8
      have HC := Kept.mk (show okE E = okV E.val by unfold okE; rw [show decide (1 ≤ E.key.length) = true by rw [decide_eq_true_eq]; omega, show decide (E.key.length ≤ 8) = true by simp; omega]; rfl)
      go_enter Tryz.func7, Tryz.ntmps7
      go_wp2_with fail
      refine (rcheck_any E.val _ _ Ye.out hF.val).mono ?_
      rintro e W1 ⟨rfl, hb1⟩
      replace hB := Kept.mk (hB.out.trans (hb1.mono hB.out.size))
      clear hb1 Xe Ye ke0 ke1 ke2 ke3 ke4 ke5 ke6 ke7 ke8 Ve
      generalize hcv : okV E.val = cv
      have HV := Kept.mk hcv
      clear hcv
      go_wp2
      go_ret
      exact ⟨by rw [HC.out, HV.out]; rfl, hB.out⟩
    · have d8 : decide ((E.key.length : Int) ≤ 8) = false := by simpa using h8
      have HC := Kept.mk (show okE E = false by unfold okE; rw [show decide (E.key.length ≤ 8) = false by simp; omega]; simp)
      go_enter Tryz.func7, Tryz.ntmps7
      go_wp2
      go_ret
      exact ⟨by rw [HC.out]; rfl, hB.out⟩
  · have d1 : decide ((1 : Int) ≤ E.key.length) = false := by simpa using h1
    have HC := Kept.mk (show okE E = false by unfold okE; rw [show decide (1 ≤ E.key.length) = false by rw [decide_eq_false_iff_not]; omega]; simp)
    go_enter Tryz.func7, Tryz.ntmps7
    go_wp2
    go_ret
    exact ⟨by rw [HC.out]; rfl, hB.out⟩
set_option maxRecDepth 100000 in
set_option maxHeartbeats 4000000 in
theorem rname_any (A B : En) (v u : Value) (w : World) (hv : isEn A v w) (hu : isEn B u w) : Calls Tryz.prog 29 #[v, u] w fun e w' => e = .returned (.bool (nameB A B)) ∧ Below w.heap.size w w' := by
  obtain ⟨pa, ma, rfl, hpa, hma⟩ := hv
  obtain ⟨pb, mb, rfl, hpb, hmb⟩ := hu
  obtain ⟨hB, Va⟩ := ebox w A pa ma hpa hma (w.heap.size) (by simp)
  obtain ⟨hBn, Vb⟩ := ebox (w.alloc (.cells #[.string ⟨A.key.toArray⟩, .int .i64 A.val.kind, .int .i64 A.val.time, .int .i64 A.val.node, .bool A.val.dead, .string ⟨A.val.text.toArray⟩, pa, ma, .int .u64 (A.val.flags.toNat : Int)] 27)) B pb mb (stable_cells _ _ _ _ hpb hB.out) (stable_cells _ _ _ _ hmb hB.out) (w.heap.size + 1) (by simp)
  replace Va := Kept.mk (Va.out.keep hBn.out)
  replace hB := Kept.mk (hB.out.trans (hBn.out.mono hB.out.size))
  clear hBn
  clear hpa hma hpb hmb
  obtain ⟨qa, ra, xa, ya, ka0, ka1, ka2, ka3, ka4, ka5, ka6, ka7, ka8⟩ := Va.out.open_
  have Xa := Kept.mk xa
  have Ya := Kept.mk ya
  clear xa ya
  obtain ⟨qb, rb, xb, yb, kb0, kb1, kb2, kb3, kb4, kb5, kb6, kb7, kb8⟩ := Vb.out.open_
  have Xb := Kept.mk xb
  have Yb := Kept.mk yb
  clear xb yb
  cases hk : (A.val.kind == B.val.kind) with
  | false =>
    have HC := Kept.mk (show nameB A B = false by unfold nameB; rw [show decide (A.val.kind = B.val.kind) = false by simpa using hk]; rfl)
    go_enter Tryz.func29, Tryz.ntmps29
    go_wp2
    go_ret
    exact ⟨by rw [HC.out]; rfl, hB.out⟩
  | true =>
    have HC := Kept.mk (show nameB A B = (A.key == B.key) by unfold nameB; rw [show decide (A.val.kind = B.val.kind) = true by simpa using hk, Bool.true_and]; by_cases h : A.key = B.key <;> simp [h])
    go_enter Tryz.func29, Tryz.ntmps29
    go_wp2
    go_ret
    exact ⟨by rw [HC.out]; rfl, hB.out⟩
noncomputable def rpuOps : Array Oper := regionOf Tryz.f9 3
set_option maxRecDepth 100000 in
set_option maxHeartbeats 2000000 in
theorem rpu_region (Q : Exit → Act → World → Prop) (a0 : Act) (w0 : World) (hsz : a0.tmps.size = 25) (E : En) (b : Nat) (vp vm : Value) (e1 : a0.tmps.getD 1 undef = .pointer (some ⟨b, 0, none⟩)) (hc : CellsN w0 b [.string ⟨E.key.toArray⟩, .int .i64 E.val.kind, .int .i64 E.val.time, .int .i64 E.val.node, .bool E.val.dead, .string ⟨E.val.text.toArray⟩, vp, vm, .int .u64 (E.val.flags.toNat : Int)]) (hp : isCells (E.val.plus.map intC) vp w0) (hm : isCells (E.val.minus.map intC) vm w0) (hok : okV E.val = true) (k0 : 0 ≤ E.val.kind) (k3 : E.val.kind ≤ 3) (hkl : E.key.length ≤ 8) (hdl : (dataL E.val).length ≤ 32)
    (hQ : ∀ (g : Nat → Value) (w : World), g 2 = .string ⟨((((putL (E.val.kind).toNat 1) ++ (putL ((E.key.length : Int)).toNat 1)) ++ (E.key ++ zerosL (8 - E.key.length))) ++ ((dataL E.val) ++ zerosL (32 - (dataL E.val).length))).toArray⟩ → g 3 = .int .i64 0 → Below w0.heap.size w0 w → Q .normal { tmps := [7, 8, 9, 10, 11, 12, 13, 14, 15, 16, 17, 18, 19, 20, 21, 22, 23, 24, 2, 3].foldl (fun t s => t.setIfInBounds s (g s)) a0.tmps, defers := a0.defers } w) :
    (Code.region 3 rpuOps true).wp Tryz.prog Q a0 w0 := by
  refine wp_region_flow mixed (by rw [hsz]; kernel_rfl) ?_
  rw [show rpuOps.size = 20 by kernel_rfl]
  refine ⟨isVal (.pointer (some ⟨b, 1, none⟩)), step_field 27 (.tmp 1) 1 ⟨b, 0, none⟩ ⟨b, 1, none⟩ (by kernel_rfl) (wanted_none (by kernel_rfl)) (knows_old 1 (.pointer (some ⟨b, 0, none⟩)) (by kernel_rfl) e1) (field_en b 1 (by omega)), ?_⟩
  refine ⟨isVal (.pointer (some ⟨b, 1, none⟩)), step_field 25 (.tmp 7) 0 ⟨b, 1, none⟩ ⟨b, 1, none⟩ (by kernel_rfl) (wanted_none (by kernel_rfl)) (knows_new (V := isVal (.pointer (some ⟨b, 1, none⟩))) 7 0 (by kernel_rfl) (by kernel_rfl) (by kernel_rfl)) (field_va1 b 0 (by omega)), ?_⟩
  refine ⟨isVal (.int .i64 E.val.kind), step_read 3 (.tmp 8) ⟨b, 1, none⟩ (.int .i64 E.val.kind) (by kernel_rfl) (wanted_none (by kernel_rfl)) (knows_new (V := isVal (.pointer (some ⟨b, 1, none⟩))) 8 1 (by kernel_rfl) (by kernel_rfl) (by kernel_rfl)) (hc.2 1 _ rfl) hc.1 agg_int, ?_⟩
  refine ⟨isVal (.string ⟨(putL (E.val.kind).toNat 1).toArray⟩), step_call 25 #[.tmp 9, .const (.int .i64 1)] #[3, 3] #[.int .i64 E.val.kind, .int .i64 1] (by kernel_rfl) (wanted_none (by kernel_rfl)) (stable_val _) (args2 (.tmp 9) (.const (.int .i64 1)) (.int .i64 E.val.kind) (.int .i64 1) (knows_new (V := isVal (.int .i64 E.val.kind)) 9 2 (by kernel_rfl) (by kernel_rfl) (by kernel_rfl)) (knows_const _)) (enters_of Tryz.func25 (by kernel_rfl) rfl) (by intro w hb; exact call_rnum (E.val.kind) 1 w k0 (by omega) (by omega) (by omega) (by show _ < 256; omega)), ?_⟩
  refine ⟨isVal (.pointer (some ⟨b, 0, none⟩)), step_field 27 (.tmp 1) 0 ⟨b, 0, none⟩ ⟨b, 0, none⟩ (by kernel_rfl) (wanted_none (by kernel_rfl)) (knows_old 1 (.pointer (some ⟨b, 0, none⟩)) (by kernel_rfl) e1) (field_en b 0 (by omega)), ?_⟩
  refine ⟨isVal (.string ⟨E.key.toArray⟩), step_read 9 (.tmp 11) ⟨b, 0, none⟩ (.string ⟨E.key.toArray⟩) (by kernel_rfl) (wanted_none (by kernel_rfl)) (knows_new (V := isVal (.pointer (some ⟨b, 0, none⟩))) 11 4 (by kernel_rfl) (by kernel_rfl) (by kernel_rfl)) (hc.2 0 _ rfl) hc.1 agg_str, ?_⟩
  refine ⟨isVal (.int .i64 (E.key.length : Int)), step_len 9 (.tmp 12) (.string ⟨E.key.toArray⟩) (.int .i64 (E.key.length : Int)) (by kernel_rfl) (wanted_none (by kernel_rfl)) (knows_new (V := isVal (.string ⟨E.key.toArray⟩)) 12 5 (by kernel_rfl) (by kernel_rfl) (by kernel_rfl)) (len_str E.key), ?_⟩
  refine ⟨isVal (.string ⟨(putL ((E.key.length : Int)).toNat 1).toArray⟩), step_call 25 #[.tmp 13, .const (.int .i64 1)] #[3, 3] #[.int .i64 (E.key.length : Int), .int .i64 1] (by kernel_rfl) (wanted_none (by kernel_rfl)) (stable_val _) (args2 (.tmp 13) (.const (.int .i64 1)) (.int .i64 (E.key.length : Int)) (.int .i64 1) (knows_new (V := isVal (.int .i64 (E.key.length : Int))) 13 6 (by kernel_rfl) (by kernel_rfl) (by kernel_rfl)) (knows_const _)) (enters_of Tryz.func25 (by kernel_rfl) rfl) (by intro w hb; exact call_rnum ((E.key.length : Int)) 1 w (by omega) (by omega) (by omega) (by omega) (by show _ < 256; omega)), ?_⟩
  refine ⟨isVal (.string ⟨((putL (E.val.kind).toNat 1) ++ (putL ((E.key.length : Int)).toNat 1)).toArray⟩), step_bin .add 9 9 (.tmp 10) (.tmp 14) (.string ⟨(putL (E.val.kind).toNat 1).toArray⟩) (.string ⟨(putL ((E.key.length : Int)).toNat 1).toArray⟩) (.string ⟨((putL (E.val.kind).toNat 1) ++ (putL ((E.key.length : Int)).toNat 1)).toArray⟩) (by kernel_rfl) (wanted_none (by kernel_rfl)) (knows_new (V := isVal (.string ⟨(putL (E.val.kind).toNat 1).toArray⟩)) 10 3 (by kernel_rfl) (by kernel_rfl) (by kernel_rfl)) (knows_new (V := isVal (.string ⟨(putL ((E.key.length : Int)).toNat 1).toArray⟩)) 14 7 (by kernel_rfl) (by kernel_rfl) (by kernel_rfl)) (fun _ => rfl) (fun W => run_string_add_lists W (putL (E.val.kind).toNat 1) (putL ((E.key.length : Int)).toNat 1) (by first | omega | (simp only [List.length_append, length_putL, length_zeros]; omega)) (by first | omega | (simp only [List.length_append, length_putL, length_zeros]; omega))), ?_⟩
  refine ⟨isVal (.pointer (some ⟨b, 0, none⟩)), step_field 27 (.tmp 1) 0 ⟨b, 0, none⟩ ⟨b, 0, none⟩ (by kernel_rfl) (wanted_none (by kernel_rfl)) (knows_old 1 (.pointer (some ⟨b, 0, none⟩)) (by kernel_rfl) e1) (field_en b 0 (by omega)), ?_⟩
  refine ⟨isVal (.string ⟨E.key.toArray⟩), step_read 9 (.tmp 16) ⟨b, 0, none⟩ (.string ⟨E.key.toArray⟩) (by kernel_rfl) (wanted_none (by kernel_rfl)) (knows_new (V := isVal (.pointer (some ⟨b, 0, none⟩))) 16 9 (by kernel_rfl) (by kernel_rfl) (by kernel_rfl)) (hc.2 0 _ rfl) hc.1 agg_str, ?_⟩
  refine ⟨isVal (.string ⟨(E.key ++ zerosL (8 - E.key.length)).toArray⟩), step_call 26 #[.tmp 17, .const (.int .i64 8)] #[9, 3] #[.string ⟨E.key.toArray⟩, .int .i64 8] (by kernel_rfl) (wanted_none (by kernel_rfl)) (stable_val _) (args2 (.tmp 17) (.const (.int .i64 8)) (.string ⟨E.key.toArray⟩) (.int .i64 8) (knows_new (V := isVal (.string ⟨E.key.toArray⟩)) 17 10 (by kernel_rfl) (by kernel_rfl) (by kernel_rfl)) (knows_const _)) (enters_of Tryz.func26 (by kernel_rfl) rfl) (by intro w hb; exact call_rpad E.key 8 w hkl (by omega)), ?_⟩
  refine ⟨isVal (.string ⟨(((putL (E.val.kind).toNat 1) ++ (putL ((E.key.length : Int)).toNat 1)) ++ (E.key ++ zerosL (8 - E.key.length))).toArray⟩), step_bin .add 9 9 (.tmp 15) (.tmp 18) (.string ⟨((putL (E.val.kind).toNat 1) ++ (putL ((E.key.length : Int)).toNat 1)).toArray⟩) (.string ⟨(E.key ++ zerosL (8 - E.key.length)).toArray⟩) (.string ⟨(((putL (E.val.kind).toNat 1) ++ (putL ((E.key.length : Int)).toNat 1)) ++ (E.key ++ zerosL (8 - E.key.length))).toArray⟩) (by kernel_rfl) (wanted_none (by kernel_rfl)) (knows_new (V := isVal (.string ⟨((putL (E.val.kind).toNat 1) ++ (putL ((E.key.length : Int)).toNat 1)).toArray⟩)) 15 8 (by kernel_rfl) (by kernel_rfl) (by kernel_rfl)) (knows_new (V := isVal (.string ⟨(E.key ++ zerosL (8 - E.key.length)).toArray⟩)) 18 11 (by kernel_rfl) (by kernel_rfl) (by kernel_rfl)) (fun _ => rfl) (fun W => run_string_add_lists W ((putL (E.val.kind).toNat 1) ++ (putL ((E.key.length : Int)).toNat 1)) (E.key ++ zerosL (8 - E.key.length)) (by first | omega | (simp only [List.length_append, length_putL, length_zeros]; omega)) (by first | omega | (simp only [List.length_append, length_putL, length_zeros]; omega))), ?_⟩
  refine ⟨isVal (.pointer (some ⟨b, 1, none⟩)), step_field 27 (.tmp 1) 1 ⟨b, 0, none⟩ ⟨b, 1, none⟩ (by kernel_rfl) (wanted_none (by kernel_rfl)) (knows_old 1 (.pointer (some ⟨b, 0, none⟩)) (by kernel_rfl) e1) (field_en b 1 (by omega)), ?_⟩
  refine ⟨isVal (.agg #[.int .i64 E.val.kind, .int .i64 E.val.time, .int .i64 E.val.node, .bool E.val.dead, .string ⟨E.val.text.toArray⟩, vp, vm, .int .u64 (E.val.flags.toNat : Int)]), step_loadO 25 (.tmp 20) (b) _ [.int .i64 E.val.kind, .int .i64 E.val.time, .int .i64 E.val.node, .bool E.val.dead, .string ⟨E.val.text.toArray⟩, vp, vm, .int .u64 (E.val.flags.toNat : Int)] (by kernel_rfl) (wanted_none (by kernel_rfl)) (knows_new (V := isVal (.pointer (some ⟨b, 1, none⟩))) 20 13 (by kernel_rfl) (by kernel_rfl) (by kernel_rfl)) size_va agg_va hc, ?_⟩
  refine ⟨isVal (.string ⟨(dataL E.val).toArray⟩), step_call 27 #[.tmp 21] #[25] #[.agg #[.int .i64 E.val.kind, .int .i64 E.val.time, .int .i64 E.val.node, .bool E.val.dead, .string ⟨E.val.text.toArray⟩, vp, vm, .int .u64 (E.val.flags.toNat : Int)]] (by kernel_rfl) (wanted_none (by kernel_rfl)) (stable_val _) (args1 (.tmp 21) (.agg #[.int .i64 E.val.kind, .int .i64 E.val.time, .int .i64 E.val.node, .bool E.val.dead, .string ⟨E.val.text.toArray⟩, vp, vm, .int .u64 (E.val.flags.toNat : Int)]) (knows_new (V := isVal (.agg #[.int .i64 E.val.kind, .int .i64 E.val.time, .int .i64 E.val.node, .bool E.val.dead, .string ⟨E.val.text.toArray⟩, vp, vm, .int .u64 (E.val.flags.toNat : Int)])) 21 14 (by kernel_rfl) (by kernel_rfl) (by kernel_rfl))) (enters_of Tryz.func27 (by kernel_rfl) rfl) (by intro w hb; exact call_rdata E.val _ w ⟨vp, vm, rfl, stable_cells _ _ _ _ hp hb, stable_cells _ _ _ _ hm hb⟩ hok), ?_⟩
  refine ⟨isVal (.string ⟨((dataL E.val) ++ zerosL (32 - (dataL E.val).length)).toArray⟩), step_call 26 #[.tmp 22, .const (.int .i64 32)] #[9, 3] #[.string ⟨(dataL E.val).toArray⟩, .int .i64 32] (by kernel_rfl) (wanted_none (by kernel_rfl)) (stable_val _) (args2 (.tmp 22) (.const (.int .i64 32)) (.string ⟨(dataL E.val).toArray⟩) (.int .i64 32) (knows_new (V := isVal (.string ⟨(dataL E.val).toArray⟩)) 22 15 (by kernel_rfl) (by kernel_rfl) (by kernel_rfl)) (knows_const _)) (enters_of Tryz.func26 (by kernel_rfl) rfl) (by intro w hb; exact call_rpad (dataL E.val) 32 w hdl (by omega)), ?_⟩
  refine ⟨isVal (.string ⟨((((putL (E.val.kind).toNat 1) ++ (putL ((E.key.length : Int)).toNat 1)) ++ (E.key ++ zerosL (8 - E.key.length))) ++ ((dataL E.val) ++ zerosL (32 - (dataL E.val).length))).toArray⟩), step_bin .add 9 9 (.tmp 19) (.tmp 23) (.string ⟨(((putL (E.val.kind).toNat 1) ++ (putL ((E.key.length : Int)).toNat 1)) ++ (E.key ++ zerosL (8 - E.key.length))).toArray⟩) (.string ⟨((dataL E.val) ++ zerosL (32 - (dataL E.val).length)).toArray⟩) (.string ⟨((((putL (E.val.kind).toNat 1) ++ (putL ((E.key.length : Int)).toNat 1)) ++ (E.key ++ zerosL (8 - E.key.length))) ++ ((dataL E.val) ++ zerosL (32 - (dataL E.val).length))).toArray⟩) (by kernel_rfl) (wanted_none (by kernel_rfl)) (knows_new (V := isVal (.string ⟨(((putL (E.val.kind).toNat 1) ++ (putL ((E.key.length : Int)).toNat 1)) ++ (E.key ++ zerosL (8 - E.key.length))).toArray⟩)) 19 12 (by kernel_rfl) (by kernel_rfl) (by kernel_rfl)) (knows_new (V := isVal (.string ⟨((dataL E.val) ++ zerosL (32 - (dataL E.val).length)).toArray⟩)) 23 16 (by kernel_rfl) (by kernel_rfl) (by kernel_rfl)) (fun _ => rfl) (fun W => run_string_add_lists W (((putL (E.val.kind).toNat 1) ++ (putL ((E.key.length : Int)).toNat 1)) ++ (E.key ++ zerosL (8 - E.key.length))) ((dataL E.val) ++ zerosL (32 - (dataL E.val).length)) (by first | omega | (simp only [List.length_append, length_putL, length_zeros]; omega)) (by first | omega | (simp only [List.length_append, length_putL, length_zeros]; omega))), ?_⟩
  refine ⟨isVal (.string ⟨((((putL (E.val.kind).toNat 1) ++ (putL ((E.key.length : Int)).toNat 1)) ++ (E.key ++ zerosL (8 - E.key.length))) ++ ((dataL E.val) ++ zerosL (32 - (dataL E.val).length))).toArray⟩), step_assign (.tmp 24) (by kernel_rfl) (wanted_none (by kernel_rfl)) (stable_val _) (knows_new (V := isVal (.string ⟨((((putL (E.val.kind).toNat 1) ++ (putL ((E.key.length : Int)).toNat 1)) ++ (E.key ++ zerosL (8 - E.key.length))) ++ ((dataL E.val) ++ zerosL (32 - (dataL E.val).length))).toArray⟩)) 24 17 (by kernel_rfl) (by kernel_rfl) (by kernel_rfl)), ?_⟩
  refine ⟨isVal (.int .i64 0), step_assign (.const (.int .i64 0)) (by kernel_rfl) (wanted_none (by kernel_rfl)) (stable_val _) (knows_const _), ?_⟩
  intro a w hkp hb hd
  rw [kept_of hkp [some 7, some 8, some 9, some 10, some 11, some 12, some 13, some 14, some 15, some 16, some 17, some 18, some 19, some 20, some 21, some 22, some 23, some 24, some 2, some 3] [7, 8, 9, 10, 11, 12, 13, 14, 15, 16, 17, 18, 19, 20, 21, 22, 23, 24, 2, 3] (by kernel_rfl) (by decide)]
  have d2 := fdone_of (hd 18 (by rw [show rpuOps.size = 20 by kernel_rfl]; decide)) (t := 2) (V := isVal (.string ⟨((((putL (E.val.kind).toNat 1) ++ (putL ((E.key.length : Int)).toNat 1)) ++ (E.key ++ zerosL (8 - E.key.length))) ++ ((dataL E.val) ++ zerosL (32 - (dataL E.val).length))).toArray⟩)) (by kernel_rfl) (by kernel_rfl)
  have d3 := fdone_of (hd 19 (by rw [show rpuOps.size = 20 by kernel_rfl]; decide)) (t := 3) (V := isVal (.int .i64 0)) (by kernel_rfl) (by kernel_rfl)
  exact hQ (fun s => a.tmps.getD s undef) w d2 d3 hb
theorem okE_v {E : En} (h : okE E = true) : okV E.val = true := by unfold okE at h; rw [Bool.and_eq_true] at h; exact h.2
set_option maxRecDepth 100000 in
set_option maxHeartbeats 4000000 in
theorem rput_any (E : En) (v : Value) (w : World) (hv : isEn E v w) (hF : FitE E) : Calls Tryz.prog 9 #[v] w fun e w' => e = .returned (.tuple #[.string ⟨(putF E).toArray⟩, .int .i64 (chkE E)]) ∧ Below w.heap.size w w' := by
  obtain ⟨vp, vm, rfl, hp, hm⟩ := hv
  have HB := Kept.mk (lit_below w (.cells #[.string ⟨E.key.toArray⟩, .int .i64 E.val.kind, .int .i64 E.val.time, .int .i64 E.val.node, .bool E.val.dead, .string ⟨E.val.text.toArray⟩, vp, vm, .int .u64 (E.val.flags.toNat : Int)] 27))
  have HC := Kept.mk (cellsN_at w 27 [.string ⟨E.key.toArray⟩, .int .i64 E.val.kind, .int .i64 E.val.time, .int .i64 E.val.node, .bool E.val.dead, .string ⟨E.val.text.toArray⟩, vp, vm, .int .u64 (E.val.flags.toNat : Int)] w.heap.size rfl)
  have HP := Kept.mk (stable_cells _ _ _ _ hp HB.out)
  have HM := Kept.mk (stable_cells _ _ _ _ hm HB.out)
  clear hp hm
  have kv0 := HC.out.2 0 _ rfl
  have kv1 := HC.out.2 1 _ rfl
  have kv2 := HC.out.2 2 _ rfl
  have kv3 := HC.out.2 3 _ rfl
  have kv4 := HC.out.2 4 _ rfl
  have kv5 := HC.out.2 5 _ rfl
  have kv6 := HC.out.2 6 _ rfl
  have kv7 := HC.out.2 7 _ rfl
  have kv8 := HC.out.2 8 _ rfl
  go_enter Tryz.func9, Tryz.ntmps9
  go_wp2_with fail
  clear kv0 kv1 kv2 kv3 kv4 kv5 kv6 kv7 kv8
  generalize w.alloc (.cells #[.string ⟨E.key.toArray⟩, .int .i64 E.val.kind, .int .i64 E.val.time, .int .i64 E.val.node, .bool E.val.dead, .string ⟨E.val.text.toArray⟩, vp, vm, .int .u64 (E.val.flags.toNat : Int)] 27) = W0 at *
  refine (rechk_any E _ W0 ⟨vp, vm, rfl, HP.out, HM.out⟩ hF).mono ?_
  rintro e W1 ⟨rfl, hb⟩
  replace HC := Kept.mk (HC.out.keep hb HC.out.1)
  replace HB := Kept.mk (HB.out.trans (hb.mono HB.out.size))
  replace HP := Kept.mk (stable_cells _ _ _ _ HP.out hb)
  replace HM := Kept.mk (stable_cells _ _ _ _ HM.out hb)
  clear hb
  cases hok : okE E with
  | false =>
    have e1 : putF E = [] := by unfold putF; rw [hok]; rfl
    have e2 := chk_no hok
    have H1 := Kept.mk e1
    have H2 := Kept.mk e2
    clear e1 e2 hok
    go_wp2
    go_ret2
    refine ⟨?_, HB.out⟩
    rw [H1.out, H2.out]
    rfl
  | true =>
    have e1 : putF E = putEn E := by unfold putF; rw [hok]; rfl
    have e2 := chk_ok hok
    have H1 := Kept.mk e1
    have H2 := Kept.mk e2
    have hv := okE_v hok
    have hk := kind_lt hv
    have hd := (length_data_le hv).1
    have hkl : E.key.length ≤ 8 := by simp only [okE, Bool.and_eq_true, decide_eq_true_eq] at hok; exact hok.1.2
    have HV := Kept.mk hv
    clear e1 e2 hok hv
    go_wp2_with fail
    refine rpu_region _ _ _ rfl E w.heap.size vp vm rfl HC.out HP.out HM.out HV.out (by omega) (by omega) hkl hd ?_
    intro f9 W9 d2 d3 hb9
    simp only [List.foldl_cons, List.foldl_nil, d2, d3]
    generalize f9 7 = y7
    generalize f9 8 = y8
    generalize f9 9 = y9
    generalize f9 10 = y10
    generalize f9 11 = y11
    generalize f9 12 = y12
    generalize f9 13 = y13
    generalize f9 14 = y14
    generalize f9 15 = y15
    generalize f9 16 = y16
    generalize f9 17 = y17
    generalize f9 18 = y18
    generalize f9 19 = y19
    generalize f9 20 = y20
    generalize f9 21 = y21
    generalize f9 22 = y22
    generalize f9 23 = y23
    generalize f9 24 = y24
    clear d2 d3
    simp only [List.setIfInBounds_toArray, List.set_cons_succ, List.set_cons_zero]
    replace HB := Kept.mk (HB.out.trans (hb9.mono HB.out.size))
    clear hb9
    go_wp2
    go_ret2
    refine ⟨?_, HB.out⟩
    rw [H1.out, H2.out]
    unfold putEn headL
    simp only [List.append_assoc, Int.toNat_natCast]
    rfl
end Go.Proofs.YtebjljiklacolaaGreat
end
section
namespace Go.Proofs.YtebjljiklacolaaGreat
open Go.RowKit
set_option linter.unusedVariables false
set_option linter.unusedSimpArgs false
attribute [local irreducible] setN

structure JS3 (w W : World) (A B : En) (pa ma pb mb : Value) : Prop where
  hb : Below w.heap.size w W
  a : Blk W w.heap.size [.string ⟨A.key.toArray⟩, .int .i64 A.val.kind, .int .i64 A.val.time, .int .i64 A.val.node, .bool A.val.dead, .string ⟨A.val.text.toArray⟩, pa, ma, .int .u64 (A.val.flags.toNat : Int)]
  b : Blk W (w.heap.size + 1) [.string ⟨B.key.toArray⟩, .int .i64 B.val.kind, .int .i64 B.val.time, .int .i64 B.val.node, .bool B.val.dead, .string ⟨B.val.text.toArray⟩, pb, mb, .int .u64 (B.val.flags.toNat : Int)]
  r : Blk W (w.heap.size + 1 + 1) [.string ⟨#[]⟩, .int .i64 0, .int .i64 0, .int .i64 0, .bool false, .string ⟨#[]⟩, .slice none 0 0, .slice none 0 0, .int .u64 0]
theorem JS3.keep {w W W' : World} {A B : En} {pa ma pb mb : Value} (h : JS3 w W A B pa ma pb mb) (k : Below W.heap.size W W') : JS3 w W' A B pa ma pb mb :=
  ⟨h.hb.trans (k.mono h.hb.size), h.a.keep k, h.b.keep k, h.r.keep k⟩
theorem js3_new (w : World) (A B : En) (pa ma pb mb : Value) : JS3 w (((w.alloc (.cells #[.string ⟨A.key.toArray⟩, .int .i64 A.val.kind, .int .i64 A.val.time, .int .i64 A.val.node, .bool A.val.dead, .string ⟨A.val.text.toArray⟩, pa, ma, .int .u64 (A.val.flags.toNat : Int)] 27)).alloc (.cells #[.string ⟨B.key.toArray⟩, .int .i64 B.val.kind, .int .i64 B.val.time, .int .i64 B.val.node, .bool B.val.dead, .string ⟨B.val.text.toArray⟩, pb, mb, .int .u64 (B.val.flags.toNat : Int)] 27)).alloc (.cells #[.string ⟨#[]⟩, .int .i64 0, .int .i64 0, .int .i64 0, .bool false, .string ⟨#[]⟩, .slice none 0 0, .slice none 0 0, .int .u64 0] 27)) A B pa ma pb mb where
  hb := (((Below.refl _ w).alloc (Nat.le_refl _) _).alloc (by simp) _).alloc (by simp; omega) _
  a := ((Blk.new w 27 _ _ rfl).alloc _).alloc _
  b := (Blk.new (w.alloc (.cells #[.string ⟨A.key.toArray⟩, .int .i64 A.val.kind, .int .i64 A.val.time, .int .i64 A.val.node, .bool A.val.dead, .string ⟨A.val.text.toArray⟩, pa, ma, .int .u64 (A.val.flags.toNat : Int)] 27)) 27 _ _ (by simp)).alloc _
  r := Blk.new ((w.alloc (.cells #[.string ⟨A.key.toArray⟩, .int .i64 A.val.kind, .int .i64 A.val.time, .int .i64 A.val.node, .bool A.val.dead, .string ⟨A.val.text.toArray⟩, pa, ma, .int .u64 (A.val.flags.toNat : Int)] 27)).alloc (.cells #[.string ⟨B.key.toArray⟩, .int .i64 B.val.kind, .int .i64 B.val.time, .int .i64 B.val.node, .bool B.val.dead, .string ⟨B.val.text.toArray⟩, pb, mb, .int .u64 (B.val.flags.toNat : Int)] 27)) 27 _ _ (by simp)
/-- .. of an entry whose rows, if it has any, stand elsewhere. -/
theorem eset2 {B g : Nat} {w0 w : World} (E : En) (vp vm : Value) (hB : B ≤ g) (hb : Below B w0 w) {old : List Value} (hc : CellsN w g old) (h9 : old.length = 9) (hp : isCells (E.val.plus.map intC) vp w) (hm : isCells (E.val.minus.map intC) vm w) (np : E.val.plus ≠ [] → blk vp ≠ some g) (nm : E.val.minus ≠ [] → blk vm ≠ some g) :
    Kept (Below B w0 (setN w g 0 [.string ⟨E.key.toArray⟩, .int .i64 E.val.kind, .int .i64 E.val.time, .int .i64 E.val.node, .bool E.val.dead, .string ⟨E.val.text.toArray⟩, vp, vm, .int .u64 (E.val.flags.toNat : Int)])) ∧ Kept (CellsN (setN w g 0 [.string ⟨E.key.toArray⟩, .int .i64 E.val.kind, .int .i64 E.val.time, .int .i64 E.val.node, .bool E.val.dead, .string ⟨E.val.text.toArray⟩, vp, vm, .int .u64 (E.val.flags.toNat : Int)]) g [.string ⟨E.key.toArray⟩, .int .i64 E.val.kind, .int .i64 E.val.time, .int .i64 E.val.node, .bool E.val.dead, .string ⟨E.val.text.toArray⟩, vp, vm, .int .u64 (E.val.flags.toNat : Int)]) ∧ Kept (isCells (E.val.plus.map intC) vp (setN w g 0 [.string ⟨E.key.toArray⟩, .int .i64 E.val.kind, .int .i64 E.val.time, .int .i64 E.val.node, .bool E.val.dead, .string ⟨E.val.text.toArray⟩, vp, vm, .int .u64 (E.val.flags.toNat : Int)])) ∧ Kept (isCells (E.val.minus.map intC) vm (setN w g 0 [.string ⟨E.key.toArray⟩, .int .i64 E.val.kind, .int .i64 E.val.time, .int .i64 E.val.node, .bool E.val.dead, .string ⟨E.val.text.toArray⟩, vp, vm, .int .u64 (E.val.flags.toNat : Int)])) ∧ Kept (Ones [.string ⟨E.key.toArray⟩, .int .i64 E.val.kind, .int .i64 E.val.time, .int .i64 E.val.node, .bool E.val.dead, .string ⟨E.val.text.toArray⟩, vp, vm, .int .u64 (E.val.flags.toNat : Int)]) := by
  have ap : ∀ (v : Value) (l : List Int), (l ≠ [] → blk v ≠ some g) → ∀ b off cap, v = .slice (some ⟨b, off, none⟩) (l.map intC).length cap → l.map intC ≠ [] → b ≠ g := by
    rintro v l h b off cap rfl hne rfl
    exact h (fun e => hne (by rw [e]; rfl)) rfl
  exact ⟨⟨below_setN hB _ 0 _ hb⟩, ⟨hc.setN_ _ h9⟩, ⟨cells_apart hp (ap vp _ np) _ _⟩, ⟨cells_apart hm (ap vm _ nm) _ _⟩, ⟨⟨rfl, rfl, rfl, rfl, rfl, rfl, hp.one, hm.one, rfl, trivial⟩⟩⟩
set_option maxRecDepth 100000 in
set_option maxHeartbeats 4000000 in
theorem rejoin_any (A B : En) (v u : Value) (w : World) (hv : isEn A v w) (hu : isEn B u w) (hA : FitE A) (hF : FitE B) : Calls Tryz.prog 11 #[v, u] w fun e w' => ∃ v', e = .returned (.tuple #[v', .int .i64 (joinEE A B)]) ∧ isEn (joinEF A B) v' w' ∧ Below w.heap.size w w' := by
  obtain ⟨pa, ma, rfl, hpa, hma⟩ := hv
  obtain ⟨pb, mb, rfl, hpb, hmb⟩ := hu
  have HPA := Kept.mk hpa
  have HMA := Kept.mk hma
  have HPB := Kept.mk hpb
  have HMB := Kept.mk hmb
  clear hpa hma hpb hmb
  have J := Kept.mk (js3_new w A B pa ma pb mb)
  have hsz := J.out.r.lt
  have ka0 := J.out.a.cells.2 0 _ rfl
  have ka1 := J.out.a.cells.2 1 _ rfl
  have ka2 := J.out.a.cells.2 2 _ rfl
  have ka3 := J.out.a.cells.2 3 _ rfl
  have ka4 := J.out.a.cells.2 4 _ rfl
  have ka5 := J.out.a.cells.2 5 _ rfl
  have ka6 := J.out.a.cells.2 6 _ rfl
  have ka7 := J.out.a.cells.2 7 _ rfl
  have ka8 := J.out.a.cells.2 8 _ rfl
  go_enter Tryz.func11, Tryz.ntmps11
  go_wp2_with fail
  clear ka0 ka1 ka2 ka3 ka4 ka5 ka6 ka7 ka8
  generalize (((w.alloc (.cells #[.string ⟨A.key.toArray⟩, .int .i64 A.val.kind, .int .i64 A.val.time, .int .i64 A.val.node, .bool A.val.dead, .string ⟨A.val.text.toArray⟩, pa, ma, .int .u64 (A.val.flags.toNat : Int)] 27)).alloc (.cells #[.string ⟨B.key.toArray⟩, .int .i64 B.val.kind, .int .i64 B.val.time, .int .i64 B.val.node, .bool B.val.dead, .string ⟨B.val.text.toArray⟩, pb, mb, .int .u64 (B.val.flags.toNat : Int)] 27)).alloc (.cells #[.string ⟨#[]⟩, .int .i64 0, .int .i64 0, .int .i64 0, .bool false, .string ⟨#[]⟩, .slice none 0 0, .slice none 0 0, .int .u64 0] 27)) = W0 at *
  refine (rechk_any A _ W0 ⟨pa, ma, rfl, stable_cells _ _ _ _ HPA.out J.out.hb, stable_cells _ _ _ _ HMA.out J.out.hb⟩ hA).mono ?_
  rintro e W1 ⟨rfl, hb⟩
  replace J := Kept.mk (J.out.keep hb)
  clear hb
  cases oa : okE A with
  | false =>
    have HO := Kept.mk oa
    clear oa
    have KZ : Kept (Ones [.string ⟨#[]⟩, .int .i64 0, .int .i64 0, .int .i64 0, .bool false, .string ⟨#[]⟩, .slice none 0 0, .slice none 0 0, .int .u64 0]) := ⟨⟨rfl, rfl, rfl, rfl, rfl, rfl, rfl, rfl, rfl, trivial⟩⟩
    go_wp2_with (refine wpList_storeN 27 rfl (.tmp 4) (.tmp 16) rfl (w.heap.size + 1 + 1) [.string ⟨#[]⟩, .int .i64 0, .int .i64 0, .int .i64 0, .bool false, .string ⟨#[]⟩, .slice none 0 0, .slice none 0 0, .int .u64 0] size_en rfl rfl J.out.r.cells rfl J.out.r.free KZ.out ?_)
    have e1 : joinEE A B = 2 := by unfold joinEE; rw [HO.out]; rfl
    have e2 : joinEF A B = zeroE := by unfold joinEF; rw [e1]; rfl
    rw [e1, e2]
    exact bodyPost_ret (resultsN2 rfl _ _ (w.heap.size + 1 + 1) _ (.int .i64 2) size_en agg_en rfl rfl (J.out.r.all_ rfl).cells) rfl ⟨_, rfl, ⟨.slice none 0 0, .slice none 0 0, rfl, .inl ⟨rfl, rfl⟩, .inl ⟨rfl, rfl⟩⟩, below_setN (by omega) _ 0 _ J.out.hb⟩
  | true =>
    have P1 := Kept.mk oa
    clear oa
    have kb0 := J.out.b.cells.2 0 _ rfl
    have kb1 := J.out.b.cells.2 1 _ rfl
    have kb2 := J.out.b.cells.2 2 _ rfl
    have kb3 := J.out.b.cells.2 3 _ rfl
    have kb4 := J.out.b.cells.2 4 _ rfl
    have kb5 := J.out.b.cells.2 5 _ rfl
    have kb6 := J.out.b.cells.2 6 _ rfl
    have kb7 := J.out.b.cells.2 7 _ rfl
    have kb8 := J.out.b.cells.2 8 _ rfl
    go_wp2_with fail
    clear kb0 kb1 kb2 kb3 kb4 kb5 kb6 kb7 kb8
    refine (rechk_any B _ W1 ⟨pb, mb, rfl, stable_cells _ _ _ _ HPB.out J.out.hb, stable_cells _ _ _ _ HMB.out J.out.hb⟩ hF).mono ?_
    rintro e W2 ⟨rfl, hb⟩
    replace J := Kept.mk (J.out.keep hb)
    clear hb
    cases ob : okE B with
    | false =>
      have HO := Kept.mk ob
      clear ob
      have KZ : Kept (Ones [.string ⟨#[]⟩, .int .i64 0, .int .i64 0, .int .i64 0, .bool false, .string ⟨#[]⟩, .slice none 0 0, .slice none 0 0, .int .u64 0]) := ⟨⟨rfl, rfl, rfl, rfl, rfl, rfl, rfl, rfl, rfl, trivial⟩⟩
      go_wp2_with (refine wpList_storeN 27 rfl (.tmp 4) (.tmp 16) rfl (w.heap.size + 1 + 1) [.string ⟨#[]⟩, .int .i64 0, .int .i64 0, .int .i64 0, .bool false, .string ⟨#[]⟩, .slice none 0 0, .slice none 0 0, .int .u64 0] size_en rfl rfl J.out.r.cells rfl J.out.r.free KZ.out ?_)
      have e1 : joinEE A B = 2 := by unfold joinEE; rw [HO.out, Bool.and_false]; rfl
      have e2 : joinEF A B = zeroE := by unfold joinEF; rw [e1]; rfl
      rw [e1, e2]
      exact bodyPost_ret (resultsN2 rfl _ _ (w.heap.size + 1 + 1) _ (.int .i64 2) size_en agg_en rfl rfl (J.out.r.all_ rfl).cells) rfl ⟨_, rfl, ⟨.slice none 0 0, .slice none 0 0, rfl, .inl ⟨rfl, rfl⟩, .inl ⟨rfl, rfl⟩⟩, below_setN (by omega) _ 0 _ J.out.hb⟩
    | true =>
      have P2 := Kept.mk ob
      clear ob
      have ka0 := J.out.a.cells.2 0 _ rfl
      have ka1 := J.out.a.cells.2 1 _ rfl
      have ka2 := J.out.a.cells.2 2 _ rfl
      have ka3 := J.out.a.cells.2 3 _ rfl
      have ka4 := J.out.a.cells.2 4 _ rfl
      have ka5 := J.out.a.cells.2 5 _ rfl
      have ka6 := J.out.a.cells.2 6 _ rfl
      have ka7 := J.out.a.cells.2 7 _ rfl
      have ka8 := J.out.a.cells.2 8 _ rfl
      have kb0 := J.out.b.cells.2 0 _ rfl
      have kb1 := J.out.b.cells.2 1 _ rfl
      have kb2 := J.out.b.cells.2 2 _ rfl
      have kb3 := J.out.b.cells.2 3 _ rfl
      have kb4 := J.out.b.cells.2 4 _ rfl
      have kb5 := J.out.b.cells.2 5 _ rfl
      have kb6 := J.out.b.cells.2 6 _ rfl
      have kb7 := J.out.b.cells.2 7 _ rfl
      have kb8 := J.out.b.cells.2 8 _ rfl
      go_wp2_with fail
      clear ka0 ka1 ka2 ka3 ka4 ka5 ka6 ka7 ka8
      clear kb0 kb1 kb2 kb3 kb4 kb5 kb6 kb7 kb8
      refine (rname_any A B _ _ W2 ⟨pa, ma, rfl, stable_cells _ _ _ _ HPA.out J.out.hb, stable_cells _ _ _ _ HMA.out J.out.hb⟩ ⟨pb, mb, rfl, stable_cells _ _ _ _ HPB.out J.out.hb, stable_cells _ _ _ _ HMB.out J.out.hb⟩).mono ?_
      rintro e W3 ⟨rfl, hb⟩
      replace J := Kept.mk (J.out.keep hb)
      clear hb
      cases on : nameB A B with
      | false =>
        have HO := Kept.mk on
        clear on
        have KZ : Kept (Ones [.string ⟨#[]⟩, .int .i64 0, .int .i64 0, .int .i64 0, .bool false, .string ⟨#[]⟩, .slice none 0 0, .slice none 0 0, .int .u64 0]) := ⟨⟨rfl, rfl, rfl, rfl, rfl, rfl, rfl, rfl, rfl, trivial⟩⟩
        go_wp2_with (refine wpList_storeN 27 rfl (.tmp 4) (.tmp 21) rfl (w.heap.size + 1 + 1) [.string ⟨#[]⟩, .int .i64 0, .int .i64 0, .int .i64 0, .bool false, .string ⟨#[]⟩, .slice none 0 0, .slice none 0 0, .int .u64 0] size_en rfl rfl J.out.r.cells rfl J.out.r.free KZ.out ?_)
        have e1 : joinEE A B = 3 := by unfold joinEE; rw [P1.out, P2.out, HO.out]; rfl
        have e2 : joinEF A B = zeroE := by unfold joinEF; rw [e1]; rfl
        rw [e1, e2]
        exact bodyPost_ret (resultsN2 rfl _ _ (w.heap.size + 1 + 1) _ (.int .i64 3) size_en agg_en rfl rfl (J.out.r.all_ rfl).cells) rfl ⟨_, rfl, ⟨.slice none 0 0, .slice none 0 0, rfl, .inl ⟨rfl, rfl⟩, .inl ⟨rfl, rfl⟩⟩, below_setN (by omega) _ 0 _ J.out.hb⟩
      | true =>
        have HN := Kept.mk on
        clear on
        have hsz3 := J.out.r.lt
        have ka0 := J.out.a.cells.2 0 _ rfl
        have ka1 := J.out.a.cells.2 1 _ rfl
        have ka2 := J.out.a.cells.2 2 _ rfl
        have ka3 := J.out.a.cells.2 3 _ rfl
        have ka4 := J.out.a.cells.2 4 _ rfl
        have ka5 := J.out.a.cells.2 5 _ rfl
        have ka6 := J.out.a.cells.2 6 _ rfl
        have ka7 := J.out.a.cells.2 7 _ rfl
        have ka8 := J.out.a.cells.2 8 _ rfl
        have kb0 := J.out.b.cells.2 0 _ rfl
        have kb1 := J.out.b.cells.2 1 _ rfl
        have kb2 := J.out.b.cells.2 2 _ rfl
        have kb3 := J.out.b.cells.2 3 _ rfl
        have kb4 := J.out.b.cells.2 4 _ rfl
        have kb5 := J.out.b.cells.2 5 _ rfl
        have kb6 := J.out.b.cells.2 6 _ rfl
        have kb7 := J.out.b.cells.2 7 _ rfl
        have kb8 := J.out.b.cells.2 8 _ rfl
        go_wp2_with fail
        clear ka0 ka1 ka2 ka3 ka4 ka5 ka6 ka7 ka8
        clear kb0 kb1 kb2 kb3 kb4 kb5 kb6 kb7 kb8
        refine (rjoinR_any A.val B.val _ _ W3 ⟨pa, ma, rfl, stable_cells _ _ _ _ HPA.out J.out.hb, stable_cells _ _ _ _ HMA.out J.out.hb⟩ ⟨pb, mb, rfl, stable_cells _ _ _ _ HPB.out J.out.hb, stable_cells _ _ _ _ HMB.out J.out.hb⟩ hA.val hF.val).mono ?_
        rintro e U ⟨v', rfl, ⟨p', m', rfl, hp', hm', np, nm⟩, hb⟩
        replace J := Kept.mk (J.out.keep hb)
        clear hb
        obtain ⟨K1, K2, K3, K4, K5⟩ := vnew U (joinF A.val B.val) p' m' hp' hm' U.heap.size rfl
        have NP := Kept.mk np
        have NM := Kept.mk nm
        clear hp' hm' np nm
        generalize joinE A.val B.val = je
        go_wp2_with (first | (have hz0 := K1; refine wpList_storeN 25 rfl (.tmp 6) (.tmp 28) rfl U.heap.size [.int .i64 (joinF A.val B.val).kind, .int .i64 (joinF A.val B.val).time, .int .i64 (joinF A.val B.val).node, .bool (joinF A.val B.val).dead, .string ⟨(joinF A.val B.val).text.toArray⟩, p', m', .int .u64 ((joinF A.val B.val).flags.toNat : Int)] size_va rfl rfl K1.out rfl K2.out K5.out ?_; replace J := Kept.mk (J.out.keep K3.out); clear hz0 K1 K2 K3 K5; generalize setN (U.alloc (.cells #[.int .i64 0, .int .i64 0, .int .i64 0, .bool false, .string ⟨#[]⟩, .slice none 0 0, .slice none 0 0, .int .u64 0] 25)) U.heap.size 0 [.int .i64 (joinF A.val B.val).kind, .int .i64 (joinF A.val B.val).time, .int .i64 (joinF A.val B.val).node, .bool (joinF A.val B.val).dead, .string ⟨(joinF A.val B.val).text.toArray⟩, p', m', .int .u64 ((joinF A.val B.val).flags.toNat : Int)] = W4 at *; obtain ⟨Q1, Q2, Q3, Q4, Q5⟩ := eset2 (⟨A.key, joinF A.val B.val⟩ : En) p' m' (g := w.heap.size + 1 + 1) (B := w.heap.size) (by omega) J.out.hb J.out.r.cells rfl K4.out.2.1 K4.out.2.2 (fun h => (NP.out h).ne (by omega)) (fun h => (NM.out h).ne (by omega)); have ka0 := J.out.a.cells.2 0 _ rfl; have kg0 := K4.out.1.2 0 _ rfl; have kg1 := K4.out.1.2 1 _ rfl; have kg2 := K4.out.1.2 2 _ rfl; have kg3 := K4.out.1.2 3 _ rfl; have kg4 := K4.out.1.2 4 _ rfl; have kg5 := K4.out.1.2 5 _ rfl; have kg6 := K4.out.1.2 6 _ rfl; have kg7 := K4.out.1.2 7 _ rfl) | (have hz1 := Q5; refine wpList_storeN 27 rfl (.tmp 4) (.tmp 33) rfl (w.heap.size + 1 + 1) [.string ⟨A.key.toArray⟩, .int .i64 (joinF A.val B.val).kind, .int .i64 (joinF A.val B.val).time, .int .i64 (joinF A.val B.val).node, .bool (joinF A.val B.val).dead, .string ⟨(joinF A.val B.val).text.toArray⟩, p', m', .int .u64 ((joinF A.val B.val).flags.toNat : Int)] size_en rfl rfl J.out.r.cells rfl J.out.r.free Q5.out ?_; clear hz1 Q5))
        have e1 : joinEE A B = 0 := by unfold joinEE; rw [P1.out, P2.out, HN.out]; rfl
        have hk : A.val.kind = B.val.kind := by have := HN.out; unfold nameB at this; rw [Bool.and_eq_true, decide_eq_true_eq] at this; exact this.1
        have e3 : joinE A.val B.val = 0 := by
          have h1 := P1.out; have h2 := P2.out; unfold okE at h1 h2; rw [Bool.and_eq_true] at h1 h2; unfold joinE; rw [h1.2, h2.2, Bool.and_self, if_pos rfl, if_pos hk]
        have e2 : joinEF A B = ⟨A.key, joinF A.val B.val⟩ := by unfold joinEF joinF; rw [if_pos e1, if_pos e3]
        rw [e1, e2]
        exact bodyPost_ret (resultsN2 rfl _ _ (w.heap.size + 1 + 1) _ (.int .i64 0) size_en agg_en rfl rfl Q2.out) rfl ⟨_, rfl, ⟨p', m', rfl, Q3.out, Q4.out⟩, Q1.out⟩
end Go.Proofs.YtebjljiklacolaaGreat
end
section
namespace Go.Proofs.YtebjljiklacolaaGreat
open Go.RowKit
set_option linter.unusedVariables false
set_option linter.unusedSimpArgs false
attribute [local irreducible] setN

theorem ownsRow_block {w : World} {base : Nat} {e : TypeId} {z : Nat} {v : Value} {k : Nat} {xs : List Value} (h : w.ownsRow base e z v k xs) : ∀ j, v.ownBlock = some j → base ≤ j := by
  intro j hj
  obtain ⟨_, ⟨rfl, _⟩ | ⟨g, cap, cur, rfl, hb, _⟩⟩ := h
  · simp [Value.ownBlock] at hj
  · simp only [Value.ownBlock, Option.some.injEq] at hj
    omega
set_option maxHeartbeats 800000 in
theorem rget_any (s : List UInt8) (a wd : Nat) (w : World) (hs : s.length ≤ 1000) (h1 : 1 ≤ wd) (h7 : wd ≤ 7) (hf : a + wd ≤ s.length) :
    Calls Tryz.prog 58 #[.string ⟨s.toArray⟩, .int .i64 (a : Int), .int .i64 (wd : Int)] w fun e w' => e = .returned (.int .i64 (atN s a wd : Int)) ∧ w = w' := by
  have ev : getV ⟨s.toArray⟩ (a : Int) (wd : Int) = (atN s a wd : Int) := by
    unfold getV atN
    rw [if_pos ⟨by simp [isWidthB]; omega, by simp [okGet, ByteArray.size]; omega⟩]
    simp
  have HE := Kept.mk ev
  clear ev
  go_enter Tryz.func58, Tryz.ntmps58
  go_wp2_with fail
  refine (refGet_any s (a : Int) (wd : Int) w (by omega)).mono ?_
  rintro e w' ⟨rfl, rfl⟩
  rw [HE.out]
  generalize getE _ (a : Int) (wd : Int) = ge
  generalize hX : atN s a wd = x
  have HX := Kept.mk hX
  clear hX
  go_wp2
  go_ret
  exact ⟨by rw [HX.out]; rfl, rfl⟩
theorem call_rget (s : List UInt8) (a wd : Nat) (w : World) (hs : s.length ≤ 1000) (h1 : 1 ≤ wd) (h7 : wd ≤ 7) (hf : a + wd ≤ s.length) :
    Calls Tryz.prog 58 #[.string ⟨s.toArray⟩, .int .i64 (a : Int), .int .i64 (wd : Int)] w fun e w' => ∃ x, e = .returned x ∧ isVal (.int .i64 (atN s a wd : Int)) x w' ∧ Below w.heap.size w w' :=
  (rget_any s a wd w hs h1 h7 hf).mono (by rintro e w' ⟨rfl, rfl⟩; exact ⟨_, rfl, rfl, Below.refl _ _⟩)
theorem length_gets (s : List UInt8) (a : Nat) : ∀ k, (getsL s a k).length = k
  | 0 => rfl
  | k + 1 => by rw [getsL, List.length_append, length_gets s a k]; rfl
set_option maxRecDepth 100000 in
set_option maxHeartbeats 4000000 in
theorem rgets_any (s : List UInt8) (a : Nat) (w : World) (hs : s.length ≤ 1000) (ha : a + 16 ≤ s.length) :
    Calls Tryz.prog 59 #[.string ⟨s.toArray⟩, .int .i64 (a : Int)] w fun e w' => ∃ v', e = .returned v' ∧ isCells ((getsL s a 8).map intC) v' w' ∧ NewB w.heap.size v' ∧ Below w.heap.size w w' := by
  obtain ⟨i0, hi, hz0, hz1, hz2⟩ := info_parts Tryz.infoInt
  have hB : Below w.heap.size w w := Below.refl _ _
  go_enter Tryz.func59, Tryz.ntmps59
  go_wp2
  go_loopw [5, 6] (fun v i wr => ∃ k : Nat, k ≤ 8 ∧ i = .int .i64 (k : Int) ∧ Kept (wr.ownsRow w.heap.size 3 1 v (getsL s a k).length ((getsL s a k).map intC)) ∧ Below w.heap.size w wr) (fun _ i _ => 8 - (intOf i).toNat)
  case atStart => exact ⟨0, Nat.zero_le _, rfl, ⟨World.ownsRow_nil _ _ _ _⟩, hB⟩
  case round =>
    clear hB
    obtain ⟨k, hk, rfl, HO, hB⟩ := hrel
    have hlg := length_gets s a k
    by_cases hlt : k < 8
    · have d1 : decide ((k : Int) < 8) = true := by simp; omega
      have HT := Kept.mk (show getsL s a (k + 1) = getsL s a k ++ [(atN s (a + 2 * k) 2 : Int)] from rfl)
      generalize getsL s a k = rl at *
      go_wp2_with fail
      have e1 : (a : Int) + 2 * (k : Int) = ((a + 2 * k : Nat) : Int) := by omega
      rw [e1]
      clear e1
      refine (rget_any s (a + 2 * k) 2 _ hs (by omega) (by omega) (by omega)).mono ?_
      rintro e W9 ⟨rfl, rfl⟩
      generalize (atN s (a + 2 * k) 2) = x at *
      have HBS := Kept.mk (ownsRow_block HO.out)
      go_wp2_with (at_builtin; refine wpList_append_own _ rfl _ _ 22 rfl w.heap.size 3 i0 (.int .i64 0) 1 8 Tryz.underlying22 hi hz0 hz1 hz2 rfl (by decide) _ _ _ rfl (HO.out.alloc _) ⟨wr.heap.size, 0, none⟩ 1 1 [intC (x : Int)] rfl rfl (cell_one_new _ _ _) (by simp [Value.oneCell', intC]) (by unfold maxLen; omega) (by omega) (by have := hB.size; simp; omega) ?_; intro v' w1 hown' hgrow _)
      have hB1 : Below w.heap.size w w1 := ((hB.alloc (by have := hB.size; omega) _).grown hgrow (by have := hB.size; simp; omega) HBS.out)
      have HO1 := Kept.mk (show w1.ownsRow w.heap.size 3 1 v' (rl ++ [(x : Int)]).length ((rl ++ [(x : Int)]).map intC) by simpa using hown')
      clear hown' hgrow
      go_wp2
      go_roundw
      case rel => exact ⟨k + 1, by omega, by go_num, by rw [HT.out]; exact HO1, hB1⟩
      case measure => simp [intOf]; omega
    · have d1 : decide ((k : Int) < 8) = false := by simp; omega
      obtain rfl : k = 8 := by omega
      go_wp2
      go_ret
      exact ⟨_, rfl, isCells_own HO.out, (own_slice HO.out).1, hB⟩
end Go.Proofs.YtebjljiklacolaaGreat
end
