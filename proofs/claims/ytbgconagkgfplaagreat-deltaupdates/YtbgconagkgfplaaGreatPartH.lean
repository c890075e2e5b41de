/- Joined texts: contracts of the program's functions, and the mathematics that they lean on. -/
import Derived.Test.YtbgconagkgfplaaGreatPartG
section
namespace Go.Proofs.YtbgconagkgfplaaGreat
open Go.RowKit
set_option linter.unusedVariables false
set_option linter.unusedSimpArgs false
attribute [local irreducible] setN

theorem slots_snoc {m : List En} {x : En} : slotsB (m ++ [x]) = true ↔ slotsB m = true ∧ okE x = true ∧ ∀ y ∈ m, nameB x y = false := by
  unfold slotsB apartB
  simp only [Bool.and_eq_true, decide_eq_true_eq, List.all_append, List.all_cons, List.all_nil, Bool.and_true, List.pairwise_append, List.pairwise_cons, List.not_mem_nil, List.mem_singleton, List.Pairwise.nil]
  constructor
  · rintro ⟨⟨h1, h2⟩, h3, _, h4⟩; exact ⟨⟨h1, h3⟩, h2, fun y hy => h4 y hy x rfl⟩
  · rintro ⟨⟨h1, h3⟩, h2, h4⟩; exact ⟨⟨h1, h2⟩, h3, ⟨fun _ h => h.elim, trivial⟩, fun y hy b hb => by rw [hb]; exact h4 y hy⟩
theorem slots_bad {l : List En} {k : Nat} {x : En} (h : l[k]? = some x) (hx : okE x = false) : slotsB l = false := by
  unfold slotsB
  rw [show l.all okE = false by rw [List.all_eq_false]; exact ⟨x, List.mem_of_getElem? h, by rw [hx]; decide⟩]; rfl
theorem slots_twice {l : List En} {k j : Nat} {x y : En} (h : l[k]? = some x) (hj : l[j]? = some y) (hlt : j < k) (hn : nameB x y = true) : slotsB l = false := by
  unfold slotsB
  cases ha : apartB l with
  | false => simp
  | true => rw [apart_at ha h hj hlt] at hn; cases hn
theorem rechk_at (E : En) (r : Bool) (v : Value) (w : World) (hv : isEn E v w) (hF : FitE E) (hr : okE E = r) : Calls Tryz.prog 101 #[v] w fun e w' => e = .returned (.bool r) ∧ Below w.heap.size w w' := by subst hr; exact rechk_any E v w hv hF
set_option maxRecDepth 100000 in
set_option maxHeartbeats 2000000 in
theorem rslots_any (l : List En) (v : Value) (w : World) (hv : isEns l v w) (hl : l.length ≤ 1000) (fl : ∀ e ∈ l, FitE e) : Calls Tryz.prog 128 #[v] w fun e w' => e = .returned (.bool (slotsB l)) ∧ Below w.heap.size w w' := by
  obtain ⟨va, vc, rfl⟩ := hv.len
  have HV := Kept.mk hv
  have FL := Kept.mk fl
  clear hv fl
  obtain ⟨S, hS⟩ : ∃ S, slotsB l = S := ⟨_, rfl⟩
  rw [hS]
  have HS := Kept.mk hS
  clear hS
  generalize hn : l.length = n at *
  have HN := Kept.mk hn
  clear hn
  go_enter Tryz.func128, Tryz.ntmps128
  go_wp2
  go_loopw [3] (fun IV WZ => ∃ k : Nat, k ≤ n ∧ IV = .int .i64 (k : Int) ∧ Kept (slotsB (l.take k) = true) ∧ Kept (Below w.heap.size w WZ)) (fun IV _ => n - (intOf IV).toNat)
  case atStart => exact ⟨0, Nat.zero_le _, rfl, ⟨by rw [List.take_zero]; rfl⟩, ⟨Below.refl _ _⟩⟩
  case round =>
    obtain ⟨k, hk, rfl, A, B⟩ := hrel
    by_cases hlt : k < n
    · have hlt' : (k : Int) < (n : Int) := by omega
      obtain ⟨X, hX⟩ : ∃ X, l[k]? = some X := ⟨_, List.getElem?_eq_getElem (by rw [HN.out]; exact hlt)⟩
      have HX := Kept.mk hX
      rcases HV.out.cases_ with ⟨_, _, _, hnil⟩ | ⟨bs, os, cs, ea, hbs, hall⟩
      · rw [hnil] at hX; simp at hX
      · injection ea with ea1 ea2 ea3
        subst ea1 ea3
        have HALL := Kept.mk hall
        obtain ⟨xp, xm, hxc, hxp, hxm⟩ := hall k X hX
        have HXC := Kept.mk hxc
        have HXP := Kept.mk hxp
        have HXM := Kept.mk hxm
        have FX := Kept.mk (FL.out X (List.mem_of_getElem? hX))
        have kx0 : wr.cell? ⟨bs, os + k * 9, none⟩ = _ := (B.out.cell (p := ⟨bs, os + k * 9 + 0, none⟩) hbs).trans (hxc 0 _ rfl)
        have kx1 : wr.cell? ⟨bs, os + k * 9 + 1, none⟩ = _ := (B.out.cell (p := ⟨bs, os + k * 9 + 1, none⟩) hbs).trans (hxc 1 _ rfl)
        have kx2 : wr.cell? ⟨bs, os + k * 9 + 2, none⟩ = _ := (B.out.cell (p := ⟨bs, os + k * 9 + 2, none⟩) hbs).trans (hxc 2 _ rfl)
        have kx3 : wr.cell? ⟨bs, os + k * 9 + 3, none⟩ = _ := (B.out.cell (p := ⟨bs, os + k * 9 + 3, none⟩) hbs).trans (hxc 3 _ rfl)
        have kx4 : wr.cell? ⟨bs, os + k * 9 + 4, none⟩ = _ := (B.out.cell (p := ⟨bs, os + k * 9 + 4, none⟩) hbs).trans (hxc 4 _ rfl)
        have kx5 : wr.cell? ⟨bs, os + k * 9 + 5, none⟩ = _ := (B.out.cell (p := ⟨bs, os + k * 9 + 5, none⟩) hbs).trans (hxc 5 _ rfl)
        have kx6 : wr.cell? ⟨bs, os + k * 9 + 6, none⟩ = _ := (B.out.cell (p := ⟨bs, os + k * 9 + 6, none⟩) hbs).trans (hxc 6 _ rfl)
        have kx7 : wr.cell? ⟨bs, os + k * 9 + 7, none⟩ = _ := (B.out.cell (p := ⟨bs, os + k * 9 + 7, none⟩) hbs).trans (hxc 7 _ rfl)
        have kx8 : wr.cell? ⟨bs, os + k * 9 + 8, none⟩ = _ := (B.out.cell (p := ⟨bs, os + k * 9 + 8, none⟩) hbs).trans (hxc 8 _ rfl)
        obtain ⟨c, hc⟩ : ∃ c, okE X = c := ⟨_, rfl⟩
        have HC := Kept.mk hc
        clear hX hall hxc hxp hxm ea2 hc
        go_wp2_with fail
        refine (rechk_at X c _ _ (en_mk HXP.out HXM.out B.out) FX.out HC.out).mono ?_
        rintro e W1 ⟨rfl, hb⟩
        replace B := Kept.mk (B.out.trans (hb.mono B.out.size))
        clear hb kx0 kx1 kx2 kx3 kx4 kx5 kx6 kx7 kx8
        cases c with
        | false =>
          have HF := Kept.mk (show S = false by rw [← HS.out]; exact slots_bad HX.out HC.out)
          go_wp2
          go_ret
          exact ⟨by rw [HF.out]; rfl, B.out⟩
        | true =>
          go_wp2
          go_loopw [4] (fun JV WZ => ∃ j : Nat, j ≤ k ∧ JV = .int .i64 (j : Int) ∧ Kept (∀ m y, m < j → l[m]? = some y → nameB X y = false) ∧ Kept (Below w.heap.size w WZ)) (fun JV _ => k - (intOf JV).toNat)
          case atStart => exact ⟨0, Nat.zero_le _, rfl, ⟨fun m y h => absurd h (Nat.not_lt_zero _)⟩, B⟩
          case round =>
            clear B
            obtain ⟨j, hj, rfl, AJ, B⟩ := hrel
            by_cases hjk : j < k
            · have hjk' : (j : Int) < (k : Int) := by omega
              obtain ⟨Y, hY⟩ : ∃ Y, l[j]? = some Y := ⟨_, List.getElem?_eq_getElem (by rw [HN.out]; omega)⟩
              have HY := Kept.mk hY
              obtain ⟨yp, ym, hyc, hyp, hym⟩ := HALL.out j Y hY
              have HYC := Kept.mk hyc
              obtain ⟨z, hz⟩ : ∃ z, nameB X Y = z := ⟨_, rfl⟩
              have HZ := Kept.mk hz
              have hsw := B.out.size
              clear hY hyc hz
              go_wp2
              refine rsl1_region _ _ _ rfl k j n bs os vc z X Y xp xm yp ym rfl rfl rfl hlt (by omega) (by omega) (fun jj x hx => (B.out.cell (p := ⟨bs, os + k * 9 + jj, none⟩) hbs).trans (HXC.out jj x hx)) (fun jj x hx => (B.out.cell (p := ⟨bs, os + j * 9 + jj, none⟩) hbs).trans (HYC.out jj x hx)) (stable_cells _ _ _ _ HXP.out B.out) (stable_cells _ _ _ _ HXM.out B.out) (stable_cells _ _ _ _ hyp B.out) (stable_cells _ _ _ _ hym B.out) HZ.out ?_
              intro f9 W9 d30 hb9
              simp only [List.foldl_cons, List.foldl_nil, d30]
              generalize f9 22 = y22
              generalize f9 23 = y23
              generalize f9 24 = y24
              generalize f9 25 = y25
              generalize f9 26 = y26
              generalize f9 27 = y27
              generalize f9 28 = y28
              generalize f9 29 = y29
              clear d30
              simp only [List.setIfInBounds_toArray, List.set_cons_succ, List.set_cons_zero]
              replace B := Kept.mk (B.out.trans (hb9.mono hsw))
              clear hb9 hyp hym HYC
              cases z with
              | true =>
                have HF := Kept.mk (show S = false by rw [← HS.out]; exact slots_twice HX.out HY.out hjk HZ.out)
                go_wp2
                go_ret
                exact ⟨by rw [HF.out]; rfl, B.out⟩
              | false =>
                go_wp2
                go_roundw
                case rel =>
                  refine ⟨j + 1, by omega, by go_num, ⟨fun m y hm hy => ?_⟩, B⟩
                  by_cases e : m = j
                  · subst e; rw [HY.out] at hy; injection hy with hy; rw [← hy]; exact HZ.out
                  · exact AJ.out m y (by omega) hy
                case measure => simp [intOf]; omega
            · have hjk' : ¬ (j : Int) < (k : Int) := by omega
              go_wp2
              go_roundw
              case rel =>
                refine ⟨k + 1, by omega, by go_num, ⟨?_⟩, B⟩
                rw [List.take_add_one, HX.out]
                refine slots_snoc.2 ⟨A.out, HC.out, fun y hy => ?_⟩
                obtain ⟨m, hm⟩ := List.getElem?_of_mem hy
                have hmk : m < k := by have := (List.getElem?_eq_some_iff.1 hm).1; rw [List.length_take] at this; omega
                rw [List.getElem?_take_of_lt hmk] at hm
                exact AJ.out m y (by omega) hm
              case measure => simp [intOf]; omega
    · have hlt' : ¬ (k : Int) < (n : Int) := by omega
      have HF := Kept.mk (show S = true by rw [← HS.out, ← A.out, List.take_of_length_le (by rw [HN.out]; omega)])
      go_wp2
      go_ret
      exact ⟨by rw [HF.out]; rfl, B.out⟩
theorem call_vb {f : FuncId} {vs : Array Value} {w : World} {r : Value} (h : Calls Tryz.prog f vs w fun e w' => e = .returned r ∧ Below w.heap.size w w') : Calls Tryz.prog f vs w fun e w' => ∃ x, e = .returned x ∧ isVal r x w' ∧ Below w.heap.size w w' := h.mono (by rintro e w' ⟨rfl, hb⟩; exact ⟨_, rfl, rfl, hb⟩)
theorem rslots_at (l : List En) (r : Bool) (v : Value) (w : World) (hv : isEns l v w) (hl : l.length ≤ 1000) (fl : ∀ e ∈ l, FitE e) (hr : slotsB l = r) : Calls Tryz.prog 128 #[v] w fun e w' => e = .returned (.bool r) ∧ Below w.heap.size w w' := by subst hr; exact rslots_any l v w hv hl fl
theorem rindex_pred (l : List En) (v : Value) (w : World) (hv : isEns l v w) (hl : l.length ≤ 1000) : Calls Tryz.prog 102 #[v] w fun e w' => ∃ x, e = .returned x ∧ isCells ((idxM l).map intC) x w' ∧ Below w.heap.size w w' :=
  (rindex_post l v w hv hl).mono (by rintro e w' ⟨v', rfl, h1, hb⟩; exact ⟨_, rfl, h1.cells, hb⟩)
theorem rints_at (a b : List Int) (r : Bool) (v u : Value) (w : World) (hv : isCells (a.map intC) v w) (hu : isCells (b.map intC) u w) (ha : a.length ≤ 100000) (hb : b.length ≤ 100000) (hr : decide (a = b) = r) : Calls Tryz.prog 51 #[v, u] w fun e w' => e = .returned (.bool r) ∧ Below w.heap.size w w' := by subst hr; exact refInts_any a b v u w hv hu (by omega) (by omega)
theorem geq_int {P : Program} (t : TypeId) (k : IntKind) (x y : Int) (b : Bool) (h : decide (y ≤ x) = b) (w : World) : (binOp .geq t (.int k x) (.int k y)).run P w = .ok (.bool b) w := by subst h; simp [go_sem]
theorem leq_int {P : Program} (t : TypeId) (k : IntKind) (x y : Int) (b : Bool) (h : decide (x ≤ y) = b) (w : World) : (binOp .leq t (.int k x) (.int k y)).run P w = .ok (.bool b) w := by subst h; simp [go_sem]
noncomputable def rck0Ops : Array Oper := regionOf Tryz.f100 1
set_option maxRecDepth 100000 in
set_option maxHeartbeats 2000000 in
theorem rck0_region (Q : Exit → Act → World → Prop) (a0 : Act) (w0 : World) (hsz : a0.tmps.size = 32) (g n sc : Nat) (c : Int) (sa : Option Addr) (vi : Value) (L : List En) (idx : List Int) (z : Bool) (e1 : a0.tmps.getD 1 undef = .pointer (some ⟨g, 0, none⟩)) (HG : CellsN w0 g [.int .i64 c, .slice sa n sc, vi]) (hs : isEns L (.slice sa n sc) w0) (hi : isCells (idx.map intC) vi w0) (hL : L.length ≤ 1000) (hI : idx.length ≤ 100000) (fL : ∀ e ∈ L, FitE e) (h1 : decide (1 ≤ c) = false)
    (hQ : ∀ (g : Nat → Value) (w : World), g 2 = .bool false → Below w0.heap.size w0 w → Q .normal { tmps := [3, 4, 5, 6, 7, 8, 9, 10, 11, 12, 13, 14, 15, 16, 17, 18, 19, 20, 21, 22, 23, 24, 25, 26, 27, 28, 29, 30, 31, 2].foldl (fun t s => t.setIfInBounds s (g s)) a0.tmps, defers := a0.defers } w) :
    (Code.region 1 rck0Ops true).wp Tryz.prog Q a0 w0 := by
  refine wp_region_flow mixed (by rw [hsz]; kernel_rfl) ?_
  rw [show rck0Ops.size = 30 by kernel_rfl]
  refine ⟨isVal (.pointer (some ⟨g, 0, none⟩)), step_field 25 (.tmp 1) 0 ⟨g, 0, none⟩ ⟨g, 0, none⟩ (by kernel_rfl) (wanted_none (by kernel_rfl)) (knows_old 1 (.pointer (some ⟨g, 0, none⟩)) (by kernel_rfl) e1) (f_ar_0_0 (g)), ?_⟩
  refine ⟨isVal (.int .i64 c), step_read 3 (.tmp 3) ⟨g, 0, none⟩ (.int .i64 c) (by kernel_rfl) (wanted_none (by kernel_rfl)) (knows_new (V := isVal (.pointer (some ⟨g, 0, none⟩))) 3 0 (by kernel_rfl) (by kernel_rfl) (by kernel_rfl)) (HG.2 0 _ rfl) (HG.1) (agg_noZ), ?_⟩
  refine ⟨isVal (.bool false), step_bin .geq 3 3 (.tmp 4) (.const (.int .i64 1)) (.int .i64 c) (.int .i64 1) (.bool false) (by kernel_rfl) (wanted_none (by kernel_rfl)) (knows_new (V := isVal (.int .i64 c)) 4 1 (by kernel_rfl) (by kernel_rfl) (by kernel_rfl)) (knows_const _) (fun _ => rfl) (geq_int _ _ _ _ _ h1), ?_⟩
  refine ⟨isVal (.bool false), step_move (.tmp 5) (by kernel_rfl) (wanted_none (by kernel_rfl)) (stable_val _) (knows_new (V := isVal (.bool false)) 5 2 (by kernel_rfl) (by kernel_rfl) (by kernel_rfl)), ?_⟩
  refine ⟨_, step_skip 3 6 true false (by kernel_rfl) (by kernel_rfl) (by kernel_rfl) (by kernel_rfl) rfl, ?_⟩
  refine ⟨_, step_skip 3 6 true false (by kernel_rfl) (by kernel_rfl) (by kernel_rfl) (by kernel_rfl) rfl, ?_⟩
  refine ⟨_, step_skip 3 6 true false (by kernel_rfl) (by kernel_rfl) (by kernel_rfl) (by kernel_rfl) rfl, ?_⟩
  refine ⟨isVal (.bool false), step_pick (.tmp 6) (.tmp 9) (.const (.bool false)) false (by kernel_rfl) (wanted_none (by kernel_rfl)) (stable_val _) (knows_new (V := isVal (.bool false)) 6 3 (by kernel_rfl) (by kernel_rfl) (by kernel_rfl)) (knows_const _), ?_⟩
  refine ⟨isVal (.bool false), step_move (.tmp 10) (by kernel_rfl) (wanted_none (by kernel_rfl)) (stable_val _) (knows_new (V := isVal (.bool false)) 10 7 (by kernel_rfl) (by kernel_rfl) (by kernel_rfl)), ?_⟩
  refine ⟨_, step_skip 8 11 true false (by kernel_rfl) (by kernel_rfl) (by kernel_rfl) (by kernel_rfl) rfl, ?_⟩
  refine ⟨_, step_skip 8 11 true false (by kernel_rfl) (by kernel_rfl) (by kernel_rfl) (by kernel_rfl) rfl, ?_⟩
  refine ⟨_, step_skip 8 11 true false (by kernel_rfl) (by kernel_rfl) (by kernel_rfl) (by kernel_rfl) rfl, ?_⟩
  refine ⟨_, step_skip 8 11 true false (by kernel_rfl) (by kernel_rfl) (by kernel_rfl) (by kernel_rfl) rfl, ?_⟩
  refine ⟨_, step_skip 8 11 true false (by kernel_rfl) (by kernel_rfl) (by kernel_rfl) (by kernel_rfl) rfl, ?_⟩
  refine ⟨_, step_skip 8 11 true false (by kernel_rfl) (by kernel_rfl) (by kernel_rfl) (by kernel_rfl) rfl, ?_⟩
  refine ⟨isVal (.bool false), step_pick (.tmp 11) (.tmp 17) (.const (.bool false)) false (by kernel_rfl) (wanted_none (by kernel_rfl)) (stable_val _) (knows_new (V := isVal (.bool false)) 11 8 (by kernel_rfl) (by kernel_rfl) (by kernel_rfl)) (knows_const _), ?_⟩
  refine ⟨isVal (.bool false), step_move (.tmp 18) (by kernel_rfl) (wanted_none (by kernel_rfl)) (stable_val _) (knows_new (V := isVal (.bool false)) 18 15 (by kernel_rfl) (by kernel_rfl) (by kernel_rfl)), ?_⟩
  refine ⟨_, step_skip 16 19 true false (by kernel_rfl) (by kernel_rfl) (by kernel_rfl) (by kernel_rfl) rfl, ?_⟩
  refine ⟨_, step_skip 16 19 true false (by kernel_rfl) (by kernel_rfl) (by kernel_rfl) (by kernel_rfl) rfl, ?_⟩
  refine ⟨_, step_skip 16 19 true false (by kernel_rfl) (by kernel_rfl) (by kernel_rfl) (by kernel_rfl) rfl, ?_⟩
  refine ⟨isVal (.bool false), step_pick (.tmp 19) (.tmp 22) (.const (.bool false)) false (by kernel_rfl) (wanted_none (by kernel_rfl)) (stable_val _) (knows_new (V := isVal (.bool false)) 19 16 (by kernel_rfl) (by kernel_rfl) (by kernel_rfl)) (knows_const _), ?_⟩
  refine ⟨isVal (.bool false), step_move (.tmp 23) (by kernel_rfl) (wanted_none (by kernel_rfl)) (stable_val _) (knows_new (V := isVal (.bool false)) 23 20 (by kernel_rfl) (by kernel_rfl) (by kernel_rfl)), ?_⟩
  refine ⟨_, step_skip 21 24 true false (by kernel_rfl) (by kernel_rfl) (by kernel_rfl) (by kernel_rfl) rfl, ?_⟩
  refine ⟨_, step_skip 21 24 true false (by kernel_rfl) (by kernel_rfl) (by kernel_rfl) (by kernel_rfl) rfl, ?_⟩
  refine ⟨_, step_skip 21 24 true false (by kernel_rfl) (by kernel_rfl) (by kernel_rfl) (by kernel_rfl) rfl, ?_⟩
  refine ⟨_, step_skip 21 24 true false (by kernel_rfl) (by kernel_rfl) (by kernel_rfl) (by kernel_rfl) rfl, ?_⟩
  refine ⟨_, step_skip 21 24 true false (by kernel_rfl) (by kernel_rfl) (by kernel_rfl) (by kernel_rfl) rfl, ?_⟩
  refine ⟨_, step_skip 21 24 true false (by kernel_rfl) (by kernel_rfl) (by kernel_rfl) (by kernel_rfl) rfl, ?_⟩
  refine ⟨isVal (.bool false), step_pick (.tmp 24) (.tmp 30) (.const (.bool false)) false (by kernel_rfl) (wanted_none (by kernel_rfl)) (stable_val _) (knows_new (V := isVal (.bool false)) 24 21 (by kernel_rfl) (by kernel_rfl) (by kernel_rfl)) (knows_const _), ?_⟩
  refine ⟨isVal (.bool false), step_assign (.tmp 31) (by kernel_rfl) (wanted_none (by kernel_rfl)) (stable_val _) (knows_new (V := isVal (.bool false)) 31 28 (by kernel_rfl) (by kernel_rfl) (by kernel_rfl)), ?_⟩
  intro a w hkp hb hd
  rw [kept_of hkp [some 3, some 4, some 5, some 6, some 7, some 8, some 9, some 10, some 11, some 12, some 13, some 14, some 15, some 16, some 17, some 18, some 19, some 20, some 21, some 22, some 23, some 24, some 25, some 26, some 27, some 28, some 29, some 30, some 31, some 2] [3, 4, 5, 6, 7, 8, 9, 10, 11, 12, 13, 14, 15, 16, 17, 18, 19, 20, 21, 22, 23, 24, 25, 26, 27, 28, 29, 30, 31, 2] (by kernel_rfl) (by decide)]
  have d2 := fdone_of (hd 29 (by rw [show rck0Ops.size = 30 by kernel_rfl]; decide)) (t := 2) (V := isVal (.bool false)) (by kernel_rfl) (by kernel_rfl)
  exact hQ (fun s => a.tmps.getD s undef) w d2 hb
noncomputable def rck1Ops : Array Oper := regionOf Tryz.f100 1
set_option maxRecDepth 100000 in
set_option maxHeartbeats 2000000 in
theorem rck1_region (Q : Exit → Act → World → Prop) (a0 : Act) (w0 : World) (hsz : a0.tmps.size = 32) (g n sc : Nat) (c : Int) (sa : Option Addr) (vi : Value) (L : List En) (idx : List Int) (z : Bool) (e1 : a0.tmps.getD 1 undef = .pointer (some ⟨g, 0, none⟩)) (HG : CellsN w0 g [.int .i64 c, .slice sa n sc, vi]) (hs : isEns L (.slice sa n sc) w0) (hi : isCells (idx.map intC) vi w0) (hL : L.length ≤ 1000) (hI : idx.length ≤ 100000) (fL : ∀ e ∈ L, FitE e) (h1 : decide (1 ≤ c) = true) (h2 : decide (c ≤ 8) = false)
    (hQ : ∀ (g : Nat → Value) (w : World), g 2 = .bool false → Below w0.heap.size w0 w → Q .normal { tmps := [3, 4, 5, 6, 7, 8, 9, 10, 11, 12, 13, 14, 15, 16, 17, 18, 19, 20, 21, 22, 23, 24, 25, 26, 27, 28, 29, 30, 31, 2].foldl (fun t s => t.setIfInBounds s (g s)) a0.tmps, defers := a0.defers } w) :
    (Code.region 1 rck1Ops true).wp Tryz.prog Q a0 w0 := by
  refine wp_region_flow mixed (by rw [hsz]; kernel_rfl) ?_
  rw [show rck1Ops.size = 30 by kernel_rfl]
  refine ⟨isVal (.pointer (some ⟨g, 0, none⟩)), step_field 25 (.tmp 1) 0 ⟨g, 0, none⟩ ⟨g, 0, none⟩ (by kernel_rfl) (wanted_none (by kernel_rfl)) (knows_old 1 (.pointer (some ⟨g, 0, none⟩)) (by kernel_rfl) e1) (f_ar_0_0 (g)), ?_⟩
  refine ⟨isVal (.int .i64 c), step_read 3 (.tmp 3) ⟨g, 0, none⟩ (.int .i64 c) (by kernel_rfl) (wanted_none (by kernel_rfl)) (knows_new (V := isVal (.pointer (some ⟨g, 0, none⟩))) 3 0 (by kernel_rfl) (by kernel_rfl) (by kernel_rfl)) (HG.2 0 _ rfl) (HG.1) (agg_noZ), ?_⟩
  refine ⟨isVal (.bool true), step_bin .geq 3 3 (.tmp 4) (.const (.int .i64 1)) (.int .i64 c) (.int .i64 1) (.bool true) (by kernel_rfl) (wanted_none (by kernel_rfl)) (knows_new (V := isVal (.int .i64 c)) 4 1 (by kernel_rfl) (by kernel_rfl) (by kernel_rfl)) (knows_const _) (fun _ => rfl) (geq_int _ _ _ _ _ h1), ?_⟩
  refine ⟨isVal (.bool true), step_move (.tmp 5) (by kernel_rfl) (wanted_none (by kernel_rfl)) (stable_val _) (knows_new (V := isVal (.bool true)) 5 2 (by kernel_rfl) (by kernel_rfl) (by kernel_rfl)), ?_⟩
  refine ⟨isVal (.pointer (some ⟨g, 0, none⟩)), step_field 25 (.tmp 1) 0 ⟨g, 0, none⟩ ⟨g, 0, none⟩ (by kernel_rfl) (wanted_some 3 6 true (by kernel_rfl) (by kernel_rfl) (by kernel_rfl) (by kernel_rfl)) (knows_old 1 (.pointer (some ⟨g, 0, none⟩)) (by kernel_rfl) e1) (f_ar_0_0 (g)), ?_⟩
  refine ⟨isVal (.int .i64 c), step_read 3 (.tmp 7) ⟨g, 0, none⟩ (.int .i64 c) (by kernel_rfl) (wanted_some 3 6 true (by kernel_rfl) (by kernel_rfl) (by kernel_rfl) (by kernel_rfl)) (knows_new (V := isVal (.pointer (some ⟨g, 0, none⟩))) 7 4 (by kernel_rfl) (by kernel_rfl) (by kernel_rfl)) (HG.2 0 _ rfl) (HG.1) (agg_noZ), ?_⟩
  refine ⟨isVal (.bool false), step_bin .leq 3 3 (.tmp 8) (.const (.int .i64 8)) (.int .i64 c) (.int .i64 8) (.bool false) (by kernel_rfl) (wanted_some 3 6 true (by kernel_rfl) (by kernel_rfl) (by kernel_rfl) (by kernel_rfl)) (knows_new (V := isVal (.int .i64 c)) 8 5 (by kernel_rfl) (by kernel_rfl) (by kernel_rfl)) (knows_const _) (fun _ => rfl) (leq_int _ _ _ _ _ h2), ?_⟩
  refine ⟨isVal (.bool false), step_pick (.tmp 6) (.tmp 9) (.const (.bool false)) true (by kernel_rfl) (wanted_none (by kernel_rfl)) (stable_val _) (knows_new (V := isVal (.bool true)) 6 3 (by kernel_rfl) (by kernel_rfl) (by kernel_rfl)) (knows_new (V := isVal (.bool false)) 9 6 (by kernel_rfl) (by kernel_rfl) (by kernel_rfl)), ?_⟩
  refine ⟨isVal (.bool false), step_move (.tmp 10) (by kernel_rfl) (wanted_none (by kernel_rfl)) (stable_val _) (knows_new (V := isVal (.bool false)) 10 7 (by kernel_rfl) (by kernel_rfl) (by kernel_rfl)), ?_⟩
  refine ⟨_, step_skip 8 11 true false (by kernel_rfl) (by kernel_rfl) (by kernel_rfl) (by kernel_rfl) rfl, ?_⟩
  refine ⟨_, step_skip 8 11 true false (by kernel_rfl) (by kernel_rfl) (by kernel_rfl) (by kernel_rfl) rfl, ?_⟩
  refine ⟨_, step_skip 8 11 true false (by kernel_rfl) (by kernel_rfl) (by kernel_rfl) (by kernel_rfl) rfl, ?_⟩
  refine ⟨_, step_skip 8 11 true false (by kernel_rfl) (by kernel_rfl) (by kernel_rfl) (by kernel_rfl) rfl, ?_⟩
  refine ⟨_, step_skip 8 11 true false (by kernel_rfl) (by kernel_rfl) (by kernel_rfl) (by kernel_rfl) rfl, ?_⟩
  refine ⟨_, step_skip 8 11 true false (by kernel_rfl) (by kernel_rfl) (by kernel_rfl) (by kernel_rfl) rfl, ?_⟩
  refine ⟨isVal (.bool false), step_pick (.tmp 11) (.tmp 17) (.const (.bool false)) false (by kernel_rfl) (wanted_none (by kernel_rfl)) (stable_val _) (knows_new (V := isVal (.bool false)) 11 8 (by kernel_rfl) (by kernel_rfl) (by kernel_rfl)) (knows_const _), ?_⟩
  refine ⟨isVal (.bool false), step_move (.tmp 18) (by kernel_rfl) (wanted_none (by kernel_rfl)) (stable_val _) (knows_new (V := isVal (.bool false)) 18 15 (by kernel_rfl) (by kernel_rfl) (by kernel_rfl)), ?_⟩
  refine ⟨_, step_skip 16 19 true false (by kernel_rfl) (by kernel_rfl) (by kernel_rfl) (by kernel_rfl) rfl, ?_⟩
  refine ⟨_, step_skip 16 19 true false (by kernel_rfl) (by kernel_rfl) (by kernel_rfl) (by kernel_rfl) rfl, ?_⟩
  refine ⟨_, step_skip 16 19 true false (by kernel_rfl) (by kernel_rfl) (by kernel_rfl) (by kernel_rfl) rfl, ?_⟩
  refine ⟨isVal (.bool false), step_pick (.tmp 19) (.tmp 22) (.const (.bool false)) false (by kernel_rfl) (wanted_none (by kernel_rfl)) (stable_val _) (knows_new (V := isVal (.bool false)) 19 16 (by kernel_rfl) (by kernel_rfl) (by kernel_rfl)) (knows_const _), ?_⟩
  refine ⟨isVal (.bool false), step_move (.tmp 23) (by kernel_rfl) (wanted_none (by kernel_rfl)) (stable_val _) (knows_new (V := isVal (.bool false)) 23 20 (by kernel_rfl) (by kernel_rfl) (by kernel_rfl)), ?_⟩
  refine ⟨_, step_skip 21 24 true false (by kernel_rfl) (by kernel_rfl) (by kernel_rfl) (by kernel_rfl) rfl, ?_⟩
  refine ⟨_, step_skip 21 24 true false (by kernel_rfl) (by kernel_rfl) (by kernel_rfl) (by kernel_rfl) rfl, ?_⟩
  refine ⟨_, step_skip 21 24 true false (by kernel_rfl) (by kernel_rfl) (by kernel_rfl) (by kernel_rfl) rfl, ?_⟩
  refine ⟨_, step_skip 21 24 true false (by kernel_rfl) (by kernel_rfl) (by kernel_rfl) (by kernel_rfl) rfl, ?_⟩
  refine ⟨_, step_skip 21 24 true false (by kernel_rfl) (by kernel_rfl) (by kernel_rfl) (by kernel_rfl) rfl, ?_⟩
  refine ⟨_, step_skip 21 24 true false (by kernel_rfl) (by kernel_rfl) (by kernel_rfl) (by kernel_rfl) rfl, ?_⟩
  refine ⟨isVal (.bool false), step_pick (.tmp 24) (.tmp 30) (.const (.bool false)) false (by kernel_rfl) (wanted_none (by kernel_rfl)) (stable_val _) (knows_new (V := isVal (.bool false)) 24 21 (by kernel_rfl) (by kernel_rfl) (by kernel_rfl)) (knows_const _), ?_⟩
  refine ⟨isVal (.bool false), step_assign (.tmp 31) (by kernel_rfl) (wanted_none (by kernel_rfl)) (stable_val _) (knows_new (V := isVal (.bool false)) 31 28 (by kernel_rfl) (by kernel_rfl) (by kernel_rfl)), ?_⟩
  intro a w hkp hb hd
  rw [kept_of hkp [some 3, some 4, some 5, some 6, some 7, some 8, some 9, some 10, some 11, some 12, some 13, some 14, some 15, some 16, some 17, some 18, some 19, some 20, some 21, some 22, some 23, some 24, some 25, some 26, some 27, some 28, some 29, some 30, some 31, some 2] [3, 4, 5, 6, 7, 8, 9, 10, 11, 12, 13, 14, 15, 16, 17, 18, 19, 20, 21, 22, 23, 24, 25, 26, 27, 28, 29, 30, 31, 2] (by kernel_rfl) (by decide)]
  have d2 := fdone_of (hd 29 (by rw [show rck1Ops.size = 30 by kernel_rfl]; decide)) (t := 2) (V := isVal (.bool false)) (by kernel_rfl) (by kernel_rfl)
  exact hQ (fun s => a.tmps.getD s undef) w d2 hb
noncomputable def rck2Ops : Array Oper := regionOf Tryz.f100 1
set_option maxRecDepth 100000 in
set_option maxHeartbeats 2000000 in
theorem rck2_region (Q : Exit → Act → World → Prop) (a0 : Act) (w0 : World) (hsz : a0.tmps.size = 32) (g n sc : Nat) (c : Int) (sa : Option Addr) (vi : Value) (L : List En) (idx : List Int) (z : Bool) (e1 : a0.tmps.getD 1 undef = .pointer (some ⟨g, 0, none⟩)) (HG : CellsN w0 g [.int .i64 c, .slice sa n sc, vi]) (hs : isEns L (.slice sa n sc) w0) (hi : isCells (idx.map intC) vi w0) (hL : L.length ≤ 1000) (hI : idx.length ≤ 100000) (fL : ∀ e ∈ L, FitE e) (h1 : decide (1 ≤ c) = true) (h2 : decide (c ≤ 8) = true) (h3 : decide ((n : Int) ≤ c) = false)
    (hQ : ∀ (g : Nat → Value) (w : World), g 2 = .bool false → Below w0.heap.size w0 w → Q .normal { tmps := [3, 4, 5, 6, 7, 8, 9, 10, 11, 12, 13, 14, 15, 16, 17, 18, 19, 20, 21, 22, 23, 24, 25, 26, 27, 28, 29, 30, 31, 2].foldl (fun t s => t.setIfInBounds s (g s)) a0.tmps, defers := a0.defers } w) :
    (Code.region 1 rck2Ops true).wp Tryz.prog Q a0 w0 := by
  refine wp_region_flow mixed (by rw [hsz]; kernel_rfl) ?_
  rw [show rck2Ops.size = 30 by kernel_rfl]
  refine ⟨isVal (.pointer (some ⟨g, 0, none⟩)), step_field 25 (.tmp 1) 0 ⟨g, 0, none⟩ ⟨g, 0, none⟩ (by kernel_rfl) (wanted_none (by kernel_rfl)) (knows_old 1 (.pointer (some ⟨g, 0, none⟩)) (by kernel_rfl) e1) (f_ar_0_0 (g)), ?_⟩
  refine ⟨isVal (.int .i64 c), step_read 3 (.tmp 3) ⟨g, 0, none⟩ (.int .i64 c) (by kernel_rfl) (wanted_none (by kernel_rfl)) (knows_new (V := isVal (.pointer (some ⟨g, 0, none⟩))) 3 0 (by kernel_rfl) (by kernel_rfl) (by kernel_rfl)) (HG.2 0 _ rfl) (HG.1) (agg_noZ), ?_⟩
  refine ⟨isVal (.bool true), step_bin .geq 3 3 (.tmp 4) (.const (.int .i64 1)) (.int .i64 c) (.int .i64 1) (.bool true) (by kernel_rfl) (wanted_none (by kernel_rfl)) (knows_new (V := isVal (.int .i64 c)) 4 1 (by kernel_rfl) (by kernel_rfl) (by kernel_rfl)) (knows_const _) (fun _ => rfl) (geq_int _ _ _ _ _ h1), ?_⟩
  refine ⟨isVal (.bool true), step_move (.tmp 5) (by kernel_rfl) (wanted_none (by kernel_rfl)) (stable_val _) (knows_new (V := isVal (.bool true)) 5 2 (by kernel_rfl) (by kernel_rfl) (by kernel_rfl)), ?_⟩
  refine ⟨isVal (.pointer (some ⟨g, 0, none⟩)), step_field 25 (.tmp 1) 0 ⟨g, 0, none⟩ ⟨g, 0, none⟩ (by kernel_rfl) (wanted_some 3 6 true (by kernel_rfl) (by kernel_rfl) (by kernel_rfl) (by kernel_rfl)) (knows_old 1 (.pointer (some ⟨g, 0, none⟩)) (by kernel_rfl) e1) (f_ar_0_0 (g)), ?_⟩
  refine ⟨isVal (.int .i64 c), step_read 3 (.tmp 7) ⟨g, 0, none⟩ (.int .i64 c) (by kernel_rfl) (wanted_some 3 6 true (by kernel_rfl) (by kernel_rfl) (by kernel_rfl) (by kernel_rfl)) (knows_new (V := isVal (.pointer (some ⟨g, 0, none⟩))) 7 4 (by kernel_rfl) (by kernel_rfl) (by kernel_rfl)) (HG.2 0 _ rfl) (HG.1) (agg_noZ), ?_⟩
  refine ⟨isVal (.bool true), step_bin .leq 3 3 (.tmp 8) (.const (.int .i64 8)) (.int .i64 c) (.int .i64 8) (.bool true) (by kernel_rfl) (wanted_some 3 6 true (by kernel_rfl) (by kernel_rfl) (by kernel_rfl) (by kernel_rfl)) (knows_new (V := isVal (.int .i64 c)) 8 5 (by kernel_rfl) (by kernel_rfl) (by kernel_rfl)) (knows_const _) (fun _ => rfl) (leq_int _ _ _ _ _ h2), ?_⟩
  refine ⟨isVal (.bool true), step_pick (.tmp 6) (.tmp 9) (.const (.bool false)) true (by kernel_rfl) (wanted_none (by kernel_rfl)) (stable_val _) (knows_new (V := isVal (.bool true)) 6 3 (by kernel_rfl) (by kernel_rfl) (by kernel_rfl)) (knows_new (V := isVal (.bool true)) 9 6 (by kernel_rfl) (by kernel_rfl) (by kernel_rfl)), ?_⟩
  refine ⟨isVal (.bool true), step_move (.tmp 10) (by kernel_rfl) (wanted_none (by kernel_rfl)) (stable_val _) (knows_new (V := isVal (.bool true)) 10 7 (by kernel_rfl) (by kernel_rfl) (by kernel_rfl)), ?_⟩
  refine ⟨isVal (.pointer (some ⟨g, 1, none⟩)), step_field 25 (.tmp 1) 1 ⟨g, 0, none⟩ ⟨g, 1, none⟩ (by kernel_rfl) (wanted_some 8 11 true (by kernel_rfl) (by kernel_rfl) (by kernel_rfl) (by kernel_rfl)) (knows_old 1 (.pointer (some ⟨g, 0, none⟩)) (by kernel_rfl) e1) (f_ar_0_1 (g)), ?_⟩
  refine ⟨isVal (.slice sa n sc), step_read 22 (.tmp 12) ⟨g, 1, none⟩ (.slice sa n sc) (by kernel_rfl) (wanted_some 8 11 true (by kernel_rfl) (by kernel_rfl) (by kernel_rfl) (by kernel_rfl)) (knows_new (V := isVal (.pointer (some ⟨g, 1, none⟩))) 12 9 (by kernel_rfl) (by kernel_rfl) (by kernel_rfl)) (HG.2 1 _ rfl) (HG.1) (agg_noS), ?_⟩
  refine ⟨isVal (.int .i64 (n : Int)), step_len 22 (.tmp 13) (.slice sa n sc) (.int .i64 (n : Int)) (by kernel_rfl) (wanted_some 8 11 true (by kernel_rfl) (by kernel_rfl) (by kernel_rfl) (by kernel_rfl)) (knows_new (V := isVal (.slice sa n sc)) 13 10 (by kernel_rfl) (by kernel_rfl) (by kernel_rfl)) ((fun ty w => by simp [Builtin.len_, run_underlying Tryz.underlying22]; rfl)), ?_⟩
  refine ⟨isVal (.pointer (some ⟨g, 0, none⟩)), step_field 25 (.tmp 1) 0 ⟨g, 0, none⟩ ⟨g, 0, none⟩ (by kernel_rfl) (wanted_some 8 11 true (by kernel_rfl) (by kernel_rfl) (by kernel_rfl) (by kernel_rfl)) (knows_old 1 (.pointer (some ⟨g, 0, none⟩)) (by kernel_rfl) e1) (f_ar_0_0 (g)), ?_⟩
  refine ⟨isVal (.int .i64 c), step_read 3 (.tmp 15) ⟨g, 0, none⟩ (.int .i64 c) (by kernel_rfl) (wanted_some 8 11 true (by kernel_rfl) (by kernel_rfl) (by kernel_rfl) (by kernel_rfl)) (knows_new (V := isVal (.pointer (some ⟨g, 0, none⟩))) 15 12 (by kernel_rfl) (by kernel_rfl) (by kernel_rfl)) (HG.2 0 _ rfl) (HG.1) (agg_noZ), ?_⟩
  refine ⟨isVal (.bool false), step_bin .leq 3 3 (.tmp 14) (.tmp 16) (.int .i64 (n : Int)) (.int .i64 c) (.bool false) (by kernel_rfl) (wanted_some 8 11 true (by kernel_rfl) (by kernel_rfl) (by kernel_rfl) (by kernel_rfl)) (knows_new (V := isVal (.int .i64 (n : Int))) 14 11 (by kernel_rfl) (by kernel_rfl) (by kernel_rfl)) (knows_new (V := isVal (.int .i64 c)) 16 13 (by kernel_rfl) (by kernel_rfl) (by kernel_rfl)) (fun _ => rfl) (leq_int _ _ _ _ _ h3), ?_⟩
  refine ⟨isVal (.bool false), step_pick (.tmp 11) (.tmp 17) (.const (.bool false)) true (by kernel_rfl) (wanted_none (by kernel_rfl)) (stable_val _) (knows_new (V := isVal (.bool true)) 11 8 (by kernel_rfl) (by kernel_rfl) (by kernel_rfl)) (knows_new (V := isVal (.bool false)) 17 14 (by kernel_rfl) (by kernel_rfl) (by kernel_rfl)), ?_⟩
  refine ⟨isVal (.bool false), step_move (.tmp 18) (by kernel_rfl) (wanted_none (by kernel_rfl)) (stable_val _) (knows_new (V := isVal (.bool false)) 18 15 (by kernel_rfl) (by kernel_rfl) (by kernel_rfl)), ?_⟩
  refine ⟨_, step_skip 16 19 true false (by kernel_rfl) (by kernel_rfl) (by kernel_rfl) (by kernel_rfl) rfl, ?_⟩
  refine ⟨_, step_skip 16 19 true false (by kernel_rfl) (by kernel_rfl) (by kernel_rfl) (by kernel_rfl) rfl, ?_⟩
  refine ⟨_, step_skip 16 19 true false (by kernel_rfl) (by kernel_rfl) (by kernel_rfl) (by kernel_rfl) rfl, ?_⟩
  refine ⟨isVal (.bool false), step_pick (.tmp 19) (.tmp 22) (.const (.bool false)) false (by kernel_rfl) (wanted_none (by kernel_rfl)) (stable_val _) (knows_new (V := isVal (.bool false)) 19 16 (by kernel_rfl) (by kernel_rfl) (by kernel_rfl)) (knows_const _), ?_⟩
  refine ⟨isVal (.bool false), step_move (.tmp 23) (by kernel_rfl) (wanted_none (by kernel_rfl)) (stable_val _) (knows_new (V := isVal (.bool false)) 23 20 (by kernel_rfl) (by kernel_rfl) (by kernel_rfl)), ?_⟩
  refine ⟨_, step_skip 21 24 true false (by kernel_rfl) (by kernel_rfl) (by kernel_rfl) (by kernel_rfl) rfl, ?_⟩
  refine ⟨_, step_skip 21 24 true false (by kernel_rfl) (by kernel_rfl) (by kernel_rfl) (by kernel_rfl) rfl, ?_⟩
  refine ⟨_, step_skip 21 24 true false (by kernel_rfl) (by kernel_rfl) (by kernel_rfl) (by kernel_rfl) rfl, ?_⟩
  refine ⟨_, step_skip 21 24 true false (by kernel_rfl) (by kernel_rfl) (by kernel_rfl) (by kernel_rfl) rfl, ?_⟩
  refine ⟨_, step_skip 21 24 true false (by kernel_rfl) (by kernel_rfl) (by kernel_rfl) (by kernel_rfl) rfl, ?_⟩
  refine ⟨_, step_skip 21 24 true false (by kernel_rfl) (by kernel_rfl) (by kernel_rfl) (by kernel_rfl) rfl, ?_⟩
  refine ⟨isVal (.bool false), step_pick (.tmp 24) (.tmp 30) (.const (.bool false)) false (by kernel_rfl) (wanted_none (by kernel_rfl)) (stable_val _) (knows_new (V := isVal (.bool false)) 24 21 (by kernel_rfl) (by kernel_rfl) (by kernel_rfl)) (knows_const _), ?_⟩
  refine ⟨isVal (.bool false), step_assign (.tmp 31) (by kernel_rfl) (wanted_none (by kernel_rfl)) (stable_val _) (knows_new (V := isVal (.bool false)) 31 28 (by kernel_rfl) (by kernel_rfl) (by kernel_rfl)), ?_⟩
  intro a w hkp hb hd
  rw [kept_of hkp [some 3, some 4, some 5, some 6, some 7, some 8, some 9, some 10, some 11, some 12, some 13, some 14, some 15, some 16, some 17, some 18, some 19, some 20, some 21, some 22, some 23, some 24, some 25, some 26, some 27, some 28, some 29, some 30, some 31, some 2] [3, 4, 5, 6, 7, 8, 9, 10, 11, 12, 13, 14, 15, 16, 17, 18, 19, 20, 21, 22, 23, 24, 25, 26, 27, 28, 29, 30, 31, 2] (by kernel_rfl) (by decide)]
  have d2 := fdone_of (hd 29 (by rw [show rck2Ops.size = 30 by kernel_rfl]; decide)) (t := 2) (V := isVal (.bool false)) (by kernel_rfl) (by kernel_rfl)
  exact hQ (fun s => a.tmps.getD s undef) w d2 hb
noncomputable def rck3Ops : Array Oper := regionOf Tryz.f100 1
set_option maxRecDepth 100000 in
set_option maxHeartbeats 2000000 in
theorem rck3_region (Q : Exit → Act → World → Prop) (a0 : Act) (w0 : World) (hsz : a0.tmps.size = 32) (g n sc : Nat) (c : Int) (sa : Option Addr) (vi : Value) (L : List En) (idx : List Int) (z : Bool) (e1 : a0.tmps.getD 1 undef = .pointer (some ⟨g, 0, none⟩)) (HG : CellsN w0 g [.int .i64 c, .slice sa n sc, vi]) (hs : isEns L (.slice sa n sc) w0) (hi : isCells (idx.map intC) vi w0) (hL : L.length ≤ 1000) (hI : idx.length ≤ 100000) (fL : ∀ e ∈ L, FitE e) (h1 : decide (1 ≤ c) = true) (h2 : decide (c ≤ 8) = true) (h3 : decide ((n : Int) ≤ c) = true) (h4 : slotsB L = false)
    (hQ : ∀ (g : Nat → Value) (w : World), g 2 = .bool false → Below w0.heap.size w0 w → Q .normal { tmps := [3, 4, 5, 6, 7, 8, 9, 10, 11, 12, 13, 14, 15, 16, 17, 18, 19, 20, 21, 22, 23, 24, 25, 26, 27, 28, 29, 30, 31, 2].foldl (fun t s => t.setIfInBounds s (g s)) a0.tmps, defers := a0.defers } w) :
    (Code.region 1 rck3Ops true).wp Tryz.prog Q a0 w0 := by
  refine wp_region_flow mixed (by rw [hsz]; kernel_rfl) ?_
  rw [show rck3Ops.size = 30 by kernel_rfl]
  refine ⟨isVal (.pointer (some ⟨g, 0, none⟩)), step_field 25 (.tmp 1) 0 ⟨g, 0, none⟩ ⟨g, 0, none⟩ (by kernel_rfl) (wanted_none (by kernel_rfl)) (knows_old 1 (.pointer (some ⟨g, 0, none⟩)) (by kernel_rfl) e1) (f_ar_0_0 (g)), ?_⟩
  refine ⟨isVal (.int .i64 c), step_read 3 (.tmp 3) ⟨g, 0, none⟩ (.int .i64 c) (by kernel_rfl) (wanted_none (by kernel_rfl)) (knows_new (V := isVal (.pointer (some ⟨g, 0, none⟩))) 3 0 (by kernel_rfl) (by kernel_rfl) (by kernel_rfl)) (HG.2 0 _ rfl) (HG.1) (agg_noZ), ?_⟩
  refine ⟨isVal (.bool true), step_bin .geq 3 3 (.tmp 4) (.const (.int .i64 1)) (.int .i64 c) (.int .i64 1) (.bool true) (by kernel_rfl) (wanted_none (by kernel_rfl)) (knows_new (V := isVal (.int .i64 c)) 4 1 (by kernel_rfl) (by kernel_rfl) (by kernel_rfl)) (knows_const _) (fun _ => rfl) (geq_int _ _ _ _ _ h1), ?_⟩
  refine ⟨isVal (.bool true), step_move (.tmp 5) (by kernel_rfl) (wanted_none (by kernel_rfl)) (stable_val _) (knows_new (V := isVal (.bool true)) 5 2 (by kernel_rfl) (by kernel_rfl) (by kernel_rfl)), ?_⟩
  refine ⟨isVal (.pointer (some ⟨g, 0, none⟩)), step_field 25 (.tmp 1) 0 ⟨g, 0, none⟩ ⟨g, 0, none⟩ (by kernel_rfl) (wanted_some 3 6 true (by kernel_rfl) (by kernel_rfl) (by kernel_rfl) (by kernel_rfl)) (knows_old 1 (.pointer (some ⟨g, 0, none⟩)) (by kernel_rfl) e1) (f_ar_0_0 (g)), ?_⟩
  refine ⟨isVal (.int .i64 c), step_read 3 (.tmp 7) ⟨g, 0, none⟩ (.int .i64 c) (by kernel_rfl) (wanted_some 3 6 true (by kernel_rfl) (by kernel_rfl) (by kernel_rfl) (by kernel_rfl)) (knows_new (V := isVal (.pointer (some ⟨g, 0, none⟩))) 7 4 (by kernel_rfl) (by kernel_rfl) (by kernel_rfl)) (HG.2 0 _ rfl) (HG.1) (agg_noZ), ?_⟩
  refine ⟨isVal (.bool true), step_bin .leq 3 3 (.tmp 8) (.const (.int .i64 8)) (.int .i64 c) (.int .i64 8) (.bool true) (by kernel_rfl) (wanted_some 3 6 true (by kernel_rfl) (by kernel_rfl) (by kernel_rfl) (by kernel_rfl)) (knows_new (V := isVal (.int .i64 c)) 8 5 (by kernel_rfl) (by kernel_rfl) (by kernel_rfl)) (knows_const _) (fun _ => rfl) (leq_int _ _ _ _ _ h2), ?_⟩
  refine ⟨isVal (.bool true), step_pick (.tmp 6) (.tmp 9) (.const (.bool false)) true (by kernel_rfl) (wanted_none (by kernel_rfl)) (stable_val _) (knows_new (V := isVal (.bool true)) 6 3 (by kernel_rfl) (by kernel_rfl) (by kernel_rfl)) (knows_new (V := isVal (.bool true)) 9 6 (by kernel_rfl) (by kernel_rfl) (by kernel_rfl)), ?_⟩
  refine ⟨isVal (.bool true), step_move (.tmp 10) (by kernel_rfl) (wanted_none (by kernel_rfl)) (stable_val _) (knows_new (V := isVal (.bool true)) 10 7 (by kernel_rfl) (by kernel_rfl) (by kernel_rfl)), ?_⟩
  refine ⟨isVal (.pointer (some ⟨g, 1, none⟩)), step_field 25 (.tmp 1) 1 ⟨g, 0, none⟩ ⟨g, 1, none⟩ (by kernel_rfl) (wanted_some 8 11 true (by kernel_rfl) (by kernel_rfl) (by kernel_rfl) (by kernel_rfl)) (knows_old 1 (.pointer (some ⟨g, 0, none⟩)) (by kernel_rfl) e1) (f_ar_0_1 (g)), ?_⟩
  refine ⟨isVal (.slice sa n sc), step_read 22 (.tmp 12) ⟨g, 1, none⟩ (.slice sa n sc) (by kernel_rfl) (wanted_some 8 11 true (by kernel_rfl) (by kernel_rfl) (by kernel_rfl) (by kernel_rfl)) (knows_new (V := isVal (.pointer (some ⟨g, 1, none⟩))) 12 9 (by kernel_rfl) (by kernel_rfl) (by kernel_rfl)) (HG.2 1 _ rfl) (HG.1) (agg_noS), ?_⟩
  refine ⟨isVal (.int .i64 (n : Int)), step_len 22 (.tmp 13) (.slice sa n sc) (.int .i64 (n : Int)) (by kernel_rfl) (wanted_some 8 11 true (by kernel_rfl) (by kernel_rfl) (by kernel_rfl) (by kernel_rfl)) (knows_new (V := isVal (.slice sa n sc)) 13 10 (by kernel_rfl) (by kernel_rfl) (by kernel_rfl)) ((fun ty w => by simp [Builtin.len_, run_underlying Tryz.underlying22]; rfl)), ?_⟩
  refine ⟨isVal (.pointer (some ⟨g, 0, none⟩)), step_field 25 (.tmp 1) 0 ⟨g, 0, none⟩ ⟨g, 0, none⟩ (by kernel_rfl) (wanted_some 8 11 true (by kernel_rfl) (by kernel_rfl) (by kernel_rfl) (by kernel_rfl)) (knows_old 1 (.pointer (some ⟨g, 0, none⟩)) (by kernel_rfl) e1) (f_ar_0_0 (g)), ?_⟩
  refine ⟨isVal (.int .i64 c), step_read 3 (.tmp 15) ⟨g, 0, none⟩ (.int .i64 c) (by kernel_rfl) (wanted_some 8 11 true (by kernel_rfl) (by kernel_rfl) (by kernel_rfl) (by kernel_rfl)) (knows_new (V := isVal (.pointer (some ⟨g, 0, none⟩))) 15 12 (by kernel_rfl) (by kernel_rfl) (by kernel_rfl)) (HG.2 0 _ rfl) (HG.1) (agg_noZ), ?_⟩
  refine ⟨isVal (.bool true), step_bin .leq 3 3 (.tmp 14) (.tmp 16) (.int .i64 (n : Int)) (.int .i64 c) (.bool true) (by kernel_rfl) (wanted_some 8 11 true (by kernel_rfl) (by kernel_rfl) (by kernel_rfl) (by kernel_rfl)) (knows_new (V := isVal (.int .i64 (n : Int))) 14 11 (by kernel_rfl) (by kernel_rfl) (by kernel_rfl)) (knows_new (V := isVal (.int .i64 c)) 16 13 (by kernel_rfl) (by kernel_rfl) (by kernel_rfl)) (fun _ => rfl) (leq_int _ _ _ _ _ h3), ?_⟩
  refine ⟨isVal (.bool true), step_pick (.tmp 11) (.tmp 17) (.const (.bool false)) true (by kernel_rfl) (wanted_none (by kernel_rfl)) (stable_val _) (knows_new (V := isVal (.bool true)) 11 8 (by kernel_rfl) (by kernel_rfl) (by kernel_rfl)) (knows_new (V := isVal (.bool true)) 17 14 (by kernel_rfl) (by kernel_rfl) (by kernel_rfl)), ?_⟩
  refine ⟨isVal (.bool true), step_move (.tmp 18) (by kernel_rfl) (wanted_none (by kernel_rfl)) (stable_val _) (knows_new (V := isVal (.bool true)) 18 15 (by kernel_rfl) (by kernel_rfl) (by kernel_rfl)), ?_⟩
  refine ⟨isVal (.pointer (some ⟨g, 1, none⟩)), step_field 25 (.tmp 1) 1 ⟨g, 0, none⟩ ⟨g, 1, none⟩ (by kernel_rfl) (wanted_some 16 19 true (by kernel_rfl) (by kernel_rfl) (by kernel_rfl) (by kernel_rfl)) (knows_old 1 (.pointer (some ⟨g, 0, none⟩)) (by kernel_rfl) e1) (f_ar_0_1 (g)), ?_⟩
  refine ⟨isVal (.slice sa n sc), step_read 22 (.tmp 20) ⟨g, 1, none⟩ (.slice sa n sc) (by kernel_rfl) (wanted_some 16 19 true (by kernel_rfl) (by kernel_rfl) (by kernel_rfl) (by kernel_rfl)) (knows_new (V := isVal (.pointer (some ⟨g, 1, none⟩))) 20 17 (by kernel_rfl) (by kernel_rfl) (by kernel_rfl)) (HG.2 1 _ rfl) (HG.1) (agg_noS), ?_⟩
  refine ⟨isVal (.bool false), step_call 128 #[.tmp 21] #[22] #[.slice sa n sc] (by kernel_rfl) (wanted_some 16 19 true (by kernel_rfl) (by kernel_rfl) (by kernel_rfl) (by kernel_rfl)) (stable_val _) (args1 (.tmp 21) (.slice sa n sc) (knows_new (V := isVal (.slice sa n sc)) 21 18 (by kernel_rfl) (by kernel_rfl) (by kernel_rfl))) (enters_of Tryz.func128 (by kernel_rfl) rfl) (by intro w' hb; exact call_vb (rslots_at L false _ w' (stable_ens _ _ _ _ hs hb) hL fL h4)), ?_⟩
  refine ⟨isVal (.bool false), step_pick (.tmp 19) (.tmp 22) (.const (.bool false)) true (by kernel_rfl) (wanted_none (by kernel_rfl)) (stable_val _) (knows_new (V := isVal (.bool true)) 19 16 (by kernel_rfl) (by kernel_rfl) (by kernel_rfl)) (knows_new (V := isVal (.bool false)) 22 19 (by kernel_rfl) (by kernel_rfl) (by kernel_rfl)), ?_⟩
  refine ⟨isVal (.bool false), step_move (.tmp 23) (by kernel_rfl) (wanted_none (by kernel_rfl)) (stable_val _) (knows_new (V := isVal (.bool false)) 23 20 (by kernel_rfl) (by kernel_rfl) (by kernel_rfl)), ?_⟩
  refine ⟨_, step_skip 21 24 true false (by kernel_rfl) (by kernel_rfl) (by kernel_rfl) (by kernel_rfl) rfl, ?_⟩
  refine ⟨_, step_skip 21 24 true false (by kernel_rfl) (by kernel_rfl) (by kernel_rfl) (by kernel_rfl) rfl, ?_⟩
  refine ⟨_, step_skip 21 24 true false (by kernel_rfl) (by kernel_rfl) (by kernel_rfl) (by kernel_rfl) rfl, ?_⟩
  refine ⟨_, step_skip 21 24 true false (by kernel_rfl) (by kernel_rfl) (by kernel_rfl) (by kernel_rfl) rfl, ?_⟩
  refine ⟨_, step_skip 21 24 true false (by kernel_rfl) (by kernel_rfl) (by kernel_rfl) (by kernel_rfl) rfl, ?_⟩
  refine ⟨_, step_skip 21 24 true false (by kernel_rfl) (by kernel_rfl) (by kernel_rfl) (by kernel_rfl) rfl, ?_⟩
  refine ⟨isVal (.bool false), step_pick (.tmp 24) (.tmp 30) (.const (.bool false)) false (by kernel_rfl) (wanted_none (by kernel_rfl)) (stable_val _) (knows_new (V := isVal (.bool false)) 24 21 (by kernel_rfl) (by kernel_rfl) (by kernel_rfl)) (knows_const _), ?_⟩
  refine ⟨isVal (.bool false), step_assign (.tmp 31) (by kernel_rfl) (wanted_none (by kernel_rfl)) (stable_val _) (knows_new (V := isVal (.bool false)) 31 28 (by kernel_rfl) (by kernel_rfl) (by kernel_rfl)), ?_⟩
  intro a w hkp hb hd
  rw [kept_of hkp [some 3, some 4, some 5, some 6, some 7, some 8, some 9, some 10, some 11, some 12, some 13, some 14, some 15, some 16, some 17, some 18, some 19, some 20, some 21, some 22, some 23, some 24, some 25, some 26, some 27, some 28, some 29, some 30, some 31, some 2] [3, 4, 5, 6, 7, 8, 9, 10, 11, 12, 13, 14, 15, 16, 17, 18, 19, 20, 21, 22, 23, 24, 25, 26, 27, 28, 29, 30, 31, 2] (by kernel_rfl) (by decide)]
  have d2 := fdone_of (hd 29 (by rw [show rck3Ops.size = 30 by kernel_rfl]; decide)) (t := 2) (V := isVal (.bool false)) (by kernel_rfl) (by kernel_rfl)
  exact hQ (fun s => a.tmps.getD s undef) w d2 hb
noncomputable def rck4Ops : Array Oper := regionOf Tryz.f100 1
set_option maxRecDepth 100000 in
set_option maxHeartbeats 2000000 in
theorem rck4_region (Q : Exit → Act → World → Prop) (a0 : Act) (w0 : World) (hsz : a0.tmps.size = 32) (g n sc : Nat) (c : Int) (sa : Option Addr) (vi : Value) (L : List En) (idx : List Int) (z : Bool) (e1 : a0.tmps.getD 1 undef = .pointer (some ⟨g, 0, none⟩)) (HG : CellsN w0 g [.int .i64 c, .slice sa n sc, vi]) (hs : isEns L (.slice sa n sc) w0) (hi : isCells (idx.map intC) vi w0) (hL : L.length ≤ 1000) (hI : idx.length ≤ 100000) (fL : ∀ e ∈ L, FitE e) (h1 : decide (1 ≤ c) = true) (h2 : decide (c ≤ 8) = true) (h3 : decide ((n : Int) ≤ c) = true) (h4 : slotsB L = true) (hz : decide (idx = idxM L) = z)
    (hQ : ∀ (g : Nat → Value) (w : World), g 2 = .bool z → Below w0.heap.size w0 w → Q .normal { tmps := [3, 4, 5, 6, 7, 8, 9, 10, 11, 12, 13, 14, 15, 16, 17, 18, 19, 20, 21, 22, 23, 24, 25, 26, 27, 28, 29, 30, 31, 2].foldl (fun t s => t.setIfInBounds s (g s)) a0.tmps, defers := a0.defers } w) :
    (Code.region 1 rck4Ops true).wp Tryz.prog Q a0 w0 := by
  refine wp_region_flow mixed (by rw [hsz]; kernel_rfl) ?_
  rw [show rck4Ops.size = 30 by kernel_rfl]
  refine ⟨isVal (.pointer (some ⟨g, 0, none⟩)), step_field 25 (.tmp 1) 0 ⟨g, 0, none⟩ ⟨g, 0, none⟩ (by kernel_rfl) (wanted_none (by kernel_rfl)) (knows_old 1 (.pointer (some ⟨g, 0, none⟩)) (by kernel_rfl) e1) (f_ar_0_0 (g)), ?_⟩
  refine ⟨isVal (.int .i64 c), step_read 3 (.tmp 3) ⟨g, 0, none⟩ (.int .i64 c) (by kernel_rfl) (wanted_none (by kernel_rfl)) (knows_new (V := isVal (.pointer (some ⟨g, 0, none⟩))) 3 0 (by kernel_rfl) (by kernel_rfl) (by kernel_rfl)) (HG.2 0 _ rfl) (HG.1) (agg_noZ), ?_⟩
  refine ⟨isVal (.bool true), step_bin .geq 3 3 (.tmp 4) (.const (.int .i64 1)) (.int .i64 c) (.int .i64 1) (.bool true) (by kernel_rfl) (wanted_none (by kernel_rfl)) (knows_new (V := isVal (.int .i64 c)) 4 1 (by kernel_rfl) (by kernel_rfl) (by kernel_rfl)) (knows_const _) (fun _ => rfl) (geq_int _ _ _ _ _ h1), ?_⟩
  refine ⟨isVal (.bool true), step_move (.tmp 5) (by kernel_rfl) (wanted_none (by kernel_rfl)) (stable_val _) (knows_new (V := isVal (.bool true)) 5 2 (by kernel_rfl) (by kernel_rfl) (by kernel_rfl)), ?_⟩
  refine ⟨isVal (.pointer (some ⟨g, 0, none⟩)), step_field 25 (.tmp 1) 0 ⟨g, 0, none⟩ ⟨g, 0, none⟩ (by kernel_rfl) (wanted_some 3 6 true (by kernel_rfl) (by kernel_rfl) (by kernel_rfl) (by kernel_rfl)) (knows_old 1 (.pointer (some ⟨g, 0, none⟩)) (by kernel_rfl) e1) (f_ar_0_0 (g)), ?_⟩
  refine ⟨isVal (.int .i64 c), step_read 3 (.tmp 7) ⟨g, 0, none⟩ (.int .i64 c) (by kernel_rfl) (wanted_some 3 6 true (by kernel_rfl) (by kernel_rfl) (by kernel_rfl) (by kernel_rfl)) (knows_new (V := isVal (.pointer (some ⟨g, 0, none⟩))) 7 4 (by kernel_rfl) (by kernel_rfl) (by kernel_rfl)) (HG.2 0 _ rfl) (HG.1) (agg_noZ), ?_⟩
  refine ⟨isVal (.bool true), step_bin .leq 3 3 (.tmp 8) (.const (.int .i64 8)) (.int .i64 c) (.int .i64 8) (.bool true) (by kernel_rfl) (wanted_some 3 6 true (by kernel_rfl) (by kernel_rfl) (by kernel_rfl) (by kernel_rfl)) (knows_new (V := isVal (.int .i64 c)) 8 5 (by kernel_rfl) (by kernel_rfl) (by kernel_rfl)) (knows_const _) (fun _ => rfl) (leq_int _ _ _ _ _ h2), ?_⟩
  refine ⟨isVal (.bool true), step_pick (.tmp 6) (.tmp 9) (.const (.bool false)) true (by kernel_rfl) (wanted_none (by kernel_rfl)) (stable_val _) (knows_new (V := isVal (.bool true)) 6 3 (by kernel_rfl) (by kernel_rfl) (by kernel_rfl)) (knows_new (V := isVal (.bool true)) 9 6 (by kernel_rfl) (by kernel_rfl) (by kernel_rfl)), ?_⟩
  refine ⟨isVal (.bool true), step_move (.tmp 10) (by kernel_rfl) (wanted_none (by kernel_rfl)) (stable_val _) (knows_new (V := isVal (.bool true)) 10 7 (by kernel_rfl) (by kernel_rfl) (by kernel_rfl)), ?_⟩
  refine ⟨isVal (.pointer (some ⟨g, 1, none⟩)), step_field 25 (.tmp 1) 1 ⟨g, 0, none⟩ ⟨g, 1, none⟩ (by kernel_rfl) (wanted_some 8 11 true (by kernel_rfl) (by kernel_rfl) (by kernel_rfl) (by kernel_rfl)) (knows_old 1 (.pointer (some ⟨g, 0, none⟩)) (by kernel_rfl) e1) (f_ar_0_1 (g)), ?_⟩
  refine ⟨isVal (.slice sa n sc), step_read 22 (.tmp 12) ⟨g, 1, none⟩ (.slice sa n sc) (by kernel_rfl) (wanted_some 8 11 true (by kernel_rfl) (by kernel_rfl) (by kernel_rfl) (by kernel_rfl)) (knows_new (V := isVal (.pointer (some ⟨g, 1, none⟩))) 12 9 (by kernel_rfl) (by kernel_rfl) (by kernel_rfl)) (HG.2 1 _ rfl) (HG.1) (agg_noS), ?_⟩
  refine ⟨isVal (.int .i64 (n : Int)), step_len 22 (.tmp 13) (.slice sa n sc) (.int .i64 (n : Int)) (by kernel_rfl) (wanted_some 8 11 true (by kernel_rfl) (by kernel_rfl) (by kernel_rfl) (by kernel_rfl)) (knows_new (V := isVal (.slice sa n sc)) 13 10 (by kernel_rfl) (by kernel_rfl) (by kernel_rfl)) ((fun ty w => by simp [Builtin.len_, run_underlying Tryz.underlying22]; rfl)), ?_⟩
  refine ⟨isVal (.pointer (some ⟨g, 0, none⟩)), step_field 25 (.tmp 1) 0 ⟨g, 0, none⟩ ⟨g, 0, none⟩ (by kernel_rfl) (wanted_some 8 11 true (by kernel_rfl) (by kernel_rfl) (by kernel_rfl) (by kernel_rfl)) (knows_old 1 (.pointer (some ⟨g, 0, none⟩)) (by kernel_rfl) e1) (f_ar_0_0 (g)), ?_⟩
  refine ⟨isVal (.int .i64 c), step_read 3 (.tmp 15) ⟨g, 0, none⟩ (.int .i64 c) (by kernel_rfl) (wanted_some 8 11 true (by kernel_rfl) (by kernel_rfl) (by kernel_rfl) (by kernel_rfl)) (knows_new (V := isVal (.pointer (some ⟨g, 0, none⟩))) 15 12 (by kernel_rfl) (by kernel_rfl) (by kernel_rfl)) (HG.2 0 _ rfl) (HG.1) (agg_noZ), ?_⟩
  refine ⟨isVal (.bool true), step_bin .leq 3 3 (.tmp 14) (.tmp 16) (.int .i64 (n : Int)) (.int .i64 c) (.bool true) (by kernel_rfl) (wanted_some 8 11 true (by kernel_rfl) (by kernel_rfl) (by kernel_rfl) (by kernel_rfl)) (knows_new (V := isVal (.int .i64 (n : Int))) 14 11 (by kernel_rfl) (by kernel_rfl) (by kernel_rfl)) (knows_new (V := isVal (.int .i64 c)) 16 13 (by kernel_rfl) (by kernel_rfl) (by kernel_rfl)) (fun _ => rfl) (leq_int _ _ _ _ _ h3), ?_⟩
  refine ⟨isVal (.bool true), step_pick (.tmp 11) (.tmp 17) (.const (.bool false)) true (by kernel_rfl) (wanted_none (by kernel_rfl)) (stable_val _) (knows_new (V := isVal (.bool true)) 11 8 (by kernel_rfl) (by kernel_rfl) (by kernel_rfl)) (knows_new (V := isVal (.bool true)) 17 14 (by kernel_rfl) (by kernel_rfl) (by kernel_rfl)), ?_⟩
  refine ⟨isVal (.bool true), step_move (.tmp 18) (by kernel_rfl) (wanted_none (by kernel_rfl)) (stable_val _) (knows_new (V := isVal (.bool true)) 18 15 (by kernel_rfl) (by kernel_rfl) (by kernel_rfl)), ?_⟩
  refine ⟨isVal (.pointer (some ⟨g, 1, none⟩)), step_field 25 (.tmp 1) 1 ⟨g, 0, none⟩ ⟨g, 1, none⟩ (by kernel_rfl) (wanted_some 16 19 true (by kernel_rfl) (by kernel_rfl) (by kernel_rfl) (by kernel_rfl)) (knows_old 1 (.pointer (some ⟨g, 0, none⟩)) (by kernel_rfl) e1) (f_ar_0_1 (g)), ?_⟩
  refine ⟨isVal (.slice sa n sc), step_read 22 (.tmp 20) ⟨g, 1, none⟩ (.slice sa n sc) (by kernel_rfl) (wanted_some 16 19 true (by kernel_rfl) (by kernel_rfl) (by kernel_rfl) (by kernel_rfl)) (knows_new (V := isVal (.pointer (some ⟨g, 1, none⟩))) 20 17 (by kernel_rfl) (by kernel_rfl) (by kernel_rfl)) (HG.2 1 _ rfl) (HG.1) (agg_noS), ?_⟩
  refine ⟨isVal (.bool true), step_call 128 #[.tmp 21] #[22] #[.slice sa n sc] (by kernel_rfl) (wanted_some 16 19 true (by kernel_rfl) (by kernel_rfl) (by kernel_rfl) (by kernel_rfl)) (stable_val _) (args1 (.tmp 21) (.slice sa n sc) (knows_new (V := isVal (.slice sa n sc)) 21 18 (by kernel_rfl) (by kernel_rfl) (by kernel_rfl))) (enters_of Tryz.func128 (by kernel_rfl) rfl) (by intro w' hb; exact call_vb (rslots_at L true _ w' (stable_ens _ _ _ _ hs hb) hL fL h4)), ?_⟩
  refine ⟨isVal (.bool true), step_pick (.tmp 19) (.tmp 22) (.const (.bool false)) true (by kernel_rfl) (wanted_none (by kernel_rfl)) (stable_val _) (knows_new (V := isVal (.bool true)) 19 16 (by kernel_rfl) (by kernel_rfl) (by kernel_rfl)) (knows_new (V := isVal (.bool true)) 22 19 (by kernel_rfl) (by kernel_rfl) (by kernel_rfl)), ?_⟩
  refine ⟨isVal (.bool true), step_move (.tmp 23) (by kernel_rfl) (wanted_none (by kernel_rfl)) (stable_val _) (knows_new (V := isVal (.bool true)) 23 20 (by kernel_rfl) (by kernel_rfl) (by kernel_rfl)), ?_⟩
  refine ⟨isVal (.pointer (some ⟨g, 2, none⟩)), step_field 25 (.tmp 1) 2 ⟨g, 0, none⟩ ⟨g, 2, none⟩ (by kernel_rfl) (wanted_some 21 24 true (by kernel_rfl) (by kernel_rfl) (by kernel_rfl) (by kernel_rfl)) (knows_old 1 (.pointer (some ⟨g, 0, none⟩)) (by kernel_rfl) e1) (f_ar_0_2 (g)), ?_⟩
  refine ⟨isVal vi, step_read 23 (.tmp 25) ⟨g, 2, none⟩ vi (by kernel_rfl) (wanted_some 21 24 true (by kernel_rfl) (by kernel_rfl) (by kernel_rfl) (by kernel_rfl)) (knows_new (V := isVal (.pointer (some ⟨g, 2, none⟩))) 25 22 (by kernel_rfl) (by kernel_rfl) (by kernel_rfl)) (HG.2 2 _ rfl) (HG.1) (agg_noI), ?_⟩
  refine ⟨isVal (.pointer (some ⟨g, 1, none⟩)), step_field 25 (.tmp 1) 1 ⟨g, 0, none⟩ ⟨g, 1, none⟩ (by kernel_rfl) (wanted_some 21 24 true (by kernel_rfl) (by kernel_rfl) (by kernel_rfl) (by kernel_rfl)) (knows_old 1 (.pointer (some ⟨g, 0, none⟩)) (by kernel_rfl) e1) (f_ar_0_1 (g)), ?_⟩
  refine ⟨isVal (.slice sa n sc), step_read 22 (.tmp 27) ⟨g, 1, none⟩ (.slice sa n sc) (by kernel_rfl) (wanted_some 21 24 true (by kernel_rfl) (by kernel_rfl) (by kernel_rfl) (by kernel_rfl)) (knows_new (V := isVal (.pointer (some ⟨g, 1, none⟩))) 27 24 (by kernel_rfl) (by kernel_rfl) (by kernel_rfl)) (HG.2 1 _ rfl) (HG.1) (agg_noS), ?_⟩
  refine ⟨(isCells ((idxM L).map intC)), step_call 102 #[.tmp 28] #[22] #[.slice sa n sc] (by kernel_rfl) (wanted_some 21 24 true (by kernel_rfl) (by kernel_rfl) (by kernel_rfl) (by kernel_rfl)) (stable_cells _) (args1 (.tmp 28) (.slice sa n sc) (knows_new (V := isVal (.slice sa n sc)) 28 25 (by kernel_rfl) (by kernel_rfl) (by kernel_rfl))) (enters_of Tryz.func102 (by kernel_rfl) rfl) (by intro w' hb; exact rindex_pred L _ w' (stable_ens _ _ _ _ hs hb) hL), ?_⟩
  refine ⟨isVal (.bool z), step_callP 51 #[.tmp 26, .tmp 29] #[23, 23] (by kernel_rfl) (wanted_some 21 24 true (by kernel_rfl) (by kernel_rfl) (by kernel_rfl) (by kernel_rfl)) (stable_val _) (enters_of Tryz.func51 (by kernel_rfl) rfl) (fun vs w => ∃ u v, vs = #[u, v] ∧ isVal vi u w ∧ isCells ((idxM L).map intC) v w) (pre2 (knows_new (V := isVal vi) 26 23 (by kernel_rfl) (by kernel_rfl) (by kernel_rfl)) (knows_new (V := (isCells ((idxM L).map intC))) 29 26 (by kernel_rfl) (by kernel_rfl) (by kernel_rfl))) (fun vs w' hb hp => by obtain ⟨u, v, rfl, hu, h2⟩ := hp; obtain rfl : u = vi := hu; exact call_vb (rints_at idx (idxM L) z _ _ w' (stable_cells _ _ _ _ hi hb) h2 hI (by rw [(idxP_rng L L.length).1 |> fun h => (show (idxM L).length = L.length from h)]; omega) hz)), ?_⟩
  refine ⟨isVal (.bool z), step_pick (.tmp 24) (.tmp 30) (.const (.bool false)) true (by kernel_rfl) (wanted_none (by kernel_rfl)) (stable_val _) (knows_new (V := isVal (.bool true)) 24 21 (by kernel_rfl) (by kernel_rfl) (by kernel_rfl)) (knows_new (V := isVal (.bool z)) 30 27 (by kernel_rfl) (by kernel_rfl) (by kernel_rfl)), ?_⟩
  refine ⟨isVal (.bool z), step_assign (.tmp 31) (by kernel_rfl) (wanted_none (by kernel_rfl)) (stable_val _) (knows_new (V := isVal (.bool z)) 31 28 (by kernel_rfl) (by kernel_rfl) (by kernel_rfl)), ?_⟩
  intro a w hkp hb hd
  rw [kept_of hkp [some 3, some 4, some 5, some 6, some 7, some 8, some 9, some 10, some 11, some 12, some 13, some 14, some 15, some 16, some 17, some 18, some 19, some 20, some 21, some 22, some 23, some 24, some 25, some 26, some 27, some 28, some 29, some 30, some 31, some 2] [3, 4, 5, 6, 7, 8, 9, 10, 11, 12, 13, 14, 15, 16, 17, 18, 19, 20, 21, 22, 23, 24, 25, 26, 27, 28, 29, 30, 31, 2] (by kernel_rfl) (by decide)]
  have d2 := fdone_of (hd 29 (by rw [show rck4Ops.size = 30 by kernel_rfl]; decide)) (t := 2) (V := isVal (.bool z)) (by kernel_rfl) (by kernel_rfl)
  exact hQ (fun s => a.tmps.getD s undef) w d2 hb
set_option maxRecDepth 100000 in
set_option maxHeartbeats 2000000 in
theorem rcheckA_any (A : Ar) (v : Value) (w : World) (hv : isAr A v w) (hF : FitA A) : Calls Tryz.prog 100 #[v] w fun e w' => e = .returned (.bool (okA A)) ∧ Below w.heap.size w w' := by
  obtain ⟨vs, vi, rfl, hs, hi⟩ := hv
  obtain ⟨sa, sc, rfl⟩ := hs.len
  have hB := lit_below w (.cells #[.int .i64 A.cap, .slice sa A.slots.length sc, vi] 25)
  have CG := cellsN_at w 25 [.int .i64 A.cap, .slice sa A.slots.length sc, vi] w.heap.size rfl
  have XS := stable_ens _ _ _ _ hs hB
  have XI := stable_cells _ _ _ _ hi hB
  have HK := Kept.mk (okA_ref A)
  unfold roomB at HK
  obtain ⟨z, hz⟩ : ∃ z, decide (A.index = idxM A.slots) = z := ⟨_, rfl⟩
  have hR : ∃ q, okA A = q := ⟨_, rfl⟩
  obtain ⟨q, hq⟩ := hR
  rw [hq] at HK ⊢
  generalize hn : A.slots.length = n at *
  cases h1 : decide (1 ≤ A.cap) with
  | false =>
    have HE := Kept.mk (show q = false by rw [HK.out, h1]; simp)
    have HH := Kept.mk hB
    have CG' := Kept.mk CG
    have XS' := Kept.mk XS
    have XI' := Kept.mk XI
    have Z1 := Kept.mk (And.intro h1 trivial)
    clear HK hs hi hB CG XS XI hq hn hz h1
    go_enter Tryz.func100, Tryz.ntmps100
    go_wp2
    refine rck0_region _ _ _ rfl w.heap.size n sc A.cap sa vi A.slots A.index z rfl CG'.out XS'.out XI'.out hF.slots (by have := hF.index; omega) hF.ents Z1.out.1 ?_
    intro f9 W9 d2 hb9
    simp only [List.foldl_cons, List.foldl_nil, d2]
    generalize f9 3 = y3
    generalize f9 4 = y4
    generalize f9 5 = y5
    generalize f9 6 = y6
    generalize f9 7 = y7
    generalize f9 8 = y8
    generalize f9 9 = y9
    generalize f9 10 = y10
    generalize f9 11 = y11
    generalize f9 12 = y12
    generalize f9 13 = y13
    generalize f9 14 = y14
    generalize f9 15 = y15
    generalize f9 16 = y16
    generalize f9 17 = y17
    generalize f9 18 = y18
    generalize f9 19 = y19
    generalize f9 20 = y20
    generalize f9 21 = y21
    generalize f9 22 = y22
    generalize f9 23 = y23
    generalize f9 24 = y24
    generalize f9 25 = y25
    generalize f9 26 = y26
    generalize f9 27 = y27
    generalize f9 28 = y28
    generalize f9 29 = y29
    generalize f9 30 = y30
    generalize f9 31 = y31
    clear d2
    simp only [List.setIfInBounds_toArray, List.set_cons_succ, List.set_cons_zero]
    have hbb := HH.out.trans (hb9.mono HH.out.size)
    clear hb9
    go_wp2
    go_ret
    exact ⟨by rw [HE.out]; rfl, hbb⟩
  | true =>
    cases h2 : decide (A.cap ≤ 8) with
    | false =>
      have HE := Kept.mk (show q = false by rw [HK.out, h1, h2]; simp)
      have HH := Kept.mk hB
      have CG' := Kept.mk CG
      have XS' := Kept.mk XS
      have XI' := Kept.mk XI
      have Z1 := Kept.mk (And.intro h1 (And.intro h2 trivial))
      clear HK hs hi hB CG XS XI hq hn hz h1 h2
      go_enter Tryz.func100, Tryz.ntmps100
      go_wp2
      refine rck1_region _ _ _ rfl w.heap.size n sc A.cap sa vi A.slots A.index z rfl CG'.out XS'.out XI'.out hF.slots (by have := hF.index; omega) hF.ents Z1.out.1 Z1.out.2.1 ?_
      intro f9 W9 d2 hb9
      simp only [List.foldl_cons, List.foldl_nil, d2]
      generalize f9 3 = y3
      generalize f9 4 = y4
      generalize f9 5 = y5
      generalize f9 6 = y6
      generalize f9 7 = y7
      generalize f9 8 = y8
      generalize f9 9 = y9
      generalize f9 10 = y10
      generalize f9 11 = y11
      generalize f9 12 = y12
      generalize f9 13 = y13
      generalize f9 14 = y14
      generalize f9 15 = y15
      generalize f9 16 = y16
      generalize f9 17 = y17
      generalize f9 18 = y18
      generalize f9 19 = y19
      generalize f9 20 = y20
      generalize f9 21 = y21
      generalize f9 22 = y22
      generalize f9 23 = y23
      generalize f9 24 = y24
      generalize f9 25 = y25
      generalize f9 26 = y26
      generalize f9 27 = y27
      generalize f9 28 = y28
      generalize f9 29 = y29
      generalize f9 30 = y30
      generalize f9 31 = y31
      clear d2
      simp only [List.setIfInBounds_toArray, List.set_cons_succ, List.set_cons_zero]
      have hbb := HH.out.trans (hb9.mono HH.out.size)
      clear hb9
      go_wp2
      go_ret
      exact ⟨by rw [HE.out]; rfl, hbb⟩
    | true =>
      cases h3 : decide ((n : Int) ≤ A.cap) with
      | false =>
        have HE := Kept.mk (show q = false by rw [HK.out, h1, h2, h3]; simp)
        have HH := Kept.mk hB
        have CG' := Kept.mk CG
        have XS' := Kept.mk XS
        have XI' := Kept.mk XI
        have Z1 := Kept.mk (And.intro h1 (And.intro h2 (And.intro h3 trivial)))
        clear HK hs hi hB CG XS XI hq hn hz h1 h2 h3
        go_enter Tryz.func100, Tryz.ntmps100
        go_wp2
        refine rck2_region _ _ _ rfl w.heap.size n sc A.cap sa vi A.slots A.index z rfl CG'.out XS'.out XI'.out hF.slots (by have := hF.index; omega) hF.ents Z1.out.1 Z1.out.2.1 Z1.out.2.2.1 ?_
        intro f9 W9 d2 hb9
        simp only [List.foldl_cons, List.foldl_nil, d2]
        generalize f9 3 = y3
        generalize f9 4 = y4
        generalize f9 5 = y5
        generalize f9 6 = y6
        generalize f9 7 = y7
        generalize f9 8 = y8
        generalize f9 9 = y9
        generalize f9 10 = y10
        generalize f9 11 = y11
        generalize f9 12 = y12
        generalize f9 13 = y13
        generalize f9 14 = y14
        generalize f9 15 = y15
        generalize f9 16 = y16
        generalize f9 17 = y17
        generalize f9 18 = y18
        generalize f9 19 = y19
        generalize f9 20 = y20
        generalize f9 21 = y21
        generalize f9 22 = y22
        generalize f9 23 = y23
        generalize f9 24 = y24
        generalize f9 25 = y25
        generalize f9 26 = y26
        generalize f9 27 = y27
        generalize f9 28 = y28
        generalize f9 29 = y29
        generalize f9 30 = y30
        generalize f9 31 = y31
        clear d2
        simp only [List.setIfInBounds_toArray, List.set_cons_succ, List.set_cons_zero]
        have hbb := HH.out.trans (hb9.mono HH.out.size)
        clear hb9
        go_wp2
        go_ret
        exact ⟨by rw [HE.out]; rfl, hbb⟩
      | true =>
        cases h4 : slotsB A.slots with
        | false =>
          have HE := Kept.mk (show q = false by rw [HK.out, h1, h2, h3, h4]; simp)
          have HH := Kept.mk hB
          have CG' := Kept.mk CG
          have XS' := Kept.mk XS
          have XI' := Kept.mk XI
          have Z1 := Kept.mk (And.intro h1 (And.intro h2 (And.intro h3 (And.intro h4 trivial))))
          clear HK hs hi hB CG XS XI hq hn hz h1 h2 h3 h4
          go_enter Tryz.func100, Tryz.ntmps100
          go_wp2
          refine rck3_region _ _ _ rfl w.heap.size n sc A.cap sa vi A.slots A.index z rfl CG'.out XS'.out XI'.out hF.slots (by have := hF.index; omega) hF.ents Z1.out.1 Z1.out.2.1 Z1.out.2.2.1 Z1.out.2.2.2.1 ?_
          intro f9 W9 d2 hb9
          simp only [List.foldl_cons, List.foldl_nil, d2]
          generalize f9 3 = y3
          generalize f9 4 = y4
          generalize f9 5 = y5
          generalize f9 6 = y6
          generalize f9 7 = y7
          generalize f9 8 = y8
          generalize f9 9 = y9
          generalize f9 10 = y10
          generalize f9 11 = y11
          generalize f9 12 = y12
          generalize f9 13 = y13
          generalize f9 14 = y14
          generalize f9 15 = y15
          generalize f9 16 = y16
          generalize f9 17 = y17
          generalize f9 18 = y18
          generalize f9 19 = y19
          generalize f9 20 = y20
          generalize f9 21 = y21
          generalize f9 22 = y22
          generalize f9 23 = y23
          generalize f9 24 = y24
          generalize f9 25 = y25
          generalize f9 26 = y26
          generalize f9 27 = y27
          generalize f9 28 = y28
          generalize f9 29 = y29
          generalize f9 30 = y30
          generalize f9 31 = y31
          clear d2
          simp only [List.setIfInBounds_toArray, List.set_cons_succ, List.set_cons_zero]
          have hbb := HH.out.trans (hb9.mono HH.out.size)
          clear hb9
          go_wp2
          go_ret
          exact ⟨by rw [HE.out]; rfl, hbb⟩
        | true =>
          have HE := Kept.mk (show q = z by rw [HK.out, h1, h2, h3, h4, hz]; simp)
          have HH := Kept.mk hB
          have CG' := Kept.mk CG
          have XS' := Kept.mk XS
          have XI' := Kept.mk XI
          have Z1 := Kept.mk (And.intro h1 (And.intro h2 (And.intro h3 (And.intro h4 hz))))
          clear HK hs hi hB CG XS XI hq hn h1 h2 h3 h4 hz
          go_enter Tryz.func100, Tryz.ntmps100
          go_wp2
          refine rck4_region _ _ _ rfl w.heap.size n sc A.cap sa vi A.slots A.index z rfl CG'.out XS'.out XI'.out hF.slots (by have := hF.index; omega) hF.ents Z1.out.1 Z1.out.2.1 Z1.out.2.2.1 Z1.out.2.2.2.1 Z1.out.2.2.2.2 ?_
          intro f9 W9 d2 hb9
          simp only [List.foldl_cons, List.foldl_nil, d2]
          generalize f9 3 = y3
          generalize f9 4 = y4
          generalize f9 5 = y5
          generalize f9 6 = y6
          generalize f9 7 = y7
          generalize f9 8 = y8
          generalize f9 9 = y9
          generalize f9 10 = y10
          generalize f9 11 = y11
          generalize f9 12 = y12
          generalize f9 13 = y13
          generalize f9 14 = y14
          generalize f9 15 = y15
          generalize f9 16 = y16
          generalize f9 17 = y17
          generalize f9 18 = y18
          generalize f9 19 = y19
          generalize f9 20 = y20
          generalize f9 21 = y21
          generalize f9 22 = y22
          generalize f9 23 = y23
          generalize f9 24 = y24
          generalize f9 25 = y25
          generalize f9 26 = y26
          generalize f9 27 = y27
          generalize f9 28 = y28
          generalize f9 29 = y29
          generalize f9 30 = y30
          generalize f9 31 = y31
          clear d2
          simp only [List.setIfInBounds_toArray, List.set_cons_succ, List.set_cons_zero]
          have hbb := HH.out.trans (hb9.mono HH.out.size)
          clear hb9
          go_wp2
          go_ret
          exact ⟨by rw [HE.out]; rfl, hbb⟩
end Go.Proofs.YtbgconagkgfplaaGreat
end
section
namespace Go.Proofs.YtbgconagkgfplaaGreat
open Go.RowKit
set_option linter.unusedVariables false
set_option linter.unusedSimpArgs false
attribute [local irreducible] setN

noncomputable def rallOps : Array Oper := regionOf Tryz.f35 6
end Go.Proofs.YtbgconagkgfplaaGreat
end
section
namespace Go.Proofs.YtbgconagkgfplaaGreat
open Go.RowKit
set_option linter.unusedVariables false
set_option linter.unusedSimpArgs false
attribute [local irreducible] setN

def srcP (ps : RowE) : VP := fun v w => SrcE v ps w
section
variable {ops : Array Oper} {base : World} {a0 : Act} {Q : Exit → Act → World → Prop} {kn : Nat → VP} {i : Nat} {V : VP}
end
noncomputable def rallAOps : Array Oper := regionOf Tryz.f83 7
def EnsPost (l : List En) (w : World) (e : Ending) (w' : World) : Prop := ∃ v', e = .returned v' ∧ isEns l v' w' ∧ Below w.heap.size w w'
theorem rcheckA_at (A : Ar) (r : Bool) (v : Value) (w : World) (hv : isAr A v w) (hF : FitA A) (hr : okA A = r) : Calls Tryz.prog 100 #[v] w fun e w' => e = .returned (.bool r) ∧ Below w.heap.size w w' := by subst hr; exact rcheckA_any A v w hv hF
set_option maxRecDepth 100000 in
set_option maxHeartbeats 2000000 in
theorem rfind_any (A : Ar) (kind : Int) (key : List UInt8) (v : Value) (w : World) (hv : isAr A v w) (hF : FitA A) : Calls Tryz.prog 65 #[v, .int .i64 kind, .string ⟨key.toArray⟩] w fun e w' => e = .returned (.int .i64 (findI A (nameE kind key))) ∧ Below w.heap.size w w' := by
  obtain ⟨vs, vi, rfl, hs, hi⟩ := hv
  obtain ⟨HB, VA⟩ := abox w A vs vi hs hi w.heap.size rfl
  have CG := Kept.mk (cellsN_at w 25 [.int .i64 A.cap, vs, vi] w.heap.size rfl)
  have XA := Kept.mk (show isAr A (.agg #[.int .i64 A.cap, vs, vi]) (w.alloc (.cells #[.int .i64 A.cap, vs, vi] 25)) from stable_ar A _ _ _ ⟨vs, vi, rfl, hs, hi⟩ HB.out)
  have HS := Kept.mk hs
  have HI := Kept.mk hi
  have ka0 := CG.out.2 0 _ rfl
  have ka1 := CG.out.2 1 _ rfl
  have ka2 := CG.out.2 2 _ rfl
  clear VA hs hi
  obtain ⟨p, hp⟩ : ∃ p, findI A (nameE kind key) = p := ⟨_, rfl⟩
  rw [hp]
  have HP := Kept.mk hp
  clear hp
  cases hok : okA A with
  | false =>
    have HO := Kept.mk hok
    have HE := Kept.mk (show p = -1 by rw [← HP.out]; exact find_bad hok _)
    clear hok
    go_enter Tryz.func65, Tryz.ntmps65
    go_wp2_with fail
    refine (rcheckA_at A false _ _ XA.out hF HO.out).mono ?_
    rintro e W1 ⟨rfl, hb⟩
    replace HB := Kept.mk (HB.out.trans (hb.mono HB.out.size))
    clear hb XA CG ka0 ka1 ka2
    go_wp2
    go_ret
    exact ⟨by rw [HE.out]; rfl, HB.out⟩
  | true =>
    have HO := Kept.mk hok
    have OA := Kept.mk (okA_iff.1 hok)
    clear hok
    obtain ⟨sa, cs, es⟩ := HS.out.len
    subst es
    have f1 := hF.slots
    generalize hN : A.slots.length = N at *
    have HN := Kept.mk hN
    clear hN
    go_enter Tryz.func65, Tryz.ntmps65
    go_wp2_with fail
    refine (rcheckA_at A true _ _ XA.out hF HO.out).mono ?_
    rintro e W1 ⟨rfl, hb⟩
    replace HB := Kept.mk (HB.out.trans (hb.mono HB.out.size))
    replace CG := Kept.mk (CG.out.keep hb CG.out.1)
    have kb1 := CG.out.2 1 _ rfl
    clear hb XA ka0 ka1 ka2
    go_wp2
    go_loop [7] (fun IV => ∃ k : Nat, k ≤ N ∧ IV = .int .i64 (k : Int) ∧ Kept (∀ j E, j < k → A.slots[j]? = some E → nameB E (nameE kind key) = false)) (fun IV => N - (intOf IV).toNat)
    case atStart => exact ⟨0, Nat.zero_le _, rfl, ⟨fun j E h => absurd h (Nat.not_lt_zero _)⟩⟩
    case round =>
      obtain ⟨k, hk, rfl, AJ⟩ := hrel
      by_cases hlt : k < N
      · have hlt' : (k : Int) < (N : Int) := by omega
        obtain ⟨E, hE⟩ : ∃ E, A.slots[k]? = some E := ⟨_, List.getElem?_eq_getElem (by rw [HN.out]; exact hlt)⟩
        have HX := Kept.mk hE
        obtain ⟨bs, os, cs', ea, hbs, xp, xm, hxc, hxp, hxm⟩ := HS.out.get hE
        injection ea with ea1 _ ea3
        subst ea1 ea3
        have kx0 : W1.cell? ⟨bs, os + k * 9, none⟩ = _ := (HB.out.cell (p := ⟨bs, os + k * 9 + 0, none⟩) hbs).trans (hxc 0 _ rfl)
        have kx1 : W1.cell? ⟨bs, os + k * 9 + 1, none⟩ = _ := (HB.out.cell (p := ⟨bs, os + k * 9 + 1, none⟩) hbs).trans (hxc 1 _ rfl)
        have HNM := Kept.mk (show nameB E (nameE kind key) = ((E.val.kind == kind) && (E.key == key)) by unfold nameB nameE; rw [Bool.eq_iff_iff]; simp)
        clear hE hxc hxp hxm
        have no : nameB E (nameE kind key) = false → ∀ j E', j < k + 1 → A.slots[j]? = some E' → nameB E' (nameE kind key) = false := fun hf j E' hj he => by
          by_cases e : j = k
          · subst e; rw [HX.out] at he; injection he with he; rw [← he]; exact hf
          · exact AJ.out j E' (by omega) he
        have NO := Kept.mk no
        clear no
        cases h1 : (E.val.kind == kind) with
        | false =>
          have HF := Kept.mk (NO.out (by rw [HNM.out, h1]; rfl))
          go_wp2
          go_round
          case rel => exact ⟨k + 1, by omega, by go_num, HF⟩
          case measure => simp [intOf]; omega
        | true =>
          cases h2 : (E.key == key) with
          | false =>
            have HF := Kept.mk (NO.out (by rw [HNM.out, h2, Bool.and_false]))
            go_wp2
            go_round
            case rel => exact ⟨k + 1, by omega, by go_num, HF⟩
            case measure => simp [intOf]; omega
          | true =>
            have HF := Kept.mk (show p = (k : Int) by rw [← HP.out]; exact find_ref OA.out _ HX.out (by rw [HNM.out, h1, h2]; rfl))
            go_wp2
            go_ret
            exact ⟨by rw [HF.out]; rfl, HB.out⟩
      · have hlt' : ¬ (k : Int) < (N : Int) := by omega
        have HF := Kept.mk (show p = -1 by
          rw [← HP.out]; refine find_ref_no OA.out _ (fun e he => ?_)
          obtain ⟨j, hj⟩ := List.getElem?_of_mem he
          exact AJ.out j e (by have := (List.getElem?_eq_some_iff.1 hj).1; rw [HN.out] at this; omega) hj)
        go_wp2
        go_ret
        exact ⟨by rw [HF.out]; rfl, HB.out⟩
end Go.Proofs.YtbgconagkgfplaaGreat
end
section
namespace Go.Proofs.YtbgconagkgfplaaGreat
open Go.RowKit
set_option linter.unusedVariables false
set_option linter.unusedSimpArgs false

/-- The sum of what f tells of the first n places. -/
def sumTo (f : Nat → Int) : Nat → Int
  | 0 => 0
  | n + 1 => sumTo f n + f n
/-- What one of two has: the numbers of those places that are its own. -/
def half (own : Bool) (m : Nat → Bool) (f : Nat → Int) : Nat → Int := fun j => if m j = own then f j else 0
def cntV (f g : Nat → Int) : Va := ⟨2, 0, 0, false, [], (List.range 8).map f, (List.range 8).map g, 0⟩
end Go.Proofs.YtbgconagkgfplaaGreat
end
section
namespace Go.Proofs.YtbgconagkgfplaaGreat
open Go.RowKit
set_option linter.unusedVariables false
set_option linter.unusedSimpArgs false
attribute [local irreducible] setN

end Go.Proofs.YtbgconagkgfplaaGreat
end
section
namespace Go.Proofs.YtbgconagkgfplaaGreat
open Go.RowKit
set_option linter.unusedVariables false
set_option linter.unusedSimpArgs false
attribute [local irreducible] setN

set_option maxRecDepth 20000 in
set_option maxHeartbeats 2000000 in
theorem rleast_1 (w : World) : Calls Tryz.prog 111 #[.int .i64 1] w fun e w' => ∃ v', e = .returned (.tuple #[v', .int .i64 0]) ∧ isVa (leastF 1) v' w' ∧ Below w.heap.size w w' := by
  have b1 := lit_below w (.cells #[.int .i64 0, .int .i64 0, .int .i64 0, .bool false, .string ⟨#[]⟩, .slice none 0 0, .slice none 0 0, .int .u64 0] 28)
  have b2 := lit_below (w.alloc (.cells #[.int .i64 0, .int .i64 0, .int .i64 0, .bool false, .string ⟨#[]⟩, .slice none 0 0, .slice none 0 0, .int .u64 0] 28)) (.cells #[.int .i64 1, .int .i64 0, .int .i64 0, .bool false, .string ⟨#[]⟩, .slice none 0 0, .slice none 0 0, .int .u64 0] 28)
  have hB := Kept.mk (b1.trans (b2.mono b1.size))
  have HZ := Kept.mk ((cellsN_at w 28 [.int .i64 0, .int .i64 0, .int .i64 0, .bool false, .string ⟨#[]⟩, .slice none 0 0, .slice none 0 0, .int .u64 0] w.heap.size rfl).keep b2 (by simp <;> omega))
  have HF := Kept.mk ((free5_at w #[.int .i64 0, .int .i64 0, .int .i64 0, .bool false, .string ⟨#[]⟩, .slice none 0 0, .slice none 0 0, .int .u64 0] 28 w.heap.size rfl).keep b2 (by simp <;> omega))
  obtain ⟨hBK, K4, K5⟩ := vset (leastF 1) (.slice none 0 0) (.slice none 0 0) (g := w.heap.size) (Nat.le_refl _) hB.out HZ.out rfl (.inl ⟨rfl, rfl⟩) (.inl ⟨rfl, rfl⟩) (by intro h; cases h) (by intro h; cases h)
  obtain ⟨hc', hp', hm'⟩ := K4.out
  clear K4 b1 b2
  go_enter Tryz.func111, Tryz.ntmps111
  go_wp2_with (have hz0 := K5; refine wpList_storeN 28 rfl (.tmp 2) (.tmp 20) rfl w.heap.size [.int .i64 1, .int .i64 0, .int .i64 0, .bool false, .string ⟨#[]⟩, .slice none 0 0, .slice none 0 0, .int .u64 0] size_va rfl rfl HZ.out rfl HF.out K5.out ?_; clear hz0 K5)
  exact bodyPost_ret (resultsN2 rfl _ _ w.heap.size _ (.int .i64 0) size_va agg_va rfl rfl hc') rfl ⟨_, rfl, ⟨(.slice none 0 0), (.slice none 0 0), rfl, hp', hm'⟩, hBK.out⟩
set_option maxRecDepth 20000 in
set_option maxHeartbeats 2000000 in
theorem rleast_3 (w : World) : Calls Tryz.prog 111 #[.int .i64 3] w fun e w' => ∃ v', e = .returned (.tuple #[v', .int .i64 0]) ∧ isVa (leastF 3) v' w' ∧ Below w.heap.size w w' := by
  have b1 := lit_below w (.cells #[.int .i64 0, .int .i64 0, .int .i64 0, .bool false, .string ⟨#[]⟩, .slice none 0 0, .slice none 0 0, .int .u64 0] 28)
  have b2 := lit_below (w.alloc (.cells #[.int .i64 0, .int .i64 0, .int .i64 0, .bool false, .string ⟨#[]⟩, .slice none 0 0, .slice none 0 0, .int .u64 0] 28)) (.cells #[.int .i64 3, .int .i64 0, .int .i64 0, .bool false, .string ⟨#[]⟩, .slice none 0 0, .slice none 0 0, .int .u64 0] 28)
  have hB := Kept.mk (b1.trans (b2.mono b1.size))
  have HZ := Kept.mk ((cellsN_at w 28 [.int .i64 0, .int .i64 0, .int .i64 0, .bool false, .string ⟨#[]⟩, .slice none 0 0, .slice none 0 0, .int .u64 0] w.heap.size rfl).keep b2 (by simp <;> omega))
  have HF := Kept.mk ((free5_at w #[.int .i64 0, .int .i64 0, .int .i64 0, .bool false, .string ⟨#[]⟩, .slice none 0 0, .slice none 0 0, .int .u64 0] 28 w.heap.size rfl).keep b2 (by simp <;> omega))
  obtain ⟨hBK, K4, K5⟩ := vset (leastF 3) (.slice none 0 0) (.slice none 0 0) (g := w.heap.size) (Nat.le_refl _) hB.out HZ.out rfl (.inl ⟨rfl, rfl⟩) (.inl ⟨rfl, rfl⟩) (by intro h; cases h) (by intro h; cases h)
  obtain ⟨hc', hp', hm'⟩ := K4.out
  clear K4 b1 b2
  go_enter Tryz.func111, Tryz.ntmps111
  go_wp2_with (have hz0 := K5; refine wpList_storeN 28 rfl (.tmp 2) (.tmp 20) rfl w.heap.size [.int .i64 3, .int .i64 0, .int .i64 0, .bool false, .string ⟨#[]⟩, .slice none 0 0, .slice none 0 0, .int .u64 0] size_va rfl rfl HZ.out rfl HF.out K5.out ?_; clear hz0 K5)
  exact bodyPost_ret (resultsN2 rfl _ _ w.heap.size _ (.int .i64 0) size_va agg_va rfl rfl hc') rfl ⟨_, rfl, ⟨(.slice none 0 0), (.slice none 0 0), rfl, hp', hm'⟩, hBK.out⟩
set_option maxRecDepth 20000 in
set_option maxHeartbeats 2000000 in
theorem rleast_2 (w : World) : Calls Tryz.prog 111 #[.int .i64 2] w fun e w' => ∃ v', e = .returned (.tuple #[v', .int .i64 0]) ∧ isVa (leastF 2) v' w' ∧ Below w.heap.size w w' := by
  have b1 := lit_below w (.cells #[.int .i64 0, .int .i64 0, .int .i64 0, .bool false, .string ⟨#[]⟩, .slice none 0 0, .slice none 0 0, .int .u64 0] 28)
  have b2 := lit_below (w.alloc (.cells #[.int .i64 0, .int .i64 0, .int .i64 0, .bool false, .string ⟨#[]⟩, .slice none 0 0, .slice none 0 0, .int .u64 0] 28)) (.cells #[.int .i64 2, .int .i64 0, .int .i64 0, .bool false, .string ⟨#[]⟩, .slice (some ⟨w.heap.size + 1 + 1, 0, none⟩) 8 8, .slice (some ⟨w.heap.size + 1 + 1 + 1, 0, none⟩) 8 8, .int .u64 0] 28)
  have b3 := lit_below ((w.alloc (.cells #[.int .i64 0, .int .i64 0, .int .i64 0, .bool false, .string ⟨#[]⟩, .slice none 0 0, .slice none 0 0, .int .u64 0] 28)).alloc (.cells #[.int .i64 2, .int .i64 0, .int .i64 0, .bool false, .string ⟨#[]⟩, .slice (some ⟨w.heap.size + 1 + 1, 0, none⟩) 8 8, .slice (some ⟨w.heap.size + 1 + 1 + 1, 0, none⟩) 8 8, .int .u64 0] 28)) (.cells (madeCells #[Value.int .i64 0] 8) 3)
  have b4 := lit_below (((w.alloc (.cells #[.int .i64 0, .int .i64 0, .int .i64 0, .bool false, .string ⟨#[]⟩, .slice none 0 0, .slice none 0 0, .int .u64 0] 28)).alloc (.cells #[.int .i64 2, .int .i64 0, .int .i64 0, .bool false, .string ⟨#[]⟩, .slice (some ⟨w.heap.size + 1 + 1, 0, none⟩) 8 8, .slice (some ⟨w.heap.size + 1 + 1 + 1, 0, none⟩) 8 8, .int .u64 0] 28)).alloc (.cells (madeCells #[Value.int .i64 0] 8) 3)) (.cells (madeCells #[Value.int .i64 0] 8) 3)
  have hB := Kept.mk (((b1.trans (b2.mono b1.size)).trans (b3.mono (b1.trans (b2.mono b1.size)).size)).trans (b4.mono ((b1.trans (b2.mono b1.size)).trans (b3.mono (b1.trans (b2.mono b1.size)).size)).size))
  have HZ := Kept.mk ((((cellsN_at w 28 [.int .i64 0, .int .i64 0, .int .i64 0, .bool false, .string ⟨#[]⟩, .slice none 0 0, .slice none 0 0, .int .u64 0] w.heap.size rfl).keep b2 (by simp <;> omega)).keep b3 (by simp <;> omega)).keep b4 (by simp <;> omega))
  have HF := Kept.mk ((((free5_at w #[.int .i64 0, .int .i64 0, .int .i64 0, .bool false, .string ⟨#[]⟩, .slice none 0 0, .slice none 0 0, .int .u64 0] 28 w.heap.size rfl).keep b2 (by simp <;> omega)).keep b3 (by simp <;> omega)).keep b4 (by simp <;> omega))
  have r1 := (World.rowIs_made ((w.alloc (.cells #[.int .i64 0, .int .i64 0, .int .i64 0, .bool false, .string ⟨#[]⟩, .slice none 0 0, .slice none 0 0, .int .u64 0] 28)).alloc (.cells #[.int .i64 2, .int .i64 0, .int .i64 0, .bool false, .string ⟨#[]⟩, .slice (some ⟨w.heap.size + 1 + 1, 0, none⟩) 8 8, .slice (some ⟨w.heap.size + 1 + 1 + 1, 0, none⟩) 8 8, .int .u64 0] 28)) (.int .i64 0) 8 3).of_block (b4.block _ (by simp))
  have r2 := World.rowIs_made (((w.alloc (.cells #[.int .i64 0, .int .i64 0, .int .i64 0, .bool false, .string ⟨#[]⟩, .slice none 0 0, .slice none 0 0, .int .u64 0] 28)).alloc (.cells #[.int .i64 2, .int .i64 0, .int .i64 0, .bool false, .string ⟨#[]⟩, .slice (some ⟨w.heap.size + 1 + 1, 0, none⟩) 8 8, .slice (some ⟨w.heap.size + 1 + 1 + 1, 0, none⟩) 8 8, .int .u64 0] 28)).alloc (.cells (madeCells #[Value.int .i64 0] 8) 3)) (.int .i64 0) 8 3
  rw [show ((w.alloc (.cells #[.int .i64 0, .int .i64 0, .int .i64 0, .bool false, .string ⟨#[]⟩, .slice none 0 0, .slice none 0 0, .int .u64 0] 28)).alloc (.cells #[.int .i64 2, .int .i64 0, .int .i64 0, .bool false, .string ⟨#[]⟩, .slice (some ⟨w.heap.size + 1 + 1, 0, none⟩) 8 8, .slice (some ⟨w.heap.size + 1 + 1 + 1, 0, none⟩) 8 8, .int .u64 0] 28)).heap.size = w.heap.size + 1 + 1 by simp] at r1
  rw [show (((w.alloc (.cells #[.int .i64 0, .int .i64 0, .int .i64 0, .bool false, .string ⟨#[]⟩, .slice none 0 0, .slice none 0 0, .int .u64 0] 28)).alloc (.cells #[.int .i64 2, .int .i64 0, .int .i64 0, .bool false, .string ⟨#[]⟩, .slice (some ⟨w.heap.size + 1 + 1, 0, none⟩) 8 8, .slice (some ⟨w.heap.size + 1 + 1 + 1, 0, none⟩) 8 8, .int .u64 0] 28)).alloc (.cells (madeCells #[Value.int .i64 0] 8) 3)).heap.size = w.heap.size + 1 + 1 + 1 by simp] at r2
  have hmk : ∀ W : World, (Instr.makeSlice 23 (.int .i64 8) (.int .i64 8)).run Tryz.prog W = .ok (.slice (some ⟨W.heap.size, 0, none⟩) 8 8) (W.alloc (.cells (madeCells #[Value.int .i64 0] 8) 3)) := fun W => run_make_row' (P := Tryz.prog) 23 3 (.int .i64 0) 8 Tryz.underlying23 Tryz.infoInt rfl .i64 .i64 8 (by omega) (by omega) W
  obtain ⟨hBK, K4, K5⟩ := vset (leastF 2) (.slice (some ⟨w.heap.size + 1 + 1, 0, none⟩) 8 8) (.slice (some ⟨w.heap.size + 1 + 1 + 1, 0, none⟩) 8 8) (g := w.heap.size) (Nat.le_refl _) hB.out HZ.out rfl (cells_row8 (f := fun _ => 0) r1 (by decide)) (cells_row8 (f := fun _ => 0) r2 (by decide)) (by simp [blk]; omega) (by simp [blk]; omega)
  obtain ⟨hc', hp', hm'⟩ := K4.out
  clear K4 b1 b2 b3 b4 r1 r2
  go_enter Tryz.func111, Tryz.ntmps111
  go_wp2_with (have hz0 := K5; refine wpList_storeN 28 rfl (.tmp 2) (.tmp 20) rfl w.heap.size [.int .i64 2, .int .i64 0, .int .i64 0, .bool false, .string ⟨#[]⟩, .slice (some ⟨w.heap.size + 1 + 1, 0, none⟩) 8 8, .slice (some ⟨w.heap.size + 1 + 1 + 1, 0, none⟩) 8 8, .int .u64 0] size_va rfl rfl HZ.out rfl HF.out K5.out ?_; clear hz0 K5)
  exact bodyPost_ret (resultsN2 rfl _ _ w.heap.size _ (.int .i64 0) size_va agg_va rfl rfl hc') rfl ⟨_, rfl, ⟨(.slice (some ⟨w.heap.size + 1 + 1, 0, none⟩) 8 8), (.slice (some ⟨w.heap.size + 1 + 1 + 1, 0, none⟩) 8 8), rfl, hp', hm'⟩, hBK.out⟩
set_option maxRecDepth 20000 in
set_option maxHeartbeats 2000000 in
theorem rleast_lo (k : Int) (hk : k < 1) (w : World) : Calls Tryz.prog 111 #[.int .i64 k] w fun e w' => ∃ v', e = .returned (.tuple #[v', .int .i64 3]) ∧ isVa zeroV v' w' ∧ Below w.heap.size w w' := by
  have b1 := lit_below w (.cells #[.int .i64 0, .int .i64 0, .int .i64 0, .bool false, .string ⟨#[]⟩, .slice none 0 0, .slice none 0 0, .int .u64 0] 28)
  have b2 := lit_below (w.alloc (.cells #[.int .i64 0, .int .i64 0, .int .i64 0, .bool false, .string ⟨#[]⟩, .slice none 0 0, .slice none 0 0, .int .u64 0] 28)) (.cells #[.int .i64 k, .int .i64 0, .int .i64 0, .bool false, .string ⟨#[]⟩, .slice none 0 0, .slice none 0 0, .int .u64 0] 28)
  have hB := Kept.mk (b1.trans (b2.mono b1.size))
  have HZ := Kept.mk ((cellsN_at w 28 [.int .i64 0, .int .i64 0, .int .i64 0, .bool false, .string ⟨#[]⟩, .slice none 0 0, .slice none 0 0, .int .u64 0] w.heap.size rfl).keep b2 (by simp <;> omega))
  have HF := Kept.mk ((free5_at w #[.int .i64 0, .int .i64 0, .int .i64 0, .bool false, .string ⟨#[]⟩, .slice none 0 0, .slice none 0 0, .int .u64 0] 28 w.heap.size rfl).keep b2 (by simp <;> omega))
  obtain ⟨hBK, K4, K5⟩ := vset zeroV (.slice none 0 0) (.slice none 0 0) (g := w.heap.size) (Nat.le_refl _) hB.out HZ.out rfl (.inl ⟨rfl, rfl⟩) (.inl ⟨rfl, rfl⟩) (by intro h; cases h) (by intro h; cases h)
  obtain ⟨hc', hp', hm'⟩ := K4.out
  clear K4 b1 b2
  have d1 : decide (k < 1) = true := by simpa using hk
  clear hk
  go_enter Tryz.func111, Tryz.ntmps111
  go_wp2_with (have hz0 := K5; refine wpList_storeN 28 rfl (.tmp 2) (.tmp 13) rfl w.heap.size [.int .i64 0, .int .i64 0, .int .i64 0, .bool false, .string ⟨#[]⟩, .slice none 0 0, .slice none 0 0, .int .u64 0] size_va rfl rfl HZ.out rfl HF.out K5.out ?_; clear hz0 K5)
  exact bodyPost_ret (resultsN2 rfl _ _ w.heap.size _ (.int .i64 3) size_va agg_va rfl rfl hc') rfl ⟨_, rfl, ⟨(.slice none 0 0), (.slice none 0 0), rfl, hp', hm'⟩, hBK.out⟩
set_option maxRecDepth 20000 in
set_option maxHeartbeats 2000000 in
theorem rleast_hi (k : Int) (hk : 3 < k) (w : World) : Calls Tryz.prog 111 #[.int .i64 k] w fun e w' => ∃ v', e = .returned (.tuple #[v', .int .i64 3]) ∧ isVa zeroV v' w' ∧ Below w.heap.size w w' := by
  have b1 := lit_below w (.cells #[.int .i64 0, .int .i64 0, .int .i64 0, .bool false, .string ⟨#[]⟩, .slice none 0 0, .slice none 0 0, .int .u64 0] 28)
  have b2 := lit_below (w.alloc (.cells #[.int .i64 0, .int .i64 0, .int .i64 0, .bool false, .string ⟨#[]⟩, .slice none 0 0, .slice none 0 0, .int .u64 0] 28)) (.cells #[.int .i64 k, .int .i64 0, .int .i64 0, .bool false, .string ⟨#[]⟩, .slice none 0 0, .slice none 0 0, .int .u64 0] 28)
  have hB := Kept.mk (b1.trans (b2.mono b1.size))
  have HZ := Kept.mk ((cellsN_at w 28 [.int .i64 0, .int .i64 0, .int .i64 0, .bool false, .string ⟨#[]⟩, .slice none 0 0, .slice none 0 0, .int .u64 0] w.heap.size rfl).keep b2 (by simp <;> omega))
  have HF := Kept.mk ((free5_at w #[.int .i64 0, .int .i64 0, .int .i64 0, .bool false, .string ⟨#[]⟩, .slice none 0 0, .slice none 0 0, .int .u64 0] 28 w.heap.size rfl).keep b2 (by simp <;> omega))
  obtain ⟨hBK, K4, K5⟩ := vset zeroV (.slice none 0 0) (.slice none 0 0) (g := w.heap.size) (Nat.le_refl _) hB.out HZ.out rfl (.inl ⟨rfl, rfl⟩) (.inl ⟨rfl, rfl⟩) (by intro h; cases h) (by intro h; cases h)
  obtain ⟨hc', hp', hm'⟩ := K4.out
  clear K4 b1 b2
  have d1 : decide (k < 1) = false := by simp; omega
  have d2 : decide (3 < k) = true := by simpa using hk
  clear hk
  go_enter Tryz.func111, Tryz.ntmps111
  go_wp2_with (have hz0 := K5; refine wpList_storeN 28 rfl (.tmp 2) (.tmp 13) rfl w.heap.size [.int .i64 0, .int .i64 0, .int .i64 0, .bool false, .string ⟨#[]⟩, .slice none 0 0, .slice none 0 0, .int .u64 0] size_va rfl rfl HZ.out rfl HF.out K5.out ?_; clear hz0 K5)
  exact bodyPost_ret (resultsN2 rfl _ _ w.heap.size _ (.int .i64 3) size_va agg_va rfl rfl hc') rfl ⟨_, rfl, ⟨(.slice none 0 0), (.slice none 0 0), rfl, hp', hm'⟩, hBK.out⟩
theorem rleast_any (k : Int) (w : World) : Calls Tryz.prog 111 #[.int .i64 k] w fun e w' => ∃ v', e = .returned (.tuple #[v', .int .i64 (leastE k)]) ∧ isVa (leastF k) v' w' ∧ Below w.heap.size w w' := by
  by_cases h1 : k = 1
  · subst h1; exact rleast_1 w
  · by_cases h2 : k = 2
    · subst h2; exact rleast_2 w
    · by_cases h3 : k = 3
      · subst h3; exact rleast_3 w
      · rw [show leastE k = 3 by unfold leastE; rw [if_neg (by omega)], show leastF k = zeroV by unfold leastF; rw [if_neg h1, if_neg h2, if_neg h3]]
        by_cases h4 : k < 1
        · exact rleast_lo k h4 w
        · exact rleast_hi k (by omega) w
end Go.Proofs.YtbgconagkgfplaaGreat
end
section
namespace Go.Proofs.YtbgconagkgfplaaGreat
open Go.RowKit Go.Shelf
set_option linter.unusedVariables false
set_option linter.unusedSimpArgs false
attribute [local irreducible] setN

theorem rfindP (A : Ar) (kind : Int) (key : List UInt8) (p : Int) (v : Value) (w : World) (hv : isAr A v w) (hF : FitA A) (hp : findI A (nameE kind key) = p) : Calls Tryz.prog 65 #[v, .int .i64 kind, .string ⟨key.toArray⟩] w fun e w' => e = .returned (.int .i64 p) ∧ Below w.heap.size w w' := by subst hp; exact rfind_any A kind key v w hv hF
/-- A row of eight numbers does not stand in a value's cell. -/
theorem row_off {w : World} {g : Nat} {v : Value} {T : TypeId} (hg : w.heap[g]? = some (.cells #[.int .i64 0, .int .i64 0, .int .i64 0, .bool false, .string ⟨#[]⟩, .slice none 0 0, .slice none 0 0, .int .u64 0] T (0, 0))) {l : List Int} (hl : l.length = 8 ∨ l = []) (h : isCells (l.map intC) v w) : l.map intC = [] ∨ blk v ≠ some g := by
  rcases hl with hl | rfl
  · rcases h with ⟨_, h0⟩ | ⟨_, _, _, h0⟩ | ⟨b, off, cap, rfl, hlt, hc⟩
    · exact .inl h0
    · exact .inl h0
    · refine .inr fun e => ?_
      injection e with e
      have e : b = g := e
      subst e
      have key : ∀ j, j < 8 → ∃ n : Int, (#[.int .i64 0, .int .i64 0, .int .i64 0, .bool false, .string ⟨#[]⟩, .slice none 0 0, .slice none 0 0, .int .u64 0] : Array Value)[off + j]? = some (.int .i64 n) := fun j hj => by
        obtain ⟨x, hx⟩ : ∃ x, l[j]? = some x := ⟨_, List.getElem?_eq_getElem (by omega)⟩
        have := hc j (intC x) (by rw [List.getElem?_map, hx]; rfl)
        refine ⟨x, ?_⟩
        simp only [World.cell?, hg] at this
        exact this
      by_cases h3 : off ≤ 3
      · obtain ⟨n, hn⟩ := key (3 - off) (by omega)
        rw [show off + (3 - off) = 3 by omega] at hn
        simp at hn
      · obtain ⟨n, hn⟩ := key 0 (by omega)
        have h8 : off < 8 := by
          have := (Array.getElem?_eq_some_iff.1 hn).1
          simpa using this
        have : off = 4 ∨ off = 5 ∨ off = 6 ∨ off = 7 := by omega
        rcases this with rfl | rfl | rfl | rfl <;> simp at hn
  · exact .inl rfl
theorem rows8 (k : Int) : ((leastF k).plus.length = 8 ∨ (leastF k).plus = []) ∧ ((leastF k).minus.length = 8 ∨ (leastF k).minus = []) := by
  unfold leastF
  split
  · exact ⟨.inr rfl, .inr rfl⟩
  · split
    · exact ⟨.inl rfl, .inl rfl⟩
    · split <;> exact ⟨.inr rfl, .inr rfl⟩
set_option maxRecDepth 100000 in
set_option maxHeartbeats 2000000 in
theorem rval_no' (A : Ar) (kind : Int) (key : List UInt8) (v : Value) (w : World) (hv : isAr A v w) (hF : FitA A) (hk : leastE kind = 0) (hh : heldB A kind key = false) : Calls Tryz.prog 66 #[v, .int .i64 kind, .string ⟨key.toArray⟩] w fun e w' => ∃ v', e = .returned v' ∧ isVa (leastF kind) v' w' ∧ Below w.heap.size w w' := by
  obtain ⟨vs, vi, rfl, hs, hi⟩ := hv
  have HB := Kept.mk (show Below w.heap.size w ((w.alloc (.cells #[.int .i64 A.cap, vs, vi] 25)).alloc (.cells #[.int .i64 0, .int .i64 0, .int .i64 0, .bool false, .string ⟨#[]⟩, .slice none 0 0, .slice none 0 0, .int .u64 0] 28)) from ((Below.refl _ w).alloc (Nat.le_refl _) _).alloc (by simp) _)
  have XA := Kept.mk (show isAr A (.agg #[.int .i64 A.cap, vs, vi]) ((w.alloc (.cells #[.int .i64 A.cap, vs, vi] 25)).alloc (.cells #[.int .i64 0, .int .i64 0, .int .i64 0, .bool false, .string ⟨#[]⟩, .slice none 0 0, .slice none 0 0, .int .u64 0] 28)) from stable_ar A _ _ _ ⟨vs, vi, rfl, hs, hi⟩ HB.out)
  have BA := Kept.mk ((Blk.new w 25 [.int .i64 A.cap, vs, vi] w.heap.size rfl).alloc (.cells #[.int .i64 0, .int .i64 0, .int .i64 0, .bool false, .string ⟨#[]⟩, .slice none 0 0, .slice none 0 0, .int .u64 0] 28))
  have BR := Kept.mk (Blk.new (w.alloc (.cells #[.int .i64 A.cap, vs, vi] 25)) 28 [.int .i64 0, .int .i64 0, .int .i64 0, .bool false, .string ⟨#[]⟩, .slice none 0 0, .slice none 0 0, .int .u64 0] (w.heap.size + 1) (by simp))
  have HG := Kept.mk (show ((w.alloc (.cells #[.int .i64 A.cap, vs, vi] 25)).alloc (.cells #[.int .i64 0, .int .i64 0, .int .i64 0, .bool false, .string ⟨#[]⟩, .slice none 0 0, .slice none 0 0, .int .u64 0] 28)).heap[w.heap.size + 1]? = some (.cells #[.int .i64 0, .int .i64 0, .int .i64 0, .bool false, .string ⟨#[]⟩, .slice none 0 0, .slice none 0 0, .int .u64 0] 28 (0, 0)) by have h := heap_alloc_new (w.alloc (.cells #[.int .i64 A.cap, vs, vi] 25)) (.cells #[.int .i64 0, .int .i64 0, .int .i64 0, .bool false, .string ⟨#[]⟩, .slice none 0 0, .slice none 0 0, .int .u64 0] 28); simpa using h)
  have ka0 := BA.out.cells.2 0 _ rfl
  have ka1 := BA.out.cells.2 1 _ rfl
  have ka2 := BA.out.cells.2 2 _ rfl
  obtain ⟨p, hp⟩ : ∃ p, findI A (nameE kind key) = p := ⟨_, rfl⟩
  have HP := Kept.mk hp
  have h0 : p < 0 := by unfold heldB at hh; rw [hp] at hh; have := of_decide_eq_false hh; omega
  obtain ⟨V, hV⟩ : ∃ V, leastF kind = V := ⟨_, rfl⟩
  have hr8 := rows8 kind
  rw [hV] at hr8 ⊢
  have HL := Kept.mk (fun w => by have h := rleast_any kind w; rw [hV, hk] at h; exact h)
  clear hp hs hi hh hV hk
  go_enter Tryz.func66, Tryz.ntmps66
  go_wp2_with fail
  generalize ((w.alloc (.cells #[.int .i64 A.cap, vs, vi] 25)).alloc (.cells #[.int .i64 0, .int .i64 0, .int .i64 0, .bool false, .string ⟨#[]⟩, .slice none 0 0, .slice none 0 0, .int .u64 0] 28)) = W0 at *
  refine (rfindP A kind key _ _ _ XA.out hF HP.out).mono ?_
  rintro e W1 ⟨rfl, hb⟩
  replace HB := Kept.mk (HB.out.trans (hb.mono HB.out.size))
  replace BA := Kept.mk (BA.out.keep hb)
  have hlr := BR.out.lt
  replace HG := Kept.mk ((hb.block (w.heap.size + 1) hlr).trans HG.out)
  replace BR := Kept.mk (BR.out.keep hb)
  clear hb XA ka0 ka1 ka2 hlr
  go_wp2_with fail
  refine (HL.out W1).mono ?_
  rintro e U ⟨v', rfl, ⟨p', m', rfl, hp', hm'⟩, hb⟩
  have hlr := BR.out.lt
  have HG2 := (hb.block (w.heap.size + 1) hlr).trans HG.out
  have n1 := row_off HG2 hr8.1 hp'
  have n2 := row_off HG2 hr8.2 hm'
  obtain ⟨K1, K2, K3, K4, K5⟩ := vnew U V p' m' hp' hm' U.heap.size rfl
  replace HB := Kept.mk ((HB.out.trans (hb.mono HB.out.size)))
  replace HB := Kept.mk (HB.out.trans (K3.out.mono HB.out.size))
  replace BR := Kept.mk ((BR.out.keep hb).keep K3.out)
  have K6 := Kept.mk K4.out
  obtain ⟨J1, J2, J3⟩ := vset3 V p' m' (g := w.heap.size + 1) (B := w.heap.size) (by omega) HB.out BR.out.cells rfl K6.out.2.1 K6.out.2.2 n1 n2
  clear hb hp' hm' n1 n2 HG HG2 BA hlr
  go_wp2_with (first
    | (have hz0 := K1; refine wpList_storeN 28 rfl (.tmp 8) (.tmp 19) rfl U.heap.size [.int .i64 V.kind, .int .i64 V.time, .int .i64 V.node, .bool V.dead, .string ⟨V.text.toArray⟩, p', m', .int .u64 (V.flags.toNat : Int)] size_va rfl rfl K1.out rfl K2.out K5.out ?_; clear hz0 K1 K2 K3 K4 K5; generalize setN (U.alloc (.cells #[.int .i64 0, .int .i64 0, .int .i64 0, .bool false, .string ⟨#[]⟩, .slice none 0 0, .slice none 0 0, .int .u64 0] 28)) U.heap.size 0 [.int .i64 V.kind, .int .i64 V.time, .int .i64 V.node, .bool V.dead, .string ⟨V.text.toArray⟩, p', m', .int .u64 (V.flags.toNat : Int)] = W2 at *; have k0 := K6.out.1.2 0 _ rfl; have k1 := K6.out.1.2 1 _ rfl; have k2 := K6.out.1.2 2 _ rfl; have k3 := K6.out.1.2 3 _ rfl; have k4 := K6.out.1.2 4 _ rfl; have k5 := K6.out.1.2 5 _ rfl; have k6 := K6.out.1.2 6 _ rfl; have k7 := K6.out.1.2 7 _ rfl)
    | (have hz1 := J3; refine wpList_storeN 28 rfl (.tmp 6) (.tmp 21) rfl (w.heap.size + 1) [.int .i64 V.kind, .int .i64 V.time, .int .i64 V.node, .bool V.dead, .string ⟨V.text.toArray⟩, p', m', .int .u64 (V.flags.toNat : Int)] size_va rfl rfl BR.out.cells rfl BR.out.free J3.out ?_; clear hz1))
  exact bodyPost_ret (resultsN1 rfl _ _ (w.heap.size + 1) [.int .i64 V.kind, .int .i64 V.time, .int .i64 V.node, .bool V.dead, .string ⟨V.text.toArray⟩, p', m', .int .u64 (V.flags.toNat : Int)] size_va agg_va rfl J2.out.1) rfl ⟨_, rfl, ⟨p', m', rfl, J2.out.2.1, J2.out.2.2⟩, J1.out⟩
set_option maxRecDepth 100000 in
set_option maxHeartbeats 2000000 in
theorem rval_yes' (A : Ar) (kind : Int) (key : List UInt8) (V : Va) (v : Value) (w : World) (hv : isAr A v w) (hF : FitA A) (hh : heldB A kind key = true) (hV : heldV A kind key = V) : Calls Tryz.prog 66 #[v, .int .i64 kind, .string ⟨key.toArray⟩] w fun e w' => ∃ v', e = .returned v' ∧ isVa V v' w' ∧ Below w.heap.size w w' := by
  obtain ⟨vs, vi, rfl, hs, hi⟩ := hv
  have HB := Kept.mk (show Below w.heap.size w ((w.alloc (.cells #[.int .i64 A.cap, vs, vi] 25)).alloc (.cells #[.int .i64 0, .int .i64 0, .int .i64 0, .bool false, .string ⟨#[]⟩, .slice none 0 0, .slice none 0 0, .int .u64 0] 28)) from ((Below.refl _ w).alloc (Nat.le_refl _) _).alloc (by simp) _)
  have XA := Kept.mk (show isAr A (.agg #[.int .i64 A.cap, vs, vi]) ((w.alloc (.cells #[.int .i64 A.cap, vs, vi] 25)).alloc (.cells #[.int .i64 0, .int .i64 0, .int .i64 0, .bool false, .string ⟨#[]⟩, .slice none 0 0, .slice none 0 0, .int .u64 0] 28)) from stable_ar A _ _ _ ⟨vs, vi, rfl, hs, hi⟩ HB.out)
  have BA := Kept.mk ((Blk.new w 25 [.int .i64 A.cap, vs, vi] w.heap.size rfl).alloc (.cells #[.int .i64 0, .int .i64 0, .int .i64 0, .bool false, .string ⟨#[]⟩, .slice none 0 0, .slice none 0 0, .int .u64 0] 28))
  have BR := Kept.mk (Blk.new (w.alloc (.cells #[.int .i64 A.cap, vs, vi] 25)) 28 [.int .i64 0, .int .i64 0, .int .i64 0, .bool false, .string ⟨#[]⟩, .slice none 0 0, .slice none 0 0, .int .u64 0] (w.heap.size + 1) (by simp))
  have HG := Kept.mk (show ((w.alloc (.cells #[.int .i64 A.cap, vs, vi] 25)).alloc (.cells #[.int .i64 0, .int .i64 0, .int .i64 0, .bool false, .string ⟨#[]⟩, .slice none 0 0, .slice none 0 0, .int .u64 0] 28)).heap[w.heap.size + 1]? = some (.cells #[.int .i64 0, .int .i64 0, .int .i64 0, .bool false, .string ⟨#[]⟩, .slice none 0 0, .slice none 0 0, .int .u64 0] 28 (0, 0)) by have h := heap_alloc_new (w.alloc (.cells #[.int .i64 A.cap, vs, vi] 25)) (.cells #[.int .i64 0, .int .i64 0, .int .i64 0, .bool false, .string ⟨#[]⟩, .slice none 0 0, .slice none 0 0, .int .u64 0] 28); simpa using h)
  have ka0 := BA.out.cells.2 0 _ rfl
  have ka1 := BA.out.cells.2 1 _ rfl
  have ka2 := BA.out.cells.2 2 _ rfl
  obtain ⟨p, hp⟩ : ∃ p, findI A (nameE kind key) = p := ⟨_, rfl⟩
  have HP := Kept.mk hp
  have hp0 : 0 ≤ findI A (nameE kind key) := by unfold heldB at hh; exact of_decide_eq_true hh
  have hE : (slotAt A.slots (findI A (nameE kind key))).val = V := by unfold heldV at hV; rw [if_pos hp0] at hV; exact hV
  obtain ⟨q, hq, hql, hqs, hqo⟩ := find_range hp0
  rw [hp] at hq
  subst hq
  generalize slotAt A.slots (findI A (nameE kind key)) = E at hqs hqo hE
  subst hE
  obtain ⟨b, off, cap, ea, hbl, ep, em, hec, hep, hem⟩ := hs.get hqs
  have HEA := Kept.mk ea
  have HEP := Kept.mk hep
  have HEM := Kept.mk hem
  have HEC := Kept.mk hec
  have hl := hF.slots
  have hq1 : (q : Int) < (A.slots.length : Int) := by omega
  have h0 : ¬ ((q : Int) < 0) := by omega
  clear hp hi hh hV hqs hqo hp0 hs hep hem hec ea
  go_enter Tryz.func66, Tryz.ntmps66
  go_wp2_with fail
  generalize ((w.alloc (.cells #[.int .i64 A.cap, vs, vi] 25)).alloc (.cells #[.int .i64 0, .int .i64 0, .int .i64 0, .bool false, .string ⟨#[]⟩, .slice none 0 0, .slice none 0 0, .int .u64 0] 28)) = W0 at *
  refine (rfindP A kind key _ _ _ XA.out hF HP.out).mono ?_
  rintro e W1 ⟨rfl, hb⟩
  replace HB := Kept.mk (HB.out.trans (hb.mono HB.out.size))
  replace BA := Kept.mk (BA.out.keep hb)
  have hlr := BR.out.lt
  replace HG := Kept.mk ((hb.block (w.heap.size + 1) hlr).trans HG.out)
  replace BR := Kept.mk (BR.out.keep hb)
  clear hb XA ka0 ka1 ka2 hlr
  have kb1 := BA.out.cells.2 1 _ rfl
  rw [HEA.out] at kb1
  have ke0 : W1.cell? ⟨b, off + q * 9, none⟩ = _ := (HB.out.cell (p := ⟨b, off + q * 9 + 0, none⟩) hbl).trans (HEC.out 0 _ rfl)
  have ke1 : W1.cell? ⟨b, off + q * 9 + 1, none⟩ = _ := (HB.out.cell (p := ⟨b, off + q * 9 + 1, none⟩) hbl).trans (HEC.out 1 _ rfl)
  have ke2 : W1.cell? ⟨b, off + q * 9 + 2, none⟩ = _ := (HB.out.cell (p := ⟨b, off + q * 9 + 2, none⟩) hbl).trans (HEC.out 2 _ rfl)
  have ke3 : W1.cell? ⟨b, off + q * 9 + 3, none⟩ = _ := (HB.out.cell (p := ⟨b, off + q * 9 + 3, none⟩) hbl).trans (HEC.out 3 _ rfl)
  have ke4 : W1.cell? ⟨b, off + q * 9 + 4, none⟩ = _ := (HB.out.cell (p := ⟨b, off + q * 9 + 4, none⟩) hbl).trans (HEC.out 4 _ rfl)
  have ke5 : W1.cell? ⟨b, off + q * 9 + 5, none⟩ = _ := (HB.out.cell (p := ⟨b, off + q * 9 + 5, none⟩) hbl).trans (HEC.out 5 _ rfl)
  have ke6 : W1.cell? ⟨b, off + q * 9 + 6, none⟩ = _ := (HB.out.cell (p := ⟨b, off + q * 9 + 6, none⟩) hbl).trans (HEC.out 6 _ rfl)
  have ke7 : W1.cell? ⟨b, off + q * 9 + 7, none⟩ = _ := (HB.out.cell (p := ⟨b, off + q * 9 + 7, none⟩) hbl).trans (HEC.out 7 _ rfl)
  have ke8 : W1.cell? ⟨b, off + q * 9 + 8, none⟩ = _ := (HB.out.cell (p := ⟨b, off + q * 9 + 8, none⟩) hbl).trans (HEC.out 8 _ rfl)
  generalize A.slots.length = n at *
  obtain ⟨J1, J2, J3⟩ := vset3 E.val ep em (g := w.heap.size + 1) (B := w.heap.size) (by omega) HB.out BR.out.cells rfl (stable_cells _ _ _ _ HEP.out HB.out) (stable_cells _ _ _ _ HEM.out HB.out) (old_ne HEP.out (by omega)) (old_ne HEM.out (by omega))
  clear BA HG
  go_wp2_with (have hz0 := J3; refine wpList_storeN 28 rfl (.tmp 6) (.tmp 27) rfl (w.heap.size + 1) [.int .i64 E.val.kind, .int .i64 E.val.time, .int .i64 E.val.node, .bool E.val.dead, .string ⟨E.val.text.toArray⟩, ep, em, .int .u64 (E.val.flags.toNat : Int)] size_va rfl rfl BR.out.cells rfl BR.out.free J3.out ?_; clear hz0)
  exact bodyPost_ret (resultsN1 rfl _ _ (w.heap.size + 1) [.int .i64 E.val.kind, .int .i64 E.val.time, .int .i64 E.val.node, .bool E.val.dead, .string ⟨E.val.text.toArray⟩, ep, em, .int .u64 (E.val.flags.toNat : Int)] size_va agg_va rfl J2.out.1) rfl ⟨_, rfl, ⟨ep, em, rfl, J2.out.2.1, J2.out.2.2⟩, J1.out⟩
theorem rval_at (A : Ar) (kind : Int) (key : List UInt8) (V : Va) (v : Value) (w : World) (hv : isAr A v w) (hF : FitA A) (hk : leastE kind = 0) (hV : heldV A kind key = V) : Calls Tryz.prog 66 #[v, .int .i64 kind, .string ⟨key.toArray⟩] w fun e w' => ∃ v', e = .returned v' ∧ isVa V v' w' ∧ Below w.heap.size w w' := by
  cases hh : heldB A kind key with
  | true => exact rval_yes' A kind key V v w hv hF hh hV
  | false =>
    have h := rval_no' A kind key v w hv hF hk hh
    rwa [show leastF kind = V by rw [← hV]; unfold heldV; rw [if_neg (by unfold heldB at hh; exact of_decide_eq_false hh)]] at h
theorem fld_va3 (a b c : Int) (d : Bool) (t : ByteArray) (p m : Value) (f : Int) (w : World) : (Instr.field 28 (.agg #[.int .i64 a, .int .i64 b, .int .i64 c, .bool d, .string t, p, m, .int .u64 f]) 3).run Tryz.prog w = .ok (.bool d) w := by
  simp [Instr.field, run_underlying Tryz.underlying28, asAgg, part]
end Go.Proofs.YtbgconagkgfplaaGreat
end
section
namespace Go.Proofs.YtbgconagkgfplaaGreat
open Go.RowKit Go.Shelf
set_option linter.unusedVariables false
set_option linter.unusedSimpArgs false
attribute [local irreducible] setN

def canE (A : Ar) (node : Int) (key : List UInt8) : Int := firstE [chkA A, nodeE node, keyE key]
theorem rcheckP (A : Ar) (r : Bool) (v : Value) (w : World) (hv : isAr A v w) (hF : FitA A) (ho : okA A = r) : Calls Tryz.prog 100 #[v] w fun e w' => e = .returned (.bool r) ∧ Below w.heap.size w w' := by subst ho; exact rcheckA_any A v w hv hF
theorem nil_cells {v : Value} {w w' : World} (h : isCells [] v w) : isCells [] v w' := by
  rcases h with h | h | ⟨b, off, cap, e, _, _⟩
  · exact .inl h
  · exact .inr (.inl h)
  · exact .inr (.inl ⟨_, _, e, rfl⟩)
set_option maxRecDepth 100000 in
set_option maxHeartbeats 2000000 in
theorem rcan_any (A : Ar) (node : Int) (key : List UInt8) (v : Value) (w : World) (hv : isAr A v w) (hF : FitA A) (hk : key.length ≤ 1000) : Calls Tryz.prog 61 #[v, .int .i64 node, .string ⟨key.toArray⟩] w fun e w' => e = .returned (.int .i64 (canE A node key)) ∧ Below w.heap.size w w' := by
  obtain ⟨pa, ma, rfl, hpa, hma⟩ := hv
  obtain ⟨hB, Va⟩ := abox w A pa ma hpa hma (w.heap.size) (by simp)
  clear hpa hma
  obtain ⟨r, hr⟩ : ∃ r, canE A node key = r := ⟨_, rfl⟩
  rw [hr]
  have HR := Kept.mk hr
  clear hr
  go_enter Tryz.func61, Tryz.ntmps61
  obtain ⟨qa, ra, xa, sa, ia, ka0, ka1, ka2⟩ := Va.out.open_
  have Xa := Kept.mk xa
  have Sa := Kept.mk sa
  have Ia := Kept.mk ia
  clear xa sa ia
  go_wp2_with fail
  cases ho : okA A with
  | false =>
    have HO := Kept.mk ho
    clear ho
    ((with_reducible refine (rcheckP A false _ _ Xa.out hF HO.out).mono ?_); rintro e W1 ⟨rfl, hb1⟩)
    clear Xa Sa Ia ka0 ka1 ka2
    replace hB := Kept.mk (hB.out.trans ((hb1).mono hB.out.size))
    replace Va := Kept.mk (Va.out.keep (hb1))
    clear hb1
    have HE := Kept.mk (show r = 2 by rw [← HR.out]; unfold canE firstE chkA; rw [HO.out]; rfl)
    go_wp2
    go_ret
    exact ⟨by rw [HE.out]; rfl, hB.out⟩
  | true =>
    have HO := Kept.mk ho
    clear ho
    ((with_reducible refine (rcheckP A true _ _ Xa.out hF HO.out).mono ?_); rintro e W1 ⟨rfl, hb1⟩)
    clear Xa Sa Ia ka0 ka1 ka2
    replace hB := Kept.mk (hB.out.trans ((hb1).mono hB.out.size))
    replace Va := Kept.mk (Va.out.keep (hb1))
    clear hb1
    have HC := Kept.mk (show r = if nodeE node = 0 then (if keyE key = 0 then 0 else keyE key) else nodeE node by rw [← HR.out]; unfold canE chkA; rw [if_pos HO.out]; rfl)
    have hz : (⟨key.toArray⟩ : ByteArray).size = key.length := by simp [ByteArray.size]
    by_cases h1 : node < 0
    · skip
      have HE := Kept.mk (show r = 10 by rw [HC.out]; unfold nodeE keyE; (repeat' split) <;> omega)
      clear HC
      go_wp2
      go_ret
      exact ⟨by rw [HE.out]; rfl, hB.out⟩
    by_cases h2 : 7 < node
    · skip
      have HE := Kept.mk (show r = 10 by rw [HC.out]; unfold nodeE keyE; (repeat' split) <;> omega)
      clear HC
      go_wp2
      go_ret
      exact ⟨by rw [HE.out]; rfl, hB.out⟩
    by_cases h3 : key.length < 1
    · skip
      have h3i : (key.length : Int) < 1 := by omega
      have HE := Kept.mk (show r = 6 by rw [HC.out]; unfold nodeE keyE; (repeat' split) <;> omega)
      clear HC
      go_wp2
      go_ret
      exact ⟨by rw [HE.out]; rfl, hB.out⟩
    have h3i : ¬ (key.length : Int) < 1 := by omega
    by_cases h4 : 8 < key.length
    · skip
      have h4i : (8 : Int) < key.length := by omega
      have HE := Kept.mk (show r = 6 by rw [HC.out]; unfold nodeE keyE; (repeat' split) <;> omega)
      clear HC
      go_wp2
      go_ret
      exact ⟨by rw [HE.out]; rfl, hB.out⟩
    have h4i : ¬ (8 : Int) < key.length := by omega
    have HE := Kept.mk (show r = 0 by rw [HC.out]; unfold nodeE keyE; (repeat' split) <;> omega)
    clear HC
    go_wp2
    go_ret
    exact ⟨by rw [HE.out]; rfl, hB.out⟩
set_option maxRecDepth 100000 in
set_option maxHeartbeats 2000000 in
theorem rroom_any (A : Ar) (kind : Int) (key : List UInt8) (v : Value) (w : World) (hv : isAr A v w) (hF : FitA A) (hA : OkA A) : Calls Tryz.prog 62 #[v, .int .i64 kind, .string ⟨key.toArray⟩] w fun e w' => e = .returned (.bool (roomE A (heldB A kind key) == 0)) ∧ Below w.heap.size w w' := by
  obtain ⟨pa, ma, rfl, hpa, hma⟩ := hv
  obtain ⟨hB, Va⟩ := abox w A pa ma hpa hma (w.heap.size) (by simp)
  clear hpa hma
  obtain ⟨p, hp⟩ : ∃ p, findI A (nameE kind key) = p := ⟨_, rfl⟩
  have HP := Kept.mk hp
  obtain ⟨z, hz⟩ : ∃ z, (roomE A (heldB A kind key) == 0) = z := ⟨_, rfl⟩
  rw [hz]
  have HZ := Kept.mk (show z = (decide (0 ≤ p) || decide ((A.slots.length : Int) < A.cap)) by rw [← hz]; unfold roomE heldB; rw [hp]; have := hA.fits; by_cases c : 0 ≤ p <;> by_cases d : (A.slots.length : Int) < A.cap <;> simp [c, d] <;> omega)
  clear hz hp
  go_enter Tryz.func62, Tryz.ntmps62
  obtain ⟨qa, ra, xa, sa, ia, ka0, ka1, ka2⟩ := Va.out.open_
  have Xa := Kept.mk xa
  have Sa := Kept.mk sa
  have Ia := Kept.mk ia
  clear xa sa ia
  go_wp2_with fail
  ((with_reducible refine (rfindP A kind key p _ _ Xa.out hF HP.out).mono ?_); rintro e W1 ⟨rfl, hb1⟩)
  clear Xa Sa Ia ka0 ka1 ka2
  replace hB := Kept.mk (hB.out.trans ((hb1).mono hB.out.size))
  replace Va := Kept.mk (Va.out.keep (hb1))
  clear hb1
  obtain ⟨qa, ra, xa, sa, ia, ka0, ka1, ka2⟩ := Va.out.open_
  have Xa := Kept.mk xa
  have Sa := Kept.mk sa
  have Ia := Kept.mk ia
  clear xa sa ia
  obtain ⟨sba, sca, rfl⟩ := Sa.out.len
  by_cases h1 : 0 ≤ p
  · skip
    have d1 : decide (0 ≤ p) = true := decide_eq_true h1
    have HE := Kept.mk (show z = true by rw [HZ.out]; simp; omega)
    clear HZ
    go_wp2
    go_ret
    exact ⟨by rw [HE.out]; rfl, hB.out⟩
  have d1 : decide (0 ≤ p) = false := decide_eq_false h1
  by_cases h2 : (A.slots.length : Int) < A.cap
  · skip
    have d2 : decide ((A.slots.length : Int) < A.cap) = true := decide_eq_true h2
    have HE := Kept.mk (show z = true by rw [HZ.out]; simp; omega)
    clear HZ
    go_wp2
    go_ret
    exact ⟨by rw [HE.out]; rfl, hB.out⟩
  have d2 : decide ((A.slots.length : Int) < A.cap) = false := decide_eq_false h2
  have HE := Kept.mk (show z = false by rw [HZ.out]; simp; omega)
  clear HZ
  go_wp2
  go_ret
  exact ⟨by rw [HE.out]; rfl, hB.out⟩
set_option maxRecDepth 100000 in
set_option maxHeartbeats 2000000 in
theorem rreg_anyD (A : Ar) (node : Int) (key : List UInt8) (dead : Bool) (text : List UInt8) (G : En) (r : Int) (v : Value) (w : World) (hv : isAr A v w) (hF : FitA A) (hr : timeE (heldV A 1 key) = r) (hG : (if r = 0 then regE key ((heldV A 1 key).time + 1) node dead text else zeroE) = G) : Calls Tryz.prog 63 #[v, .int .i64 node, .string ⟨key.toArray⟩, .bool dead, .string ⟨text.toArray⟩] w fun e w' => ∃ v', e = .returned (.tuple #[v', .int .i64 r]) ∧ isEn G v' w' ∧ Below w.heap.size w w' := by
  obtain ⟨vs, vi, rfl, hs, hi⟩ := hv
  obtain ⟨V, hV⟩ : ∃ V, heldV A 1 key = V := ⟨_, rfl⟩
  have htm := held_time A key
  rw [hV] at hr hG htm
  have HV := Kept.mk hV
  have HG := Kept.mk hG
  have HR := Kept.mk hr
  have HB := Kept.mk (show Below w.heap.size w ((w.alloc (.cells #[.int .i64 A.cap, vs, vi] 25)).alloc (.cells #[.string ⟨#[]⟩, .int .i64 0, .int .i64 0, .int .i64 0, .bool false, .string ⟨#[]⟩, .slice none 0 0, .slice none 0 0, .int .u64 0] 30)) from ((Below.refl _ w).alloc (Nat.le_refl _) _).alloc (by simp) _)
  have XA := Kept.mk (show isAr A (.agg #[.int .i64 A.cap, vs, vi]) ((w.alloc (.cells #[.int .i64 A.cap, vs, vi] 25)).alloc (.cells #[.string ⟨#[]⟩, .int .i64 0, .int .i64 0, .int .i64 0, .bool false, .string ⟨#[]⟩, .slice none 0 0, .slice none 0 0, .int .u64 0] 30)) from stable_ar A _ _ _ ⟨vs, vi, rfl, hs, hi⟩ HB.out)
  have BA := Kept.mk ((Blk.new w 25 [.int .i64 A.cap, vs, vi] w.heap.size rfl).alloc (.cells #[.string ⟨#[]⟩, .int .i64 0, .int .i64 0, .int .i64 0, .bool false, .string ⟨#[]⟩, .slice none 0 0, .slice none 0 0, .int .u64 0] 30))
  have BR := Kept.mk (Blk.new (w.alloc (.cells #[.int .i64 A.cap, vs, vi] 25)) 30 [.string ⟨#[]⟩, .int .i64 0, .int .i64 0, .int .i64 0, .bool false, .string ⟨#[]⟩, .slice none 0 0, .slice none 0 0, .int .u64 0] (w.heap.size + 1) (by simp))
  have ka0 := BA.out.cells.2 0 _ rfl
  have ka1 := BA.out.cells.2 1 _ rfl
  have ka2 := BA.out.cells.2 2 _ rfl
  clear hs hi hV hr hG
  go_enter Tryz.func63, Tryz.ntmps63
  go_wp2_with fail
  generalize ((w.alloc (.cells #[.int .i64 A.cap, vs, vi] 25)).alloc (.cells #[.string ⟨#[]⟩, .int .i64 0, .int .i64 0, .int .i64 0, .bool false, .string ⟨#[]⟩, .slice none 0 0, .slice none 0 0, .int .u64 0] 30)) = W0 at *
  refine (rval_at A 1 key V _ _ XA.out hF (by decide) HV.out).mono ?_
  rintro e U ⟨v', rfl, ⟨p', m', rfl, hp', hm'⟩, hb⟩
  obtain ⟨K1, K2, K3, K4, K5⟩ := vnew U V p' m' hp' hm' U.heap.size rfl
  replace HB := Kept.mk (HB.out.trans (hb.mono HB.out.size))
  replace HB := Kept.mk (HB.out.trans (K3.out.mono HB.out.size))
  replace BR := Kept.mk ((BR.out.keep hb).keep K3.out)
  clear hb hp' hm' XA BA ka0 ka1 ka2
  have K6 := Kept.mk K4.out
  by_cases ht : V.time = 2147483647
  · have HE := Kept.mk (show r = 5 by rw [← HR.out]; unfold timeE; rw [if_pos ht])
    have HGG := Kept.mk (show zeroE = G by rw [← HG.out, if_neg (by rw [HE.out]; omega)])
    have KT := Kept.mk ht
    have KZ : Kept (Ones [.string ⟨#[]⟩, .int .i64 0, .int .i64 0, .int .i64 0, .bool false, .string ⟨#[]⟩, .slice none 0 0, .slice none 0 0, .int .u64 0]) := ⟨⟨rfl, rfl, rfl, rfl, rfl, rfl, rfl, rfl, rfl, trivial⟩⟩
    clear ht htm
    go_wp2_with (first
      | (have hz0 := K1; refine wpList_storeN 28 rfl (.tmp 12) (.tmp 15) rfl U.heap.size [.int .i64 V.kind, .int .i64 V.time, .int .i64 V.node, .bool V.dead, .string ⟨V.text.toArray⟩, p', m', .int .u64 (V.flags.toNat : Int)] size_va rfl rfl K1.out rfl K2.out K5.out ?_; clear hz0 K1 K2 K3 K4 K5; generalize setN (U.alloc (.cells #[.int .i64 0, .int .i64 0, .int .i64 0, .bool false, .string ⟨#[]⟩, .slice none 0 0, .slice none 0 0, .int .u64 0] 28)) U.heap.size 0 [.int .i64 V.kind, .int .i64 V.time, .int .i64 V.node, .bool V.dead, .string ⟨V.text.toArray⟩, p', m', .int .u64 (V.flags.toNat : Int)] = W2 at *; have k1 := K6.out.1.2 1 _ rfl; rw [KT.out] at k1)
      | (have hz1 := KZ; refine wpList_storeN 30 rfl (.tmp 10) (.tmp 19) rfl (w.heap.size + 1) [.string ⟨#[]⟩, .int .i64 0, .int .i64 0, .int .i64 0, .bool false, .string ⟨#[]⟩, .slice none 0 0, .slice none 0 0, .int .u64 0] size_en rfl rfl BR.out.cells rfl BR.out.free KZ.out ?_; clear hz1))
    rw [HE.out, ← HGG.out]
    exact bodyPost_ret (resultsN2 rfl _ _ (w.heap.size + 1) [.string ⟨#[]⟩, .int .i64 0, .int .i64 0, .int .i64 0, .bool false, .string ⟨#[]⟩, .slice none 0 0, .slice none 0 0, .int .u64 0] _ size_en agg_en rfl rfl (BR.out.all_ (l := [.string ⟨#[]⟩, .int .i64 0, .int .i64 0, .int .i64 0, .bool false, .string ⟨#[]⟩, .slice none 0 0, .slice none 0 0, .int .u64 0]) rfl).cells) rfl ⟨_, rfl, ⟨.slice none 0 0, .slice none 0 0, rfl, .inl ⟨rfl, rfl⟩, .inl ⟨rfl, rfl⟩⟩, below_setN (by omega) _ 0 _ HB.out⟩
  · have HE := Kept.mk (show r = 0 by rw [← HR.out]; unfold timeE; rw [if_neg ht])
    have HGG := Kept.mk (show regE key (V.time + 1) node dead text = G by rw [← HG.out, if_pos HE.out])
    have KZ : Kept (Ones [.string ⟨key.toArray⟩, .int .i64 1, .int .i64 (V.time + 1), .int .i64 node, .bool dead, .string ⟨text.toArray⟩, .slice none 0 0, .slice none 0 0, .int .u64 0]) := ⟨⟨rfl, rfl, rfl, rfl, rfl, rfl, rfl, rfl, rfl, trivial⟩⟩
    go_wp2_with (first
      | (have hz0 := K1; refine wpList_storeN 28 rfl (.tmp 12) (.tmp 15) rfl U.heap.size [.int .i64 V.kind, .int .i64 V.time, .int .i64 V.node, .bool V.dead, .string ⟨V.text.toArray⟩, p', m', .int .u64 (V.flags.toNat : Int)] size_va rfl rfl K1.out rfl K2.out K5.out ?_; clear hz0 K1 K2 K3 K4 K5; generalize setN (U.alloc (.cells #[.int .i64 0, .int .i64 0, .int .i64 0, .bool false, .string ⟨#[]⟩, .slice none 0 0, .slice none 0 0, .int .u64 0] 28)) U.heap.size 0 [.int .i64 V.kind, .int .i64 V.time, .int .i64 V.node, .bool V.dead, .string ⟨V.text.toArray⟩, p', m', .int .u64 (V.flags.toNat : Int)] = W2 at *; have k1 := K6.out.1.2 1 _ rfl)
      | (have hz1 := KZ; refine wpList_storeN 30 rfl (.tmp 10) (.tmp 28) rfl (w.heap.size + 1) [.string ⟨key.toArray⟩, .int .i64 1, .int .i64 (V.time + 1), .int .i64 node, .bool dead, .string ⟨text.toArray⟩, .slice none 0 0, .slice none 0 0, .int .u64 0] size_en rfl rfl BR.out.cells rfl BR.out.free KZ.out ?_; clear hz1))
    rw [HE.out, ← HGG.out]
    exact bodyPost_ret (resultsN2 rfl _ _ (w.heap.size + 1) [.string ⟨key.toArray⟩, .int .i64 1, .int .i64 (V.time + 1), .int .i64 node, .bool dead, .string ⟨text.toArray⟩, .slice none 0 0, .slice none 0 0, .int .u64 0] _ size_en agg_en rfl rfl (BR.out.all_ (l := [.string ⟨key.toArray⟩, .int .i64 1, .int .i64 (V.time + 1), .int .i64 node, .bool dead, .string ⟨text.toArray⟩, .slice none 0 0, .slice none 0 0, .int .u64 0]) rfl).cells) rfl ⟨_, rfl, ⟨.slice none 0 0, .slice none 0 0, rfl, .inl ⟨rfl, rfl⟩, .inl ⟨rfl, rfl⟩⟩, below_setN (by omega) _ 0 _ HB.out⟩
set_option maxRecDepth 100000 in
set_option maxHeartbeats 2000000 in
theorem ronly_any (k : Nat) (x : Int) (w : World) (hk : k < 8) : Calls Tryz.prog 71 #[.int .i64 (k : Int), .int .i64 x] w fun e w' => ∃ g, e = .returned (.slice (some ⟨g, 0, none⟩) 8 8) ∧ w.heap.size ≤ g ∧ Blk w' g ((List.replicate 8 (intC 0)).set k (intC x)) ∧ Below w.heap.size w w' := by
  have hmk : ∀ W : World, (Instr.makeSlice 23 (.int .i64 8) (.int .i64 8)).run Tryz.prog W = .ok (.slice (some ⟨W.heap.size, 0, none⟩) 8 8) (W.alloc (.cells (madeCells #[Value.int .i64 0] 8) 3)) := fun W => run_make_row' (P := Tryz.prog) 23 3 (.int .i64 0) 8 Tryz.underlying23 Tryz.infoInt rfl .i64 .i64 8 (by omega) (by omega) W
  have BG := Kept.mk (show Blk (w.alloc (.cells (madeCells #[Value.int .i64 0] 8) 3)) w.heap.size (List.replicate 8 (intC 0)) from blk_row (World.rowIs_made w (.int .i64 0) 8 3))
  have hB := Kept.mk (lit_below w (.cells (madeCells #[Value.int .i64 0] 8) 3))
  have hk' : (k : Int) < 8 := by omega
  obtain ⟨old, hold⟩ : ∃ old, (w.alloc (.cells (madeCells #[Value.int .i64 0] 8) 3)).cell? ⟨w.heap.size, k, none⟩ = some old := ⟨_, BG.out.cells.2 k (intC 0) (by rw [List.getElem?_replicate, if_pos hk])⟩
  have hfr := BG.out.free k
  have BS := Kept.mk (BG.out.set k (intC x) (by rw [List.length_replicate]; exact hk))
  have hb2 := Kept.mk (hB.out.trans ((bt_set (S := fun b => b = w.heap.size) w.heap.size k (intC x) _ rfl).below (B := w.heap.size) (fun b e => by omega) hB.out.size))
  go_enter Tryz.func71, Tryz.ntmps71
  have hse : (w.alloc (.cells (madeCells #[Value.int .i64 0] 8) 3)).setCell ⟨w.heap.size, k, none⟩ (intC x) = w.alloc (.cells ((madeCells #[Value.int .i64 0] 8).setIfInBounds k (.int .i64 x)) 3) := by simp [go_sem, intC]
  rw [hse] at BS hb2
  clear hse
  go_wp2
  go_ret
  exact ⟨_, rfl, Nat.le_refl _, BS.out, hb2.out⟩
end Go.Proofs.YtbgconagkgfplaaGreat
end
section
namespace Go.Proofs.YtbgconagkgfplaaGreat
open Go.RowKit Go.Shelf
set_option linter.unusedVariables false
set_option linter.unusedSimpArgs false
attribute [local irreducible] setN

theorem first_app : ∀ (l m : List Int), firstE (l ++ m) = if firstE l = 0 then firstE m else firstE l
  | [], m => by rw [List.nil_append]; show firstE m = if (0 : Int) = 0 then firstE m else 0; rw [if_pos rfl]
  | x :: l, m => by
    show (if x = 0 then firstE (l ++ m) else x) = if (if x = 0 then firstE l else x) = 0 then firstE m else (if x = 0 then firstE l else x)
    rw [first_app l m]
    by_cases hx : x = 0
    · rw [if_pos hx, if_pos hx]
    · rw [if_neg hx, if_neg hx, if_neg hx]
theorem can_ok {A : Ar} {node : Int} {key : List UInt8} (h : canE A node key = 0) : OkA A ∧ (0 ≤ node ∧ node < 8) := by
  have z := first_zero h
  exact ⟨chk_zero (z (chkA A) (by simp)), node_zero (z (nodeE node) (by simp))⟩
theorem put_split (A : Ar) (node : Int) (key text : List UInt8) : putDE A node key text = if canE A node key = 0 then firstE [longE text, roomE A (heldB A 1 key), timeE (heldV A 1 key)] else canE A node key := first_app [chkA A, nodeE node, keyE key] _
theorem del_split (A : Ar) (node : Int) (key : List UInt8) : delDE A node key = if canE A node key = 0 then firstE [goneE (heldB A 1 key) (heldV A 1 key), timeE (heldV A 1 key)] else canE A node key := first_app [chkA A, nodeE node, keyE key] _
theorem add_split (A : Ar) (node : Int) (key : List UInt8) (n : Int) : addDE A node key n = if canE A node key = 0 then firstE [argE n, roomE A (heldB A 2 key), overE (heldV A 2 key) node n] else canE A node key := first_app [chkA A, nodeE node, keyE key] _
theorem set_split (A : Ar) (key : List UInt8) : setDE A key = if canE A 0 key = 0 then firstE [roomE A (heldB A 3 key)] else canE A 0 key := first_app [chkA A, keyE key] _
theorem reg_rows {V : Va} {r node : Int} {key text : List UInt8} {dead : Bool} {G : En} (hG : (if r = 0 then regE key (V.time + 1) node dead text else zeroE) = G) : G.val.plus = [] ∧ G.val.minus = [] := by
  subst hG
  split <;> exact ⟨rfl, rfl⟩
set_option maxRecDepth 100000 in
set_option maxHeartbeats 2000000 in
theorem rputD (A : Ar) (node : Int) (key text : List UInt8) (v : Value) (w : World) (hv : isAr A v w) (hF : FitA A) (hk : key.length ≤ 1000) (ht : text.length ≤ 1000) : Calls Tryz.prog 21 #[v, .int .i64 node, .string ⟨key.toArray⟩, .string ⟨text.toArray⟩] w fun e w' => ∃ v', e = .returned (.tuple #[v', .int .i64 (putDE A node key text)]) ∧ isEn (putDF A node key text) v' w' ∧ Below w.heap.size w w' := by
  obtain ⟨vs, vi, rfl, hs, hi⟩ := hv
  have HB := Kept.mk (show Below w.heap.size w ((w.alloc (.cells #[.int .i64 A.cap, vs, vi] 25)).alloc (.cells #[.string ⟨#[]⟩, .int .i64 0, .int .i64 0, .int .i64 0, .bool false, .string ⟨#[]⟩, .slice none 0 0, .slice none 0 0, .int .u64 0] 30)) from ((Below.refl _ w).alloc (Nat.le_refl _) _).alloc (by simp) _)
  have HSI := Kept.mk (show isAr A (.agg #[.int .i64 A.cap, vs, vi]) w from ⟨vs, vi, rfl, hs, hi⟩)
  have BA := Kept.mk ((Blk.new w 25 [.int .i64 A.cap, vs, vi] w.heap.size rfl).alloc (.cells #[.string ⟨#[]⟩, .int .i64 0, .int .i64 0, .int .i64 0, .bool false, .string ⟨#[]⟩, .slice none 0 0, .slice none 0 0, .int .u64 0] 30))
  have BR := Kept.mk (Blk.new (w.alloc (.cells #[.int .i64 A.cap, vs, vi] 25)) 30 [.string ⟨#[]⟩, .int .i64 0, .int .i64 0, .int .i64 0, .bool false, .string ⟨#[]⟩, .slice none 0 0, .slice none 0 0, .int .u64 0] (w.heap.size + 1) (by simp))
  have ka0 := BA.out.cells.2 0 _ rfl
  have ka1 := BA.out.cells.2 1 _ rfl
  have ka2 := BA.out.cells.2 2 _ rfl
  clear hs hi
  obtain ⟨c, hc⟩ : ∃ c, canE A node key = c := ⟨_, rfl⟩
  have HC := Kept.mk (fun v w hv => by have h := rcan_any A node key v w hv hF hk; rw [hc] at h; exact h)
  have HCE := Kept.mk hc
  clear hc
  have hz : (⟨text.toArray⟩ : ByteArray).size = text.length := by simp [ByteArray.size]
  go_enter Tryz.func21, Tryz.ntmps21
  go_wp2_with fail
  generalize ((w.alloc (.cells #[.int .i64 A.cap, vs, vi] 25)).alloc (.cells #[.string ⟨#[]⟩, .int .i64 0, .int .i64 0, .int .i64 0, .bool false, .string ⟨#[]⟩, .slice none 0 0, .slice none 0 0, .int .u64 0] 30)) = W0 at *
  refine (HC.out _ _ (stable_ar _ _ _ _ HSI.out HB.out)).mono ?_
  rintro e W1 ⟨rfl, hb⟩
  replace HB := Kept.mk (HB.out.trans (hb.mono HB.out.size))
  replace BA := Kept.mk (BA.out.keep hb)
  replace BR := Kept.mk (BR.out.keep hb)
  clear hb ka0 ka1 ka2
  have ka0 := BA.out.cells.2 0 _ rfl
  have ka1 := BA.out.cells.2 1 _ rfl
  have ka2 := BA.out.cells.2 2 _ rfl
  by_cases h0 : c = 0
  case neg =>
    have KE := Kept.mk (show putDE A node key text = c by rw [put_split, HCE.out, if_neg h0])
    have KF := Kept.mk (show putDF A node key text = zeroE by unfold putDF; rw [if_neg (by rw [KE.out]; exact h0)])
    have KZ : Kept (Ones [.string ⟨#[]⟩, .int .i64 0, .int .i64 0, .int .i64 0, .bool false, .string ⟨#[]⟩, .slice none 0 0, .slice none 0 0, .int .u64 0]) := ⟨⟨rfl, rfl, rfl, rfl, rfl, rfl, rfl, rfl, rfl, trivial⟩⟩
    go_wp2_with (have hz0 := KZ; refine wpList_storeN 30 rfl (.tmp 8) (.tmp 17) rfl (w.heap.size + 1) [.string ⟨#[]⟩, .int .i64 0, .int .i64 0, .int .i64 0, .bool false, .string ⟨#[]⟩, .slice none 0 0, .slice none 0 0, .int .u64 0] size_en rfl rfl BR.out.cells rfl BR.out.free KZ.out ?_; clear hz0)
    rw [KF.out, KE.out]
    exact bodyPost_ret (resultsN2 rfl _ _ (w.heap.size + 1) [.string ⟨#[]⟩, .int .i64 0, .int .i64 0, .int .i64 0, .bool false, .string ⟨#[]⟩, .slice none 0 0, .slice none 0 0, .int .u64 0] _ size_en agg_en rfl rfl (BR.out.all_ (l := [.string ⟨#[]⟩, .int .i64 0, .int .i64 0, .int .i64 0, .bool false, .string ⟨#[]⟩, .slice none 0 0, .slice none 0 0, .int .u64 0]) rfl).cells) rfl ⟨_, rfl, ⟨.slice none 0 0, .slice none 0 0, rfl, .inl ⟨rfl, rfl⟩, .inl ⟨rfl, rfl⟩⟩, below_setN (by omega) _ 0 _ HB.out⟩
  subst h0
  have hok := can_ok HCE.out
  have HOA := Kept.mk hok.1
  clear hok
  by_cases h1 : 8 < text.length
  case pos =>
    have h1i : (8 : Int) < text.length := by omega
    have KE := Kept.mk (show putDE A node key text = 6 by rw [put_split, HCE.out, if_pos rfl]; have hx : longE text = 6 := (by unfold longE; rw [if_pos h1]); simp only [firstE, hx]; rfl)
    have KF := Kept.mk (show putDF A node key text = zeroE by unfold putDF; rw [if_neg (by rw [KE.out]; decide)])
    have KZ : Kept (Ones [.string ⟨#[]⟩, .int .i64 0, .int .i64 0, .int .i64 0, .bool false, .string ⟨#[]⟩, .slice none 0 0, .slice none 0 0, .int .u64 0]) := ⟨⟨rfl, rfl, rfl, rfl, rfl, rfl, rfl, rfl, rfl, trivial⟩⟩
    go_wp2_with (have hz0 := KZ; refine wpList_storeN 30 rfl (.tmp 8) (.tmp 22) rfl (w.heap.size + 1) [.string ⟨#[]⟩, .int .i64 0, .int .i64 0, .int .i64 0, .bool false, .string ⟨#[]⟩, .slice none 0 0, .slice none 0 0, .int .u64 0] size_en rfl rfl BR.out.cells rfl BR.out.free KZ.out ?_; clear hz0)
    rw [KF.out, KE.out]
    exact bodyPost_ret (resultsN2 rfl _ _ (w.heap.size + 1) [.string ⟨#[]⟩, .int .i64 0, .int .i64 0, .int .i64 0, .bool false, .string ⟨#[]⟩, .slice none 0 0, .slice none 0 0, .int .u64 0] _ size_en agg_en rfl rfl (BR.out.all_ (l := [.string ⟨#[]⟩, .int .i64 0, .int .i64 0, .int .i64 0, .bool false, .string ⟨#[]⟩, .slice none 0 0, .slice none 0 0, .int .u64 0]) rfl).cells) rfl ⟨_, rfl, ⟨.slice none 0 0, .slice none 0 0, rfl, .inl ⟨rfl, rfl⟩, .inl ⟨rfl, rfl⟩⟩, below_setN (by omega) _ 0 _ HB.out⟩
  have h1i : ¬ (8 : Int) < text.length := by omega
  have HL := Kept.mk (show longE text = 0 by unfold longE; rw [if_neg h1])
  obtain ⟨z, hzz⟩ : ∃ z, (roomE A (heldB A 1 key) == 0) = z := ⟨_, rfl⟩
  have HRM := Kept.mk (fun v w hv => by have h := rroom_any A 1 key v w hv hF HOA.out; rw [hzz] at h; exact h)
  have HZZ := Kept.mk hzz
  clear hzz
  go_wp2_with fail
  refine (HRM.out _ _ (stable_ar _ _ _ _ HSI.out HB.out)).mono ?_
  rintro e W2 ⟨rfl, hb⟩
  replace HB := Kept.mk (HB.out.trans (hb.mono HB.out.size))
  replace BA := Kept.mk (BA.out.keep hb)
  replace BR := Kept.mk (BR.out.keep hb)
  clear hb ka0 ka1 ka2
  have ka0 := BA.out.cells.2 0 _ rfl
  have ka1 := BA.out.cells.2 1 _ rfl
  have ka2 := BA.out.cells.2 2 _ rfl
  cases z with
  | false =>
    have HR4 := Kept.mk (show roomE A (heldB A 1 key) = 4 by have h := HZZ.out; unfold roomE at h ⊢; split at h <;> simp_all)
    have KE := Kept.mk (show putDE A node key text = 4 by rw [put_split, HCE.out, if_pos rfl]; simp only [firstE, HL.out, HR4.out]; rfl)
    have KF := Kept.mk (show putDF A node key text = zeroE by unfold putDF; rw [if_neg (by rw [KE.out]; decide)])
    have KZ : Kept (Ones [.string ⟨#[]⟩, .int .i64 0, .int .i64 0, .int .i64 0, .bool false, .string ⟨#[]⟩, .slice none 0 0, .slice none 0 0, .int .u64 0]) := ⟨⟨rfl, rfl, rfl, rfl, rfl, rfl, rfl, rfl, rfl, trivial⟩⟩
    go_wp2_with (have hz0 := KZ; refine wpList_storeN 30 rfl (.tmp 8) (.tmp 27) rfl (w.heap.size + 1) [.string ⟨#[]⟩, .int .i64 0, .int .i64 0, .int .i64 0, .bool false, .string ⟨#[]⟩, .slice none 0 0, .slice none 0 0, .int .u64 0] size_en rfl rfl BR.out.cells rfl BR.out.free KZ.out ?_; clear hz0)
    rw [KF.out, KE.out]
    exact bodyPost_ret (resultsN2 rfl _ _ (w.heap.size + 1) [.string ⟨#[]⟩, .int .i64 0, .int .i64 0, .int .i64 0, .bool false, .string ⟨#[]⟩, .slice none 0 0, .slice none 0 0, .int .u64 0] _ size_en agg_en rfl rfl (BR.out.all_ (l := [.string ⟨#[]⟩, .int .i64 0, .int .i64 0, .int .i64 0, .bool false, .string ⟨#[]⟩, .slice none 0 0, .slice none 0 0, .int .u64 0]) rfl).cells) rfl ⟨_, rfl, ⟨.slice none 0 0, .slice none 0 0, rfl, .inl ⟨rfl, rfl⟩, .inl ⟨rfl, rfl⟩⟩, below_setN (by omega) _ 0 _ HB.out⟩
  | true =>
    have HR0 := Kept.mk (show roomE A (heldB A 1 key) = 0 by have h := HZZ.out; simpa using h)
    go_wp2_with fail
    obtain ⟨r, hr⟩ : ∃ r, timeE (heldV A 1 key) = r := ⟨_, rfl⟩
    obtain ⟨G, hG⟩ : ∃ G, (if r = 0 then regE key ((heldV A 1 key).time + 1) node false text else zeroE) = G := ⟨_, rfl⟩
    have KE := Kept.mk (show putDE A node key text = r by rw [put_split, HCE.out, if_pos rfl, show firstE [longE text, roomE A (heldB A 1 key), timeE (heldV A 1 key)] = if longE text = 0 then (if roomE A (heldB A 1 key) = 0 then (if timeE (heldV A 1 key) = 0 then 0 else timeE (heldV A 1 key)) else roomE A (heldB A 1 key)) else longE text from rfl, HL.out, if_pos rfl, HR0.out, if_pos rfl]; rw [hr]; split <;> omega)
    have KF := Kept.mk (show putDF A node key text = G by unfold putDF; rw [KE.out]; exact hG)
    have HGR := Kept.mk (reg_rows hG)
    have HR := Kept.mk hr
    have HG := Kept.mk hG
    clear hr hG
    refine (rreg_anyD A node key false text G r _ _ (stable_ar _ _ _ _ HSI.out HB.out) hF HR.out HG.out).mono ?_
    rintro e W3 ⟨v', rfl, ⟨p', m', rfl, hp', hm'⟩, hb⟩
    replace HB := Kept.mk (HB.out.trans (hb.mono HB.out.size))
    replace BA := Kept.mk (BA.out.keep hb)
    replace BR := Kept.mk (BR.out.keep hb)
    clear hb ka0 ka1 ka2
    have KO : Kept (Ones [.string ⟨G.key.toArray⟩, .int .i64 G.val.kind, .int .i64 G.val.time, .int .i64 G.val.node, .bool G.val.dead, .string ⟨G.val.text.toArray⟩, p', m', .int .u64 (G.val.flags.toNat : Int)]) := ⟨⟨rfl, rfl, rfl, rfl, rfl, rfl, hp'.one, hm'.one, rfl, trivial⟩⟩
    have HP := Kept.mk (show isCells [] p' W3 by have h := hp'; rw [HGR.out.1] at h; exact h)
    have HM := Kept.mk (show isCells [] m' W3 by have h := hm'; rw [HGR.out.2] at h; exact h)
    clear hp' hm'
    go_wp2_with (have hz0 := KO; refine wpList_storeN 30 rfl (.tmp 8) (.tmp 33) rfl (w.heap.size + 1) [.string ⟨G.key.toArray⟩, .int .i64 G.val.kind, .int .i64 G.val.time, .int .i64 G.val.node, .bool G.val.dead, .string ⟨G.val.text.toArray⟩, p', m', .int .u64 (G.val.flags.toNat : Int)] size_en rfl rfl BR.out.cells rfl BR.out.free KO.out ?_; clear hz0)
    rw [KF.out, KE.out]
    exact bodyPost_ret (resultsN2 rfl _ _ (w.heap.size + 1) [.string ⟨G.key.toArray⟩, .int .i64 G.val.kind, .int .i64 G.val.time, .int .i64 G.val.node, .bool G.val.dead, .string ⟨G.val.text.toArray⟩, p', m', .int .u64 (G.val.flags.toNat : Int)] _ size_en agg_en rfl rfl (BR.out.all_ (l := [.string ⟨G.key.toArray⟩, .int .i64 G.val.kind, .int .i64 G.val.time, .int .i64 G.val.node, .bool G.val.dead, .string ⟨G.val.text.toArray⟩, p', m', .int .u64 (G.val.flags.toNat : Int)]) rfl).cells) rfl ⟨_, rfl, ⟨p', m', rfl, by rw [HGR.out.1]; exact nil_cells HP.out, by rw [HGR.out.2]; exact nil_cells HM.out⟩, below_setN (by omega) _ 0 _ HB.out⟩
set_option maxRecDepth 100000 in
set_option maxHeartbeats 2000000 in
theorem rdelD (A : Ar) (node : Int) (key : List UInt8) (v : Value) (w : World) (hv : isAr A v w) (hF : FitA A) (hk : key.length ≤ 1000) : Calls Tryz.prog 23 #[v, .int .i64 node, .string ⟨key.toArray⟩] w fun e w' => ∃ v', e = .returned (.tuple #[v', .int .i64 (delDE A node key)]) ∧ isEn (delDF A node key) v' w' ∧ Below w.heap.size w w' := by
  obtain ⟨vs, vi, rfl, hs, hi⟩ := hv
  have HB := Kept.mk (show Below w.heap.size w ((w.alloc (.cells #[.int .i64 A.cap, vs, vi] 25)).alloc (.cells #[.string ⟨#[]⟩, .int .i64 0, .int .i64 0, .int .i64 0, .bool false, .string ⟨#[]⟩, .slice none 0 0, .slice none 0 0, .int .u64 0] 30)) from ((Below.refl _ w).alloc (Nat.le_refl _) _).alloc (by simp) _)
  have HSI := Kept.mk (show isAr A (.agg #[.int .i64 A.cap, vs, vi]) w from ⟨vs, vi, rfl, hs, hi⟩)
  have BA := Kept.mk ((Blk.new w 25 [.int .i64 A.cap, vs, vi] w.heap.size rfl).alloc (.cells #[.string ⟨#[]⟩, .int .i64 0, .int .i64 0, .int .i64 0, .bool false, .string ⟨#[]⟩, .slice none 0 0, .slice none 0 0, .int .u64 0] 30))
  have BR := Kept.mk (Blk.new (w.alloc (.cells #[.int .i64 A.cap, vs, vi] 25)) 30 [.string ⟨#[]⟩, .int .i64 0, .int .i64 0, .int .i64 0, .bool false, .string ⟨#[]⟩, .slice none 0 0, .slice none 0 0, .int .u64 0] (w.heap.size + 1) (by simp))
  have ka0 := BA.out.cells.2 0 _ rfl
  have ka1 := BA.out.cells.2 1 _ rfl
  have ka2 := BA.out.cells.2 2 _ rfl
  clear hs hi
  obtain ⟨c, hc⟩ : ∃ c, canE A node key = c := ⟨_, rfl⟩
  have HC := Kept.mk (fun v w hv => by have h := rcan_any A node key v w hv hF hk; rw [hc] at h; exact h)
  have HCE := Kept.mk hc
  clear hc
  obtain ⟨p, hp⟩ : ∃ p, findI A (nameE 1 key) = p := ⟨_, rfl⟩
  have HP := Kept.mk hp
  obtain ⟨V, hV⟩ : ∃ V, heldV A 1 key = V := ⟨_, rfl⟩
  have HV := Kept.mk hV
  have HHB := Kept.mk (show heldB A 1 key = decide (0 ≤ p) by unfold heldB; rw [hp])
  clear hp hV
  go_enter Tryz.func23, Tryz.ntmps23
  go_wp2_with fail
  generalize ((w.alloc (.cells #[.int .i64 A.cap, vs, vi] 25)).alloc (.cells #[.string ⟨#[]⟩, .int .i64 0, .int .i64 0, .int .i64 0, .bool false, .string ⟨#[]⟩, .slice none 0 0, .slice none 0 0, .int .u64 0] 30)) = W0 at *
  refine (HC.out _ _ (stable_ar _ _ _ _ HSI.out HB.out)).mono ?_
  rintro e W1 ⟨rfl, hb⟩
  replace HB := Kept.mk (HB.out.trans (hb.mono HB.out.size))
  replace BA := Kept.mk (BA.out.keep hb)
  replace BR := Kept.mk (BR.out.keep hb)
  clear hb ka0 ka1 ka2
  have ka0 := BA.out.cells.2 0 _ rfl
  have ka1 := BA.out.cells.2 1 _ rfl
  have ka2 := BA.out.cells.2 2 _ rfl
  by_cases h0 : c = 0
  case neg =>
    have KE := Kept.mk (show delDE A node key = c by rw [del_split, HCE.out, if_neg h0])
    have KF := Kept.mk (show delDF A node key = zeroE by unfold delDF; rw [if_neg (by rw [KE.out]; exact h0)])
    have KZ : Kept (Ones [.string ⟨#[]⟩, .int .i64 0, .int .i64 0, .int .i64 0, .bool false, .string ⟨#[]⟩, .slice none 0 0, .slice none 0 0, .int .u64 0]) := ⟨⟨rfl, rfl, rfl, rfl, rfl, rfl, rfl, rfl, rfl, trivial⟩⟩
    go_wp2_with (have hz0 := KZ; refine wpList_storeN 30 rfl (.tmp 6) (.tmp 15) rfl (w.heap.size + 1) [.string ⟨#[]⟩, .int .i64 0, .int .i64 0, .int .i64 0, .bool false, .string ⟨#[]⟩, .slice none 0 0, .slice none 0 0, .int .u64 0] size_en rfl rfl BR.out.cells rfl BR.out.free KZ.out ?_; clear hz0)
    rw [KF.out, KE.out]
    exact bodyPost_ret (resultsN2 rfl _ _ (w.heap.size + 1) [.string ⟨#[]⟩, .int .i64 0, .int .i64 0, .int .i64 0, .bool false, .string ⟨#[]⟩, .slice none 0 0, .slice none 0 0, .int .u64 0] _ size_en agg_en rfl rfl (BR.out.all_ (l := [.string ⟨#[]⟩, .int .i64 0, .int .i64 0, .int .i64 0, .bool false, .string ⟨#[]⟩, .slice none 0 0, .slice none 0 0, .int .u64 0]) rfl).cells) rfl ⟨_, rfl, ⟨.slice none 0 0, .slice none 0 0, rfl, .inl ⟨rfl, rfl⟩, .inl ⟨rfl, rfl⟩⟩, below_setN (by omega) _ 0 _ HB.out⟩
  subst h0
  go_wp2_with fail
  refine (rfindP A 1 key p _ _ (stable_ar _ _ _ _ HSI.out HB.out) hF HP.out).mono ?_
  rintro e W2 ⟨rfl, hb⟩
  replace HB := Kept.mk (HB.out.trans (hb.mono HB.out.size))
  replace BA := Kept.mk (BA.out.keep hb)
  replace BR := Kept.mk (BR.out.keep hb)
  clear hb ka0 ka1 ka2
  have ka0 := BA.out.cells.2 0 _ rfl
  have ka1 := BA.out.cells.2 1 _ rfl
  have ka2 := BA.out.cells.2 2 _ rfl
  by_cases h1 : p < 0
  case pos =>
    have hd0 : decide (p < 0) = true := decide_eq_true h1
    have KE := Kept.mk (show delDE A node key = 9 by rw [del_split, HCE.out, if_pos rfl]; have hx : goneE (heldB A 1 key) (heldV A 1 key) = 9 := (by unfold goneE; rw [HHB.out, if_pos (.inl (decide_eq_false (by omega)))]); simp only [firstE, hx]; rfl)
    have KF := Kept.mk (show delDF A node key = zeroE by unfold delDF; rw [if_neg (by rw [KE.out]; decide)])
    have KZ : Kept (Ones [.string ⟨#[]⟩, .int .i64 0, .int .i64 0, .int .i64 0, .bool false, .string ⟨#[]⟩, .slice none 0 0, .slice none 0 0, .int .u64 0]) := ⟨⟨rfl, rfl, rfl, rfl, rfl, rfl, rfl, rfl, rfl, trivial⟩⟩
    go_wp2_with (have hz0 := KZ; refine wpList_storeN 30 rfl (.tmp 6) (.tmp 27) rfl (w.heap.size + 1) [.string ⟨#[]⟩, .int .i64 0, .int .i64 0, .int .i64 0, .bool false, .string ⟨#[]⟩, .slice none 0 0, .slice none 0 0, .int .u64 0] size_en rfl rfl BR.out.cells rfl BR.out.free KZ.out ?_; clear hz0)
    rw [KF.out, KE.out]
    exact bodyPost_ret (resultsN2 rfl _ _ (w.heap.size + 1) [.string ⟨#[]⟩, .int .i64 0, .int .i64 0, .int .i64 0, .bool false, .string ⟨#[]⟩, .slice none 0 0, .slice none 0 0, .int .u64 0] _ size_en agg_en rfl rfl (BR.out.all_ (l := [.string ⟨#[]⟩, .int .i64 0, .int .i64 0, .int .i64 0, .bool false, .string ⟨#[]⟩, .slice none 0 0, .slice none 0 0, .int .u64 0]) rfl).cells) rfl ⟨_, rfl, ⟨.slice none 0 0, .slice none 0 0, rfl, .inl ⟨rfl, rfl⟩, .inl ⟨rfl, rfl⟩⟩, below_setN (by omega) _ 0 _ HB.out⟩
  have hd0 : decide (p < 0) = false := decide_eq_false h1
  go_wp2_with fail
  refine (rval_at A 1 key V _ _ (stable_ar _ _ _ _ HSI.out HB.out) hF (by decide) HV.out).mono ?_
  rintro e W3 ⟨v', rfl, ⟨p', m', rfl, hp', hm'⟩, hb⟩
  replace HB := Kept.mk (HB.out.trans (hb.mono HB.out.size))
  replace BA := Kept.mk (BA.out.keep hb)
  replace BR := Kept.mk (BR.out.keep hb)
  clear hb ka0 ka1 ka2
  have ka0 := BA.out.cells.2 0 _ rfl
  have ka1 := BA.out.cells.2 1 _ rfl
  have ka2 := BA.out.cells.2 2 _ rfl
  clear hp' hm'
  cases hd : V.dead with
  | true =>
    have HD := Kept.mk hd
    clear hd
    have fl3 := fun W => fld_va3 V.kind V.time V.node true ⟨V.text.toArray⟩ p' m' (V.flags.toNat : Int) W
    have KE := Kept.mk (show delDE A node key = 9 by rw [del_split, HCE.out, if_pos rfl]; have hx : goneE (heldB A 1 key) (heldV A 1 key) = 9 := (by unfold goneE; rw [HV.out, if_pos (.inr HD.out)]); simp only [firstE, hx]; rfl)
    have KF := Kept.mk (show delDF A node key = zeroE by unfold delDF; rw [if_neg (by rw [KE.out]; decide)])
    have KZ : Kept (Ones [.string ⟨#[]⟩, .int .i64 0, .int .i64 0, .int .i64 0, .bool false, .string ⟨#[]⟩, .slice none 0 0, .slice none 0 0, .int .u64 0]) := ⟨⟨rfl, rfl, rfl, rfl, rfl, rfl, rfl, rfl, rfl, trivial⟩⟩
    go_wp2_with (have hz0 := KZ; refine wpList_storeN 30 rfl (.tmp 6) (.tmp 27) rfl (w.heap.size + 1) [.string ⟨#[]⟩, .int .i64 0, .int .i64 0, .int .i64 0, .bool false, .string ⟨#[]⟩, .slice none 0 0, .slice none 0 0, .int .u64 0] size_en rfl rfl BR.out.cells rfl BR.out.free KZ.out ?_; clear hz0)
    rw [KF.out, KE.out]
    exact bodyPost_ret (resultsN2 rfl _ _ (w.heap.size + 1) [.string ⟨#[]⟩, .int .i64 0, .int .i64 0, .int .i64 0, .bool false, .string ⟨#[]⟩, .slice none 0 0, .slice none 0 0, .int .u64 0] _ size_en agg_en rfl rfl (BR.out.all_ (l := [.string ⟨#[]⟩, .int .i64 0, .int .i64 0, .int .i64 0, .bool false, .string ⟨#[]⟩, .slice none 0 0, .slice none 0 0, .int .u64 0]) rfl).cells) rfl ⟨_, rfl, ⟨.slice none 0 0, .slice none 0 0, rfl, .inl ⟨rfl, rfl⟩, .inl ⟨rfl, rfl⟩⟩, below_setN (by omega) _ 0 _ HB.out⟩
  | false =>
    have HD := Kept.mk hd
    clear hd
    have fl3 := fun W => fld_va3 V.kind V.time V.node false ⟨V.text.toArray⟩ p' m' (V.flags.toNat : Int) W
    have HG0 := Kept.mk (show goneE (heldB A 1 key) (heldV A 1 key) = 0 by unfold goneE; rw [HHB.out, HV.out, HD.out]; simp; omega)
    go_wp2_with fail
    clear fl3
    obtain ⟨r, hr⟩ : ∃ r, timeE (heldV A 1 key) = r := ⟨_, rfl⟩
    obtain ⟨G, hG⟩ : ∃ G, (if r = 0 then regE key ((heldV A 1 key).time + 1) node true [] else zeroE) = G := ⟨_, rfl⟩
    have KE := Kept.mk (show delDE A node key = r by rw [del_split, HCE.out, if_pos rfl, show firstE [goneE (heldB A 1 key) (heldV A 1 key), timeE (heldV A 1 key)] = if goneE (heldB A 1 key) (heldV A 1 key) = 0 then (if timeE (heldV A 1 key) = 0 then 0 else timeE (heldV A 1 key)) else goneE (heldB A 1 key) (heldV A 1 key) from rfl, HG0.out, if_pos rfl]; rw [hr]; split <;> omega)
    have KF := Kept.mk (show delDF A node key = G by unfold delDF; rw [KE.out]; exact hG)
    have HGR := Kept.mk (reg_rows hG)
    have HR := Kept.mk hr
    have HG := Kept.mk hG
    clear hr hG
    refine (rreg_anyD A node key true [] G r _ _ (stable_ar _ _ _ _ HSI.out HB.out) hF HR.out HG.out).mono ?_
    rintro e W4 ⟨v', rfl, ⟨p', m', rfl, hp', hm'⟩, hb⟩
    replace HB := Kept.mk (HB.out.trans (hb.mono HB.out.size))
    replace BA := Kept.mk (BA.out.keep hb)
    replace BR := Kept.mk (BR.out.keep hb)
    clear hb ka0 ka1 ka2
    have KO : Kept (Ones [.string ⟨G.key.toArray⟩, .int .i64 G.val.kind, .int .i64 G.val.time, .int .i64 G.val.node, .bool G.val.dead, .string ⟨G.val.text.toArray⟩, p', m', .int .u64 (G.val.flags.toNat : Int)]) := ⟨⟨rfl, rfl, rfl, rfl, rfl, rfl, hp'.one, hm'.one, rfl, trivial⟩⟩
    have HP := Kept.mk (show isCells [] p' W4 by have h := hp'; rw [HGR.out.1] at h; exact h)
    have HM := Kept.mk (show isCells [] m' W4 by have h := hm'; rw [HGR.out.2] at h; exact h)
    clear hp' hm'
    go_wp2_with (have hz0 := KO; refine wpList_storeN 30 rfl (.tmp 6) (.tmp 32) rfl (w.heap.size + 1) [.string ⟨G.key.toArray⟩, .int .i64 G.val.kind, .int .i64 G.val.time, .int .i64 G.val.node, .bool G.val.dead, .string ⟨G.val.text.toArray⟩, p', m', .int .u64 (G.val.flags.toNat : Int)] size_en rfl rfl BR.out.cells rfl BR.out.free KO.out ?_; clear hz0)
    rw [KF.out, KE.out]
    exact bodyPost_ret (resultsN2 rfl _ _ (w.heap.size + 1) [.string ⟨G.key.toArray⟩, .int .i64 G.val.kind, .int .i64 G.val.time, .int .i64 G.val.node, .bool G.val.dead, .string ⟨G.val.text.toArray⟩, p', m', .int .u64 (G.val.flags.toNat : Int)] _ size_en agg_en rfl rfl (BR.out.all_ (l := [.string ⟨G.key.toArray⟩, .int .i64 G.val.kind, .int .i64 G.val.time, .int .i64 G.val.node, .bool G.val.dead, .string ⟨G.val.text.toArray⟩, p', m', .int .u64 (G.val.flags.toNat : Int)]) rfl).cells) rfl ⟨_, rfl, ⟨p', m', rfl, by rw [HGR.out.1]; exact nil_cells HP.out, by rw [HGR.out.2]; exact nil_cells HM.out⟩, below_setN (by omega) _ 0 _ HB.out⟩
set_option maxRecDepth 100000 in
set_option maxHeartbeats 2000000 in
theorem rsetD (A : Ar) (key : List UInt8) (flags : UInt64) (v : Value) (w : World) (hv : isAr A v w) (hF : FitA A) (hk : key.length ≤ 1000) : Calls Tryz.prog 27 #[v, .string ⟨key.toArray⟩, .int .u64 (flags.toNat : Int)] w fun e w' => ∃ v', e = .returned (.tuple #[v', .int .i64 (setDE A key)]) ∧ isEn (setDF A key flags) v' w' ∧ Below w.heap.size w w' := by
  obtain ⟨vs, vi, rfl, hs, hi⟩ := hv
  have HB := Kept.mk (show Below w.heap.size w ((w.alloc (.cells #[.int .i64 A.cap, vs, vi] 25)).alloc (.cells #[.string ⟨#[]⟩, .int .i64 0, .int .i64 0, .int .i64 0, .bool false, .string ⟨#[]⟩, .slice none 0 0, .slice none 0 0, .int .u64 0] 30)) from ((Below.refl _ w).alloc (Nat.le_refl _) _).alloc (by simp) _)
  have HSI := Kept.mk (show isAr A (.agg #[.int .i64 A.cap, vs, vi]) w from ⟨vs, vi, rfl, hs, hi⟩)
  have BA := Kept.mk ((Blk.new w 25 [.int .i64 A.cap, vs, vi] w.heap.size rfl).alloc (.cells #[.string ⟨#[]⟩, .int .i64 0, .int .i64 0, .int .i64 0, .bool false, .string ⟨#[]⟩, .slice none 0 0, .slice none 0 0, .int .u64 0] 30))
  have BR := Kept.mk (Blk.new (w.alloc (.cells #[.int .i64 A.cap, vs, vi] 25)) 30 [.string ⟨#[]⟩, .int .i64 0, .int .i64 0, .int .i64 0, .bool false, .string ⟨#[]⟩, .slice none 0 0, .slice none 0 0, .int .u64 0] (w.heap.size + 1) (by simp))
  have ka0 := BA.out.cells.2 0 _ rfl
  have ka1 := BA.out.cells.2 1 _ rfl
  have ka2 := BA.out.cells.2 2 _ rfl
  clear hs hi
  obtain ⟨c, hc⟩ : ∃ c, canE A 0 key = c := ⟨_, rfl⟩
  have HC := Kept.mk (fun v w hv => by have h := rcan_any A 0 key v w hv hF hk; rw [hc] at h; exact h)
  have HCE := Kept.mk hc
  clear hc
  go_enter Tryz.func27, Tryz.ntmps27
  go_wp2_with fail
  generalize ((w.alloc (.cells #[.int .i64 A.cap, vs, vi] 25)).alloc (.cells #[.string ⟨#[]⟩, .int .i64 0, .int .i64 0, .int .i64 0, .bool false, .string ⟨#[]⟩, .slice none 0 0, .slice none 0 0, .int .u64 0] 30)) = W0 at *
  refine (HC.out _ _ (stable_ar _ _ _ _ HSI.out HB.out)).mono ?_
  rintro e W1 ⟨rfl, hb⟩
  replace HB := Kept.mk (HB.out.trans (hb.mono HB.out.size))
  replace BA := Kept.mk (BA.out.keep hb)
  replace BR := Kept.mk (BR.out.keep hb)
  clear hb ka0 ka1 ka2
  have ka0 := BA.out.cells.2 0 _ rfl
  have ka1 := BA.out.cells.2 1 _ rfl
  have ka2 := BA.out.cells.2 2 _ rfl
  by_cases h0 : c = 0
  case neg =>
    have KE := Kept.mk (show setDE A key = c by rw [set_split, HCE.out, if_neg h0])
    have KF := Kept.mk (show setDF A key flags = zeroE by unfold setDF; rw [if_neg (by rw [KE.out]; exact h0)])
    have KZ : Kept (Ones [.string ⟨#[]⟩, .int .i64 0, .int .i64 0, .int .i64 0, .bool false, .string ⟨#[]⟩, .slice none 0 0, .slice none 0 0, .int .u64 0]) := ⟨⟨rfl, rfl, rfl, rfl, rfl, rfl, rfl, rfl, rfl, trivial⟩⟩
    go_wp2_with (have hz0 := KZ; refine wpList_storeN 30 rfl (.tmp 6) (.tmp 14) rfl (w.heap.size + 1) [.string ⟨#[]⟩, .int .i64 0, .int .i64 0, .int .i64 0, .bool false, .string ⟨#[]⟩, .slice none 0 0, .slice none 0 0, .int .u64 0] size_en rfl rfl BR.out.cells rfl BR.out.free KZ.out ?_; clear hz0)
    rw [KF.out, KE.out]
    exact bodyPost_ret (resultsN2 rfl _ _ (w.heap.size + 1) [.string ⟨#[]⟩, .int .i64 0, .int .i64 0, .int .i64 0, .bool false, .string ⟨#[]⟩, .slice none 0 0, .slice none 0 0, .int .u64 0] _ size_en agg_en rfl rfl (BR.out.all_ (l := [.string ⟨#[]⟩, .int .i64 0, .int .i64 0, .int .i64 0, .bool false, .string ⟨#[]⟩, .slice none 0 0, .slice none 0 0, .int .u64 0]) rfl).cells) rfl ⟨_, rfl, ⟨.slice none 0 0, .slice none 0 0, rfl, .inl ⟨rfl, rfl⟩, .inl ⟨rfl, rfl⟩⟩, below_setN (by omega) _ 0 _ HB.out⟩
  subst h0
  have hok := can_ok HCE.out
  have HOA := Kept.mk hok.1
  clear hok
  obtain ⟨z, hzz⟩ : ∃ z, (roomE A (heldB A 3 key) == 0) = z := ⟨_, rfl⟩
  have HRM := Kept.mk (fun v w hv => by have h := rroom_any A 3 key v w hv hF HOA.out; rw [hzz] at h; exact h)
  have HZZ := Kept.mk hzz
  clear hzz
  go_wp2_with fail
  refine (HRM.out _ _ (stable_ar _ _ _ _ HSI.out HB.out)).mono ?_
  rintro e W2 ⟨rfl, hb⟩
  replace HB := Kept.mk (HB.out.trans (hb.mono HB.out.size))
  replace BA := Kept.mk (BA.out.keep hb)
  replace BR := Kept.mk (BR.out.keep hb)
  clear hb ka0 ka1 ka2
  have ka0 := BA.out.cells.2 0 _ rfl
  have ka1 := BA.out.cells.2 1 _ rfl
  have ka2 := BA.out.cells.2 2 _ rfl
  cases z with
  | false =>
    have HR4 := Kept.mk (show roomE A (heldB A 3 key) = 4 by have h := HZZ.out; unfold roomE at h ⊢; split at h <;> simp_all)
    have KE := Kept.mk (show setDE A key = 4 by rw [set_split, HCE.out, if_pos rfl]; simp only [firstE, HR4.out]; rfl)
    have KF := Kept.mk (show setDF A key flags = zeroE by unfold setDF; rw [if_neg (by rw [KE.out]; decide)])
    have KZ : Kept (Ones [.string ⟨#[]⟩, .int .i64 0, .int .i64 0, .int .i64 0, .bool false, .string ⟨#[]⟩, .slice none 0 0, .slice none 0 0, .int .u64 0]) := ⟨⟨rfl, rfl, rfl, rfl, rfl, rfl, rfl, rfl, rfl, trivial⟩⟩
    go_wp2_with (have hz0 := KZ; refine wpList_storeN 30 rfl (.tmp 6) (.tmp 20) rfl (w.heap.size + 1) [.string ⟨#[]⟩, .int .i64 0, .int .i64 0, .int .i64 0, .bool false, .string ⟨#[]⟩, .slice none 0 0, .slice none 0 0, .int .u64 0] size_en rfl rfl BR.out.cells rfl BR.out.free KZ.out ?_; clear hz0)
    rw [KF.out, KE.out]
    exact bodyPost_ret (resultsN2 rfl _ _ (w.heap.size + 1) [.string ⟨#[]⟩, .int .i64 0, .int .i64 0, .int .i64 0, .bool false, .string ⟨#[]⟩, .slice none 0 0, .slice none 0 0, .int .u64 0] _ size_en agg_en rfl rfl (BR.out.all_ (l := [.string ⟨#[]⟩, .int .i64 0, .int .i64 0, .int .i64 0, .bool false, .string ⟨#[]⟩, .slice none 0 0, .slice none 0 0, .int .u64 0]) rfl).cells) rfl ⟨_, rfl, ⟨.slice none 0 0, .slice none 0 0, rfl, .inl ⟨rfl, rfl⟩, .inl ⟨rfl, rfl⟩⟩, below_setN (by omega) _ 0 _ HB.out⟩
  | true =>
    have HR0 := Kept.mk (show roomE A (heldB A 3 key) = 0 by have h := HZZ.out; simpa using h)
    have KE := Kept.mk (show setDE A key = 0 by rw [set_split, HCE.out, if_pos rfl]; simp only [firstE, HR0.out]; rfl)
    have KF := Kept.mk (show setDF A key flags = flgE key flags by unfold setDF; rw [if_pos KE.out])
    have KZ : Kept (Ones [.string ⟨key.toArray⟩, .int .i64 3, .int .i64 0, .int .i64 0, .bool false, .string ⟨#[]⟩, .slice none 0 0, .slice none 0 0, .int .u64 (flags.toNat : Int)]) := ⟨⟨rfl, rfl, rfl, rfl, rfl, rfl, rfl, rfl, rfl, trivial⟩⟩
    go_wp2_with (have hz0 := KZ; refine wpList_storeN 30 rfl (.tmp 6) (.tmp 24) rfl (w.heap.size + 1) [.string ⟨key.toArray⟩, .int .i64 3, .int .i64 0, .int .i64 0, .bool false, .string ⟨#[]⟩, .slice none 0 0, .slice none 0 0, .int .u64 (flags.toNat : Int)] size_en rfl rfl BR.out.cells rfl BR.out.free KZ.out ?_; clear hz0)
    rw [KF.out, KE.out]
    exact bodyPost_ret (resultsN2 rfl _ _ (w.heap.size + 1) [.string ⟨key.toArray⟩, .int .i64 3, .int .i64 0, .int .i64 0, .bool false, .string ⟨#[]⟩, .slice none 0 0, .slice none 0 0, .int .u64 (flags.toNat : Int)] _ size_en agg_en rfl rfl (BR.out.all_ (l := [.string ⟨key.toArray⟩, .int .i64 3, .int .i64 0, .int .i64 0, .bool false, .string ⟨#[]⟩, .slice none 0 0, .slice none 0 0, .int .u64 (flags.toNat : Int)]) rfl).cells) rfl ⟨_, rfl, ⟨.slice none 0 0, .slice none 0 0, rfl, .inl ⟨rfl, rfl⟩, .inl ⟨rfl, rfl⟩⟩, below_setN (by omega) _ 0 _ HB.out⟩
theorem only_zero (k : Nat) : (List.replicate 8 (intC 0)).set k (intC 0) = List.replicate 8 (intC 0) := by
  apply List.ext_getElem?
  intro j
  by_cases h : k = j
  · subst h
    by_cases hk : k < 8
    · rw [List.getElem?_set_self (by rw [List.length_replicate]; exact hk), List.getElem?_replicate, if_pos hk]
    · rw [List.getElem?_eq_none (by simp; omega), List.getElem?_eq_none (by simp; omega)]
  · rw [List.getElem?_set_ne h]
set_option maxRecDepth 100000 in
set_option maxHeartbeats 2000000 in
theorem raddD (A : Ar) (node : Int) (key : List UInt8) (n : Int) (v : Value) (w : World) (hv : isAr A v w) (hF : FitA A) (hk : key.length ≤ 1000) : Calls Tryz.prog 25 #[v, .int .i64 node, .string ⟨key.toArray⟩, .int .i64 n] w fun e w' => ∃ v', e = .returned (.tuple #[v', .int .i64 (addDE A node key n)]) ∧ isEn (addDF A node key n) v' w' ∧ Below w.heap.size w w' := by
  obtain ⟨vs, vi, rfl, hs, hi⟩ := hv
  have HB := Kept.mk (show Below w.heap.size w ((w.alloc (.cells #[.int .i64 A.cap, vs, vi] 25)).alloc (.cells #[.string ⟨#[]⟩, .int .i64 0, .int .i64 0, .int .i64 0, .bool false, .string ⟨#[]⟩, .slice none 0 0, .slice none 0 0, .int .u64 0] 30)) from ((Below.refl _ w).alloc (Nat.le_refl _) _).alloc (by simp) _)
  have HSI := Kept.mk (show isAr A (.agg #[.int .i64 A.cap, vs, vi]) w from ⟨vs, vi, rfl, hs, hi⟩)
  have BA := Kept.mk ((Blk.new w 25 [.int .i64 A.cap, vs, vi] w.heap.size rfl).alloc (.cells #[.string ⟨#[]⟩, .int .i64 0, .int .i64 0, .int .i64 0, .bool false, .string ⟨#[]⟩, .slice none 0 0, .slice none 0 0, .int .u64 0] 30))
  have BR := Kept.mk (Blk.new (w.alloc (.cells #[.int .i64 A.cap, vs, vi] 25)) 30 [.string ⟨#[]⟩, .int .i64 0, .int .i64 0, .int .i64 0, .bool false, .string ⟨#[]⟩, .slice none 0 0, .slice none 0 0, .int .u64 0] (w.heap.size + 1) (by simp))
  have ka0 := BA.out.cells.2 0 _ rfl
  have ka1 := BA.out.cells.2 1 _ rfl
  have ka2 := BA.out.cells.2 2 _ rfl
  clear hs hi
  obtain ⟨c, hc⟩ : ∃ c, canE A node key = c := ⟨_, rfl⟩
  have HC := Kept.mk (fun v w hv => by have h := rcan_any A node key v w hv hF hk; rw [hc] at h; exact h)
  have HCE := Kept.mk hc
  clear hc
  go_enter Tryz.func25, Tryz.ntmps25
  go_wp2_with fail
  generalize ((w.alloc (.cells #[.int .i64 A.cap, vs, vi] 25)).alloc (.cells #[.string ⟨#[]⟩, .int .i64 0, .int .i64 0, .int .i64 0, .bool false, .string ⟨#[]⟩, .slice none 0 0, .slice none 0 0, .int .u64 0] 30)) = W0 at *
  refine (HC.out _ _ (stable_ar _ _ _ _ HSI.out HB.out)).mono ?_
  rintro e W1 ⟨rfl, hb⟩
  replace HB := Kept.mk (HB.out.trans (hb.mono HB.out.size))
  replace BA := Kept.mk (BA.out.keep hb)
  replace BR := Kept.mk (BR.out.keep hb)
  clear hb ka0 ka1 ka2
  have ka0 := BA.out.cells.2 0 _ rfl
  have ka1 := BA.out.cells.2 1 _ rfl
  have ka2 := BA.out.cells.2 2 _ rfl
  by_cases h0 : c = 0
  case neg =>
    have KE := Kept.mk (show addDE A node key n = c by rw [add_split, HCE.out, if_neg h0])
    have KF := Kept.mk (show addDF A node key n = zeroE by unfold addDF; rw [if_neg (by rw [KE.out]; exact h0)])
    have KZ : Kept (Ones [.string ⟨#[]⟩, .int .i64 0, .int .i64 0, .int .i64 0, .bool false, .string ⟨#[]⟩, .slice none 0 0, .slice none 0 0, .int .u64 0]) := ⟨⟨rfl, rfl, rfl, rfl, rfl, rfl, rfl, rfl, rfl, trivial⟩⟩
    go_wp2_with (have hz0 := KZ; refine wpList_storeN 30 rfl (.tmp 8) (.tmp 20) rfl (w.heap.size + 1) [.string ⟨#[]⟩, .int .i64 0, .int .i64 0, .int .i64 0, .bool false, .string ⟨#[]⟩, .slice none 0 0, .slice none 0 0, .int .u64 0] size_en rfl rfl BR.out.cells rfl BR.out.free KZ.out ?_; clear hz0)
    rw [KF.out, KE.out]
    exact bodyPost_ret (resultsN2 rfl _ _ (w.heap.size + 1) [.string ⟨#[]⟩, .int .i64 0, .int .i64 0, .int .i64 0, .bool false, .string ⟨#[]⟩, .slice none 0 0, .slice none 0 0, .int .u64 0] _ size_en agg_en rfl rfl (BR.out.all_ (l := [.string ⟨#[]⟩, .int .i64 0, .int .i64 0, .int .i64 0, .bool false, .string ⟨#[]⟩, .slice none 0 0, .slice none 0 0, .int .u64 0]) rfl).cells) rfl ⟨_, rfl, ⟨.slice none 0 0, .slice none 0 0, rfl, .inl ⟨rfl, rfl⟩, .inl ⟨rfl, rfl⟩⟩, below_setN (by omega) _ 0 _ HB.out⟩
  subst h0
  have hok := can_ok HCE.out
  have HOA := Kept.mk hok.1
  obtain ⟨kq, rfl⟩ := Int.eq_ofNat_of_zero_le hok.2.1
  have hk8 : kq < 8 := by omega
  clear hok
  by_cases a1 : n = 0
  case pos =>
    have b1 : (n == 0) = true := by simpa using a1
    have KE := Kept.mk (show addDE A (kq : Int) key n = 1 by rw [add_split, HCE.out, if_pos rfl]; have hx : argE n = 1 := (by unfold argE; rw [if_pos (.inl a1)]); simp only [firstE, hx]; rfl)
    have KF := Kept.mk (show addDF A (kq : Int) key n = zeroE by unfold addDF; rw [if_neg (by rw [KE.out]; decide)])
    have KZ : Kept (Ones [.string ⟨#[]⟩, .int .i64 0, .int .i64 0, .int .i64 0, .bool false, .string ⟨#[]⟩, .slice none 0 0, .slice none 0 0, .int .u64 0]) := ⟨⟨rfl, rfl, rfl, rfl, rfl, rfl, rfl, rfl, rfl, trivial⟩⟩
    go_wp2_with (have hz0 := KZ; refine wpList_storeN 30 rfl (.tmp 8) (.tmp 32) rfl (w.heap.size + 1) [.string ⟨#[]⟩, .int .i64 0, .int .i64 0, .int .i64 0, .bool false, .string ⟨#[]⟩, .slice none 0 0, .slice none 0 0, .int .u64 0] size_en rfl rfl BR.out.cells rfl BR.out.free KZ.out ?_; clear hz0)
    rw [KF.out, KE.out]
    exact bodyPost_ret (resultsN2 rfl _ _ (w.heap.size + 1) [.string ⟨#[]⟩, .int .i64 0, .int .i64 0, .int .i64 0, .bool false, .string ⟨#[]⟩, .slice none 0 0, .slice none 0 0, .int .u64 0] _ size_en agg_en rfl rfl (BR.out.all_ (l := [.string ⟨#[]⟩, .int .i64 0, .int .i64 0, .int .i64 0, .bool false, .string ⟨#[]⟩, .slice none 0 0, .slice none 0 0, .int .u64 0]) rfl).cells) rfl ⟨_, rfl, ⟨.slice none 0 0, .slice none 0 0, rfl, .inl ⟨rfl, rfl⟩, .inl ⟨rfl, rfl⟩⟩, below_setN (by omega) _ 0 _ HB.out⟩
  have b1 : (n == 0) = false := by simpa using a1
  by_cases a2 : 65535 < n
  case pos =>
    have KE := Kept.mk (show addDE A (kq : Int) key n = 1 by rw [add_split, HCE.out, if_pos rfl]; have hx : argE n = 1 := (by unfold argE; rw [if_pos (.inr (.inl a2))]); simp only [firstE, hx]; rfl)
    have KF := Kept.mk (show addDF A (kq : Int) key n = zeroE by unfold addDF; rw [if_neg (by rw [KE.out]; decide)])
    have KZ : Kept (Ones [.string ⟨#[]⟩, .int .i64 0, .int .i64 0, .int .i64 0, .bool false, .string ⟨#[]⟩, .slice none 0 0, .slice none 0 0, .int .u64 0]) := ⟨⟨rfl, rfl, rfl, rfl, rfl, rfl, rfl, rfl, rfl, trivial⟩⟩
    go_wp2_with (have hz0 := KZ; refine wpList_storeN 30 rfl (.tmp 8) (.tmp 32) rfl (w.heap.size + 1) [.string ⟨#[]⟩, .int .i64 0, .int .i64 0, .int .i64 0, .bool false, .string ⟨#[]⟩, .slice none 0 0, .slice none 0 0, .int .u64 0] size_en rfl rfl BR.out.cells rfl BR.out.free KZ.out ?_; clear hz0)
    rw [KF.out, KE.out]
    exact bodyPost_ret (resultsN2 rfl _ _ (w.heap.size + 1) [.string ⟨#[]⟩, .int .i64 0, .int .i64 0, .int .i64 0, .bool false, .string ⟨#[]⟩, .slice none 0 0, .slice none 0 0, .int .u64 0] _ size_en agg_en rfl rfl (BR.out.all_ (l := [.string ⟨#[]⟩, .int .i64 0, .int .i64 0, .int .i64 0, .bool false, .string ⟨#[]⟩, .slice none 0 0, .slice none 0 0, .int .u64 0]) rfl).cells) rfl ⟨_, rfl, ⟨.slice none 0 0, .slice none 0 0, rfl, .inl ⟨rfl, rfl⟩, .inl ⟨rfl, rfl⟩⟩, below_setN (by omega) _ 0 _ HB.out⟩
  by_cases a3 : n < -65535
  case pos =>
    have KE := Kept.mk (show addDE A (kq : Int) key n = 1 by rw [add_split, HCE.out, if_pos rfl]; have hx : argE n = 1 := (by unfold argE; rw [if_pos (.inr (.inr a3))]); simp only [firstE, hx]; rfl)
    have KF := Kept.mk (show addDF A (kq : Int) key n = zeroE by unfold addDF; rw [if_neg (by rw [KE.out]; decide)])
    have KZ : Kept (Ones [.string ⟨#[]⟩, .int .i64 0, .int .i64 0, .int .i64 0, .bool false, .string ⟨#[]⟩, .slice none 0 0, .slice none 0 0, .int .u64 0]) := ⟨⟨rfl, rfl, rfl, rfl, rfl, rfl, rfl, rfl, rfl, trivial⟩⟩
    go_wp2_with (have hz0 := KZ; refine wpList_storeN 30 rfl (.tmp 8) (.tmp 32) rfl (w.heap.size + 1) [.string ⟨#[]⟩, .int .i64 0, .int .i64 0, .int .i64 0, .bool false, .string ⟨#[]⟩, .slice none 0 0, .slice none 0 0, .int .u64 0] size_en rfl rfl BR.out.cells rfl BR.out.free KZ.out ?_; clear hz0)
    rw [KF.out, KE.out]
    exact bodyPost_ret (resultsN2 rfl _ _ (w.heap.size + 1) [.string ⟨#[]⟩, .int .i64 0, .int .i64 0, .int .i64 0, .bool false, .string ⟨#[]⟩, .slice none 0 0, .slice none 0 0, .int .u64 0] _ size_en agg_en rfl rfl (BR.out.all_ (l := [.string ⟨#[]⟩, .int .i64 0, .int .i64 0, .int .i64 0, .bool false, .string ⟨#[]⟩, .slice none 0 0, .slice none 0 0, .int .u64 0]) rfl).cells) rfl ⟨_, rfl, ⟨.slice none 0 0, .slice none 0 0, rfl, .inl ⟨rfl, rfl⟩, .inl ⟨rfl, rfl⟩⟩, below_setN (by omega) _ 0 _ HB.out⟩
  have HAR := Kept.mk (show argE n = 0 by unfold argE; rw [if_neg (by omega)])
  obtain ⟨z, hzz⟩ : ∃ z, (roomE A (heldB A 2 key) == 0) = z := ⟨_, rfl⟩
  have HRM := Kept.mk (fun v w hv => by have h := rroom_any A 2 key v w hv hF HOA.out; rw [hzz] at h; exact h)
  have HZZ := Kept.mk hzz
  clear hzz
  go_wp2_with fail
  refine (HRM.out _ _ (stable_ar _ _ _ _ HSI.out HB.out)).mono ?_
  rintro e W2 ⟨rfl, hb⟩
  replace HB := Kept.mk (HB.out.trans (hb.mono HB.out.size))
  replace BA := Kept.mk (BA.out.keep hb)
  replace BR := Kept.mk (BR.out.keep hb)
  clear hb ka0 ka1 ka2
  have ka0 := BA.out.cells.2 0 _ rfl
  have ka1 := BA.out.cells.2 1 _ rfl
  have ka2 := BA.out.cells.2 2 _ rfl
  cases z with
  | false =>
    have HR4 := Kept.mk (show roomE A (heldB A 2 key) = 4 by have h := HZZ.out; unfold roomE at h ⊢; split at h <;> simp_all)
    have KE := Kept.mk (show addDE A (kq : Int) key n = 4 by rw [add_split, HCE.out, if_pos rfl]; simp only [firstE, HAR.out, HR4.out]; rfl)
    have KF := Kept.mk (show addDF A (kq : Int) key n = zeroE by unfold addDF; rw [if_neg (by rw [KE.out]; decide)])
    have KZ : Kept (Ones [.string ⟨#[]⟩, .int .i64 0, .int .i64 0, .int .i64 0, .bool false, .string ⟨#[]⟩, .slice none 0 0, .slice none 0 0, .int .u64 0]) := ⟨⟨rfl, rfl, rfl, rfl, rfl, rfl, rfl, rfl, rfl, trivial⟩⟩
    go_wp2_with (have hz0 := KZ; refine wpList_storeN 30 rfl (.tmp 8) (.tmp 37) rfl (w.heap.size + 1) [.string ⟨#[]⟩, .int .i64 0, .int .i64 0, .int .i64 0, .bool false, .string ⟨#[]⟩, .slice none 0 0, .slice none 0 0, .int .u64 0] size_en rfl rfl BR.out.cells rfl BR.out.free KZ.out ?_; clear hz0)
    rw [KF.out, KE.out]
    exact bodyPost_ret (resultsN2 rfl _ _ (w.heap.size + 1) [.string ⟨#[]⟩, .int .i64 0, .int .i64 0, .int .i64 0, .bool false, .string ⟨#[]⟩, .slice none 0 0, .slice none 0 0, .int .u64 0] _ size_en agg_en rfl rfl (BR.out.all_ (l := [.string ⟨#[]⟩, .int .i64 0, .int .i64 0, .int .i64 0, .bool false, .string ⟨#[]⟩, .slice none 0 0, .slice none 0 0, .int .u64 0]) rfl).cells) rfl ⟨_, rfl, ⟨.slice none 0 0, .slice none 0 0, rfl, .inl ⟨rfl, rfl⟩, .inl ⟨rfl, rfl⟩⟩, below_setN (by omega) _ 0 _ HB.out⟩
  | true =>
    have HR0 := Kept.mk (show roomE A (heldB A 2 key) = 0 by have h := HZZ.out; simpa using h)
    obtain ⟨V, hV⟩ : ∃ V, heldV A 2 key = V := ⟨_, rfl⟩
    have HV := Kept.mk hV
    have hvk := held_ok A (kind := 2) key (.inr (.inl rfl))
    rw [hV] at hvk
    have HSP := Kept.mk (side_len hvk.1 hvk.2 1)
    have HSM := Kept.mk (side_len hvk.1 hvk.2 (-1))
    clear hV hvk
    go_wp2_with fail
    refine (rval_at A 2 key V _ _ (stable_ar _ _ _ _ HSI.out HB.out) hF (by decide) HV.out).mono ?_
    rintro e W3 ⟨v', rfl, ⟨p', m', rfl, hp', hm'⟩, hb⟩
    replace HB := Kept.mk (HB.out.trans (hb.mono HB.out.size))
    replace BA := Kept.mk (BA.out.keep hb)
    replace BR := Kept.mk (BR.out.keep hb)
    clear hb ka0 ka1 ka2
    have lp : V.plus.length = 8 := HSP.out.1
    have lm : V.minus.length = 8 := HSM.out.1
    obtain ⟨yp, hyp⟩ : ∃ y, V.plus[kq]? = some y := ⟨_, List.getElem?_eq_getElem (by omega)⟩
    obtain ⟨ym, hym⟩ : ∃ y, V.minus[kq]? = some y := ⟨_, List.getElem?_eq_getElem (by omega)⟩
    have ryp := HSP.out.2 yp (List.mem_of_getElem? hyp)
    have rym := HSM.out.2 ym (List.mem_of_getElem? hym)
    have HTP := Kept.mk (show 0 < n → togI V (kq : Int) n = yp + n from fun h => by unfold togI sideL absI; rw [if_neg (by omega), if_neg (by omega), Int.toNat_natCast, hyp]; rfl)
    have HTM := Kept.mk (show n < 0 → togI V (kq : Int) n = ym - n from fun h => by unfold togI sideL absI; rw [if_pos h, if_pos h, Int.toNat_natCast, hym]; show ym + -n = ym - n; omega)
    have KVA := Kept.mk (show isVa V (.agg #[.int .i64 V.kind, .int .i64 V.time, .int .i64 V.node, .bool V.dead, .string ⟨V.text.toArray⟩, p', m', .int .u64 (V.flags.toNat : Int)]) W3 from ⟨p', m', rfl, hp', hm'⟩)
    rcases hp' with ⟨_, e0⟩ | ⟨_, _, _, e0⟩ | ⟨bp, op, cp, ep, hlp, hcp⟩
    · rw [List.map_eq_nil_iff] at e0; rw [e0] at lp; cases lp
    · rw [List.map_eq_nil_iff] at e0; rw [e0] at lp; cases lp
    rcases hm' with ⟨_, e0⟩ | ⟨_, _, _, e0⟩ | ⟨bm, om, cm, em, hlm, hcm⟩
    · rw [List.map_eq_nil_iff] at e0; rw [e0] at lm; cases lm
    · rw [List.map_eq_nil_iff] at e0; rw [e0] at lm; cases lm
    rw [List.length_map, lp] at ep
    rw [List.length_map, lm] at em
    subst ep em
    have HCP := Kept.mk (hcp kq (intC yp) (by rw [List.getElem?_map, hyp]; rfl))
    have HCM := Kept.mk (hcm kq (intC ym) (by rw [List.getElem?_map, hym]; rfl))
    clear hcp hcm hyp hym lp lm
    have KN := Kept.mk (Blk.new W3 28 [.int .i64 0, .int .i64 0, .int .i64 0, .bool false, .string ⟨#[]⟩, .slice none 0 0, .slice none 0 0, .int .u64 0] W3.heap.size rfl)
    have KO : Kept (Ones [.int .i64 V.kind, .int .i64 V.time, .int .i64 V.node, .bool V.dead, .string ⟨V.text.toArray⟩, (.slice (some ⟨bp, op, none⟩) 8 cp), (.slice (some ⟨bm, om, none⟩) 8 cm), .int .u64 (V.flags.toNat : Int)]) := ⟨⟨rfl, rfl, rfl, rfl, rfl, rfl, rfl, rfl, trivial⟩⟩
    have BC := Kept.mk (KN.out.all_ (l := [.int .i64 V.kind, .int .i64 V.time, .int .i64 V.node, .bool V.dead, .string ⟨V.text.toArray⟩, (.slice (some ⟨bp, op, none⟩) 8 cp), (.slice (some ⟨bm, om, none⟩) 8 cm), .int .u64 (V.flags.toNat : Int)]) rfl)
    have hbz := (below_setN (Nat.le_refl W3.heap.size) [.int .i64 V.kind, .int .i64 V.time, .int .i64 V.node, .bool V.dead, .string ⟨V.text.toArray⟩, (.slice (some ⟨bp, op, none⟩) 8 cp), (.slice (some ⟨bm, om, none⟩) 8 cm), .int .u64 (V.flags.toNat : Int)] 0 _ (lit_below W3 (.cells #[.int .i64 0, .int .i64 0, .int .i64 0, .bool false, .string ⟨#[]⟩, .slice none 0 0, .slice none 0 0, .int .u64 0] 28)))
    replace BR := Kept.mk (BR.out.keep hbz)
    replace HB := Kept.mk (HB.out.trans (hbz.mono HB.out.size))
    have cyp : (setN (W3.alloc (.cells #[.int .i64 0, .int .i64 0, .int .i64 0, .bool false, .string ⟨#[]⟩, .slice none 0 0, .slice none 0 0, .int .u64 0] 28)) W3.heap.size 0 [.int .i64 V.kind, .int .i64 V.time, .int .i64 V.node, .bool V.dead, .string ⟨V.text.toArray⟩, (.slice (some ⟨bp, op, none⟩) 8 cp), (.slice (some ⟨bm, om, none⟩) 8 cm), .int .u64 (V.flags.toNat : Int)]).cell? ⟨bp, op + kq, none⟩ = some (.int .i64 yp) := (hbz.cell (p := ⟨bp, op + kq, none⟩) hlp).trans HCP.out
    have cym : (setN (W3.alloc (.cells #[.int .i64 0, .int .i64 0, .int .i64 0, .bool false, .string ⟨#[]⟩, .slice none 0 0, .slice none 0 0, .int .u64 0] 28)) W3.heap.size 0 [.int .i64 V.kind, .int .i64 V.time, .int .i64 V.node, .bool V.dead, .string ⟨V.text.toArray⟩, (.slice (some ⟨bp, op, none⟩) 8 cp), (.slice (some ⟨bm, om, none⟩) 8 cm), .int .u64 (V.flags.toNat : Int)]).cell? ⟨bm, om + kq, none⟩ = some (.int .i64 ym) := (hbz.cell (p := ⟨bm, om + kq, none⟩) hlm).trans HCM.out
    have hkq : (kq : Int) < 8 := by omega
    clear hbz KVA BA HCP HCM hlp hlm
    by_cases s1 : 0 < n
    · skip
      obtain ⟨x, hx⟩ : ∃ x, (yp + n) = x := ⟨_, rfl⟩
      have HX := Kept.mk hx
      have hxr : 0 ≤ x ∧ x ≤ 200000 := by rw [← hx]; omega
      have HT := Kept.mk (show togI V (kq : Int) n = x by rw [HTP.out s1, hx])
      by_cases ov : 65535 < x
      · skip
        have KE := Kept.mk (show addDE A (kq : Int) key n = 5 by rw [add_split, HCE.out, if_pos rfl]; have hy : overE (heldV A 2 key) (kq : Int) n = 5 := (by rw [HV.out]; unfold overE; rw [HT.out, if_pos ov]); simp only [firstE, HAR.out, HR0.out, hy]; rfl)
        have KF := Kept.mk (show addDF A (kq : Int) key n = zeroE by unfold addDF; rw [if_neg (by rw [KE.out]; decide)])
        have KZ : Kept (Ones [.string ⟨#[]⟩, .int .i64 0, .int .i64 0, .int .i64 0, .bool false, .string ⟨#[]⟩, .slice none 0 0, .slice none 0 0, .int .u64 0]) := ⟨⟨rfl, rfl, rfl, rfl, rfl, rfl, rfl, rfl, rfl, trivial⟩⟩
        rw [← hx] at ov
        clear hx
        go_wp2_with (first | (have hz0 := KN; refine wpList_storeN 28 rfl (.tmp 11) (.tmp 40) rfl W3.heap.size [.int .i64 V.kind, .int .i64 V.time, .int .i64 V.node, .bool V.dead, .string ⟨V.text.toArray⟩, (.slice (some ⟨bp, op, none⟩) 8 cp), (.slice (some ⟨bm, om, none⟩) 8 cm), .int .u64 (V.flags.toNat : Int)] size_va rfl rfl KN.out.cells rfl KN.out.free KO.out ?_; clear hz0 KN KO; generalize setN (W3.alloc (.cells #[.int .i64 0, .int .i64 0, .int .i64 0, .bool false, .string ⟨#[]⟩, .slice none 0 0, .slice none 0 0, .int .u64 0] 28)) W3.heap.size 0 [.int .i64 V.kind, .int .i64 V.time, .int .i64 V.node, .bool V.dead, .string ⟨V.text.toArray⟩, (.slice (some ⟨bp, op, none⟩) 8 cp), (.slice (some ⟨bm, om, none⟩) 8 cm), .int .u64 (V.flags.toNat : Int)] = W4 at *; generalize W3.heap.size = gv at *; have kv5 := BC.out.cells.2 5 _ rfl; have kv6 := BC.out.cells.2 6 _ rfl) | (have hz1 := KZ; refine wpList_storeN 30 rfl (.tmp 8) (.tmp 63) rfl (w.heap.size + 1) [.string ⟨#[]⟩, .int .i64 0, .int .i64 0, .int .i64 0, .bool false, .string ⟨#[]⟩, .slice none 0 0, .slice none 0 0, .int .u64 0] size_en rfl rfl BR.out.cells rfl BR.out.free KZ.out ?_; clear hz1))
        rw [KF.out, KE.out]
        exact bodyPost_ret (resultsN2 rfl _ _ (w.heap.size + 1) [.string ⟨#[]⟩, .int .i64 0, .int .i64 0, .int .i64 0, .bool false, .string ⟨#[]⟩, .slice none 0 0, .slice none 0 0, .int .u64 0] _ size_en agg_en rfl rfl (BR.out.all_ (l := [.string ⟨#[]⟩, .int .i64 0, .int .i64 0, .int .i64 0, .bool false, .string ⟨#[]⟩, .slice none 0 0, .slice none 0 0, .int .u64 0]) rfl).cells) rfl ⟨_, rfl, ⟨.slice none 0 0, .slice none 0 0, rfl, .inl ⟨rfl, rfl⟩, .inl ⟨rfl, rfl⟩⟩, below_setN (by omega) _ 0 _ HB.out⟩
      · skip
        have KE := Kept.mk (show addDE A (kq : Int) key n = 0 by rw [add_split, HCE.out, if_pos rfl]; have hy : overE (heldV A 2 key) (kq : Int) n = 0 := (by rw [HV.out]; unfold overE; rw [HT.out, if_neg ov]); simp only [firstE, HAR.out, HR0.out, hy]; rfl)
        have KF := Kept.mk (show addDF A (kq : Int) key n = cntE key (kq : Int) n x by unfold addDF; rw [if_pos KE.out, HV.out, HT.out])
        rw [← hx] at ov
        clear hx
        go_wp2_with (first | (have hz0 := KN; refine wpList_storeN 28 rfl (.tmp 11) (.tmp 40) rfl W3.heap.size [.int .i64 V.kind, .int .i64 V.time, .int .i64 V.node, .bool V.dead, .string ⟨V.text.toArray⟩, (.slice (some ⟨bp, op, none⟩) 8 cp), (.slice (some ⟨bm, om, none⟩) 8 cm), .int .u64 (V.flags.toNat : Int)] size_va rfl rfl KN.out.cells rfl KN.out.free KO.out ?_; clear hz0 KN KO; generalize setN (W3.alloc (.cells #[.int .i64 0, .int .i64 0, .int .i64 0, .bool false, .string ⟨#[]⟩, .slice none 0 0, .slice none 0 0, .int .u64 0] 28)) W3.heap.size 0 [.int .i64 V.kind, .int .i64 V.time, .int .i64 V.node, .bool V.dead, .string ⟨V.text.toArray⟩, (.slice (some ⟨bp, op, none⟩) 8 cp), (.slice (some ⟨bm, om, none⟩) 8 cm), .int .u64 (V.flags.toNat : Int)] = W4 at *; generalize W3.heap.size = gv at *; have kv5 := BC.out.cells.2 5 _ rfl; have kv6 := BC.out.cells.2 6 _ rfl) | fail)
        refine (ronly_any kq (yp + n) _ hk8).mono ?_
        rintro e U1 ⟨g1, rfl, b1, r1, hb⟩
        replace HB := Kept.mk (HB.out.trans (hb.mono HB.out.size))
        have hl4 := BR.out.lt
        replace BR := Kept.mk (BR.out.keep hb)
        clear hb kv5 kv6 cyp cym BC
        go_wp2_with fail
        refine (ronly_any kq 0 _ hk8).mono ?_
        rintro e U2 ⟨g2, rfl, b2, r2, hb⟩
        have hu1 := BR.out.lt
        replace HB := Kept.mk (HB.out.trans (hb.mono HB.out.size))
        replace BR := Kept.mk (BR.out.keep hb)
        have R1 := Kept.mk (r1.keep hb)
        have R2 := Kept.mk r2
        clear hb r1 r2
        have KZ : Kept (Ones [.string ⟨key.toArray⟩, .int .i64 2, .int .i64 0, .int .i64 0, .bool false, .string ⟨#[]⟩, .slice (some ⟨g1, 0, none⟩) 8 8, .slice (some ⟨g2, 0, none⟩) 8 8, .int .u64 0]) := ⟨⟨rfl, rfl, rfl, rfl, rfl, rfl, rfl, rfl, rfl, trivial⟩⟩
        have hn1 : g1 ≠ (w.heap.size + 1) := by omega
        have hn2 : g2 ≠ (w.heap.size + 1) := by omega
        have Q1 := Kept.mk (show isCells ((onlyI (kq : Int) x).map intC) (.slice (some ⟨g1, 0, none⟩) 8 8) (setN U2 (w.heap.size + 1) 0 [.string ⟨key.toArray⟩, .int .i64 2, .int .i64 0, .int .i64 0, .bool false, .string ⟨#[]⟩, .slice (some ⟨g1, 0, none⟩) 8 8, .slice (some ⟨g2, 0, none⟩) 8 8, .int .u64 0]) from blk_cells8 (l := onlyI (kq : Int) x) (by rw [only_cells, ← HX.out]; exact R1.out.apartN hn1 0 [.string ⟨key.toArray⟩, .int .i64 2, .int .i64 0, .int .i64 0, .bool false, .string ⟨#[]⟩, .slice (some ⟨g1, 0, none⟩) 8 8, .slice (some ⟨g2, 0, none⟩) 8 8, .int .u64 0]) (by unfold onlyI; simp))
        have Q2 := Kept.mk (show isCells ((List.replicate 8 (0 : Int)).map intC) (.slice (some ⟨g2, 0, none⟩) 8 8) (setN U2 (w.heap.size + 1) 0 [.string ⟨key.toArray⟩, .int .i64 2, .int .i64 0, .int .i64 0, .bool false, .string ⟨#[]⟩, .slice (some ⟨g1, 0, none⟩) 8 8, .slice (some ⟨g2, 0, none⟩) 8 8, .int .u64 0]) from blk_cells8 (l := List.replicate 8 (0 : Int)) (by rw [rep_cells, ← only_zero kq]; exact R2.out.apartN hn2 0 [.string ⟨key.toArray⟩, .int .i64 2, .int .i64 0, .int .i64 0, .bool false, .string ⟨#[]⟩, .slice (some ⟨g1, 0, none⟩) 8 8, .slice (some ⟨g2, 0, none⟩) 8 8, .int .u64 0]) (by rfl))
        go_wp2_with (have hz0 := KZ; refine wpList_storeN 30 rfl (.tmp 8) (.tmp 72) rfl (w.heap.size + 1) [.string ⟨key.toArray⟩, .int .i64 2, .int .i64 0, .int .i64 0, .bool false, .string ⟨#[]⟩, .slice (some ⟨g1, 0, none⟩) 8 8, .slice (some ⟨g2, 0, none⟩) 8 8, .int .u64 0] size_en rfl rfl BR.out.cells rfl BR.out.free KZ.out ?_; clear hz0)
        rw [KF.out, KE.out]
        exact bodyPost_ret (resultsN2 rfl _ _ (w.heap.size + 1) [.string ⟨key.toArray⟩, .int .i64 2, .int .i64 0, .int .i64 0, .bool false, .string ⟨#[]⟩, .slice (some ⟨g1, 0, none⟩) 8 8, .slice (some ⟨g2, 0, none⟩) 8 8, .int .u64 0] _ size_en agg_en rfl rfl (BR.out.all_ (l := [.string ⟨key.toArray⟩, .int .i64 2, .int .i64 0, .int .i64 0, .bool false, .string ⟨#[]⟩, .slice (some ⟨g1, 0, none⟩) 8 8, .slice (some ⟨g2, 0, none⟩) 8 8, .int .u64 0]) rfl).cells) rfl ⟨_, rfl, ⟨.slice (some ⟨g1, 0, none⟩) 8 8, .slice (some ⟨g2, 0, none⟩) 8 8, rfl, by show isCells ((if n < 0 then List.replicate 8 0 else onlyI (kq : Int) x).map intC) _ _; rw [if_neg (by omega)]; exact Q1.out, by show isCells ((if n < 0 then onlyI (kq : Int) x else List.replicate 8 0).map intC) _ _; rw [if_neg (by omega)]; exact Q2.out⟩, below_setN (by omega) _ 0 _ HB.out⟩
    · skip
      have s1' : ¬ 0 < n := s1
      replace s1 : n < 0 := by omega
      obtain ⟨x, hx⟩ : ∃ x, (ym - n) = x := ⟨_, rfl⟩
      have HX := Kept.mk hx
      have hxr : 0 ≤ x ∧ x ≤ 200000 := by rw [← hx]; omega
      have HT := Kept.mk (show togI V (kq : Int) n = x by rw [HTM.out s1, hx])
      by_cases ov : 65535 < x
      · skip
        have KE := Kept.mk (show addDE A (kq : Int) key n = 5 by rw [add_split, HCE.out, if_pos rfl]; have hy : overE (heldV A 2 key) (kq : Int) n = 5 := (by rw [HV.out]; unfold overE; rw [HT.out, if_pos ov]); simp only [firstE, HAR.out, HR0.out, hy]; rfl)
        have KF := Kept.mk (show addDF A (kq : Int) key n = zeroE by unfold addDF; rw [if_neg (by rw [KE.out]; decide)])
        have KZ : Kept (Ones [.string ⟨#[]⟩, .int .i64 0, .int .i64 0, .int .i64 0, .bool false, .string ⟨#[]⟩, .slice none 0 0, .slice none 0 0, .int .u64 0]) := ⟨⟨rfl, rfl, rfl, rfl, rfl, rfl, rfl, rfl, rfl, trivial⟩⟩
        rw [← hx] at ov
        clear hx
        go_wp2_with (first | (have hz0 := KN; refine wpList_storeN 28 rfl (.tmp 11) (.tmp 40) rfl W3.heap.size [.int .i64 V.kind, .int .i64 V.time, .int .i64 V.node, .bool V.dead, .string ⟨V.text.toArray⟩, (.slice (some ⟨bp, op, none⟩) 8 cp), (.slice (some ⟨bm, om, none⟩) 8 cm), .int .u64 (V.flags.toNat : Int)] size_va rfl rfl KN.out.cells rfl KN.out.free KO.out ?_; clear hz0 KN KO; generalize setN (W3.alloc (.cells #[.int .i64 0, .int .i64 0, .int .i64 0, .bool false, .string ⟨#[]⟩, .slice none 0 0, .slice none 0 0, .int .u64 0] 28)) W3.heap.size 0 [.int .i64 V.kind, .int .i64 V.time, .int .i64 V.node, .bool V.dead, .string ⟨V.text.toArray⟩, (.slice (some ⟨bp, op, none⟩) 8 cp), (.slice (some ⟨bm, om, none⟩) 8 cm), .int .u64 (V.flags.toNat : Int)] = W4 at *; generalize W3.heap.size = gv at *; have kv5 := BC.out.cells.2 5 _ rfl; have kv6 := BC.out.cells.2 6 _ rfl) | (have hz1 := KZ; refine wpList_storeN 30 rfl (.tmp 8) (.tmp 63) rfl (w.heap.size + 1) [.string ⟨#[]⟩, .int .i64 0, .int .i64 0, .int .i64 0, .bool false, .string ⟨#[]⟩, .slice none 0 0, .slice none 0 0, .int .u64 0] size_en rfl rfl BR.out.cells rfl BR.out.free KZ.out ?_; clear hz1))
        rw [KF.out, KE.out]
        exact bodyPost_ret (resultsN2 rfl _ _ (w.heap.size + 1) [.string ⟨#[]⟩, .int .i64 0, .int .i64 0, .int .i64 0, .bool false, .string ⟨#[]⟩, .slice none 0 0, .slice none 0 0, .int .u64 0] _ size_en agg_en rfl rfl (BR.out.all_ (l := [.string ⟨#[]⟩, .int .i64 0, .int .i64 0, .int .i64 0, .bool false, .string ⟨#[]⟩, .slice none 0 0, .slice none 0 0, .int .u64 0]) rfl).cells) rfl ⟨_, rfl, ⟨.slice none 0 0, .slice none 0 0, rfl, .inl ⟨rfl, rfl⟩, .inl ⟨rfl, rfl⟩⟩, below_setN (by omega) _ 0 _ HB.out⟩
      · skip
        have KE := Kept.mk (show addDE A (kq : Int) key n = 0 by rw [add_split, HCE.out, if_pos rfl]; have hy : overE (heldV A 2 key) (kq : Int) n = 0 := (by rw [HV.out]; unfold overE; rw [HT.out, if_neg ov]); simp only [firstE, HAR.out, HR0.out, hy]; rfl)
        have KF := Kept.mk (show addDF A (kq : Int) key n = cntE key (kq : Int) n x by unfold addDF; rw [if_pos KE.out, HV.out, HT.out])
        rw [← hx] at ov
        clear hx
        go_wp2_with (first | (have hz0 := KN; refine wpList_storeN 28 rfl (.tmp 11) (.tmp 40) rfl W3.heap.size [.int .i64 V.kind, .int .i64 V.time, .int .i64 V.node, .bool V.dead, .string ⟨V.text.toArray⟩, (.slice (some ⟨bp, op, none⟩) 8 cp), (.slice (some ⟨bm, om, none⟩) 8 cm), .int .u64 (V.flags.toNat : Int)] size_va rfl rfl KN.out.cells rfl KN.out.free KO.out ?_; clear hz0 KN KO; generalize setN (W3.alloc (.cells #[.int .i64 0, .int .i64 0, .int .i64 0, .bool false, .string ⟨#[]⟩, .slice none 0 0, .slice none 0 0, .int .u64 0] 28)) W3.heap.size 0 [.int .i64 V.kind, .int .i64 V.time, .int .i64 V.node, .bool V.dead, .string ⟨V.text.toArray⟩, (.slice (some ⟨bp, op, none⟩) 8 cp), (.slice (some ⟨bm, om, none⟩) 8 cm), .int .u64 (V.flags.toNat : Int)] = W4 at *; generalize W3.heap.size = gv at *; have kv5 := BC.out.cells.2 5 _ rfl; have kv6 := BC.out.cells.2 6 _ rfl) | fail)
        refine (ronly_any kq 0 _ hk8).mono ?_
        rintro e U1 ⟨g1, rfl, b1, r1, hb⟩
        replace HB := Kept.mk (HB.out.trans (hb.mono HB.out.size))
        have hl4 := BR.out.lt
        replace BR := Kept.mk (BR.out.keep hb)
        clear hb kv5 kv6 cyp cym BC
        go_wp2_with fail
        refine (ronly_any kq (ym - n) _ hk8).mono ?_
        rintro e U2 ⟨g2, rfl, b2, r2, hb⟩
        have hu1 := BR.out.lt
        replace HB := Kept.mk (HB.out.trans (hb.mono HB.out.size))
        replace BR := Kept.mk (BR.out.keep hb)
        have R1 := Kept.mk (r1.keep hb)
        have R2 := Kept.mk r2
        clear hb r1 r2
        have KZ : Kept (Ones [.string ⟨key.toArray⟩, .int .i64 2, .int .i64 0, .int .i64 0, .bool false, .string ⟨#[]⟩, .slice (some ⟨g1, 0, none⟩) 8 8, .slice (some ⟨g2, 0, none⟩) 8 8, .int .u64 0]) := ⟨⟨rfl, rfl, rfl, rfl, rfl, rfl, rfl, rfl, rfl, trivial⟩⟩
        have hn1 : g1 ≠ (w.heap.size + 1) := by omega
        have hn2 : g2 ≠ (w.heap.size + 1) := by omega
        have Q1 := Kept.mk (show isCells ((List.replicate 8 (0 : Int)).map intC) (.slice (some ⟨g1, 0, none⟩) 8 8) (setN U2 (w.heap.size + 1) 0 [.string ⟨key.toArray⟩, .int .i64 2, .int .i64 0, .int .i64 0, .bool false, .string ⟨#[]⟩, .slice (some ⟨g1, 0, none⟩) 8 8, .slice (some ⟨g2, 0, none⟩) 8 8, .int .u64 0]) from blk_cells8 (l := List.replicate 8 (0 : Int)) (by rw [rep_cells, ← only_zero kq]; exact R1.out.apartN hn1 0 [.string ⟨key.toArray⟩, .int .i64 2, .int .i64 0, .int .i64 0, .bool false, .string ⟨#[]⟩, .slice (some ⟨g1, 0, none⟩) 8 8, .slice (some ⟨g2, 0, none⟩) 8 8, .int .u64 0]) (by rfl))
        have Q2 := Kept.mk (show isCells ((onlyI (kq : Int) x).map intC) (.slice (some ⟨g2, 0, none⟩) 8 8) (setN U2 (w.heap.size + 1) 0 [.string ⟨key.toArray⟩, .int .i64 2, .int .i64 0, .int .i64 0, .bool false, .string ⟨#[]⟩, .slice (some ⟨g1, 0, none⟩) 8 8, .slice (some ⟨g2, 0, none⟩) 8 8, .int .u64 0]) from blk_cells8 (l := onlyI (kq : Int) x) (by rw [only_cells, ← HX.out]; exact R2.out.apartN hn2 0 [.string ⟨key.toArray⟩, .int .i64 2, .int .i64 0, .int .i64 0, .bool false, .string ⟨#[]⟩, .slice (some ⟨g1, 0, none⟩) 8 8, .slice (some ⟨g2, 0, none⟩) 8 8, .int .u64 0]) (by unfold onlyI; simp))
        go_wp2_with (have hz0 := KZ; refine wpList_storeN 30 rfl (.tmp 8) (.tmp 72) rfl (w.heap.size + 1) [.string ⟨key.toArray⟩, .int .i64 2, .int .i64 0, .int .i64 0, .bool false, .string ⟨#[]⟩, .slice (some ⟨g1, 0, none⟩) 8 8, .slice (some ⟨g2, 0, none⟩) 8 8, .int .u64 0] size_en rfl rfl BR.out.cells rfl BR.out.free KZ.out ?_; clear hz0)
        rw [KF.out, KE.out]
        exact bodyPost_ret (resultsN2 rfl _ _ (w.heap.size + 1) [.string ⟨key.toArray⟩, .int .i64 2, .int .i64 0, .int .i64 0, .bool false, .string ⟨#[]⟩, .slice (some ⟨g1, 0, none⟩) 8 8, .slice (some ⟨g2, 0, none⟩) 8 8, .int .u64 0] _ size_en agg_en rfl rfl (BR.out.all_ (l := [.string ⟨key.toArray⟩, .int .i64 2, .int .i64 0, .int .i64 0, .bool false, .string ⟨#[]⟩, .slice (some ⟨g1, 0, none⟩) 8 8, .slice (some ⟨g2, 0, none⟩) 8 8, .int .u64 0]) rfl).cells) rfl ⟨_, rfl, ⟨.slice (some ⟨g1, 0, none⟩) 8 8, .slice (some ⟨g2, 0, none⟩) 8 8, rfl, by show isCells ((if n < 0 then List.replicate 8 0 else onlyI (kq : Int) x).map intC) _ _; rw [if_pos (by omega)]; exact Q1.out, by show isCells ((if n < 0 then onlyI (kq : Int) x else List.replicate 8 0).map intC) _ _; rw [if_pos (by omega)]; exact Q2.out⟩, below_setN (by omega) _ 0 _ HB.out⟩
end Go.Proofs.YtbgconagkgfplaaGreat
end
