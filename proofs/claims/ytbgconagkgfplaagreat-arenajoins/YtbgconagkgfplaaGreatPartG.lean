/- Joined texts: contracts of the program's functions, and the mathematics that they lean on. -/
import Derived.Test.YtbgconagkgfplaaGreatPartF
section
namespace Go.Proofs.YtbgconagkgfplaaGreat
open Go.RowKit
set_option linter.unusedVariables false
set_option linter.unusedSimpArgs false
attribute [local irreducible] setN

theorem slots_snoc {m : List En} {x : En} : slotsB (m ++ [x]) = true ↔ slotsB m = true ∧ okE x = true ∧ ∀ y ∈ m, nameB x y = false := by
  unfold slotsB apartB
  simp only [Bool.and_eq_true, decide_eq_true_eq, List.all_append, List.all_cons, List.all_nil, Bool.and_true, List.pairwise_append, List.pairwise_cons, List.not_mem_nil, List.mem_singleton, List.Pairwise.nil]
  constructor
  · rintro ⟨⟨h1, h2⟩, h3, _, h4⟩; exact ⟨⟨h1, h3⟩, h2, fun y hy => h4 y hy x rfl⟩
  · rintro ⟨⟨h1, h3⟩, h2, h4⟩; exact ⟨⟨h1, h2⟩, h3, ⟨fun _ h => h.elim, trivial⟩, fun y hy b hb => by rw [hb]; exact h4 y hy⟩
theorem slots_bad {l : List En} {k : Nat} {x : En} (h : l[k]? = some x) (hx : okE x = false) : slotsB l = false := by
  unfold slotsB
  rw [show l.all okE = false by rw [List.all_eq_false]; exact ⟨x, List.mem_of_getElem? h, by rw [hx]; decide⟩]; rfl
theorem slots_twice {l : List En} {k j : Nat} {x y : En} (h : l[k]? = some x) (hj : l[j]? = some y) (hlt : j < k) (hn : nameB x y = true) : slotsB l = false := by
  unfold slotsB
  cases ha : apartB l with
  | false => simp
  | true => rw [apart_at ha h hj hlt] at hn; cases hn
theorem rechk_at (E : En) (r : Bool) (v : Value) (w : World) (hv : isEn E v w) (hF : FitE E) (hr : okE E = r) : Calls Tryz.prog 101 #[v] w fun e w' => e = .returned (.bool r) ∧ Below w.heap.size w w' := by subst hr; exact rechk_any E v w hv hF
set_option maxRecDepth 100000 in
set_option maxHeartbeats 2000000 in
theorem rslots_any (l : List En) (v : Value) (w : World) (hv : isEns l v w) (hl : l.length ≤ 1000) (fl : ∀ e ∈ l, FitE e) : Calls Tryz.prog 128 #[v] w fun e w' => e = .returned (.bool (slotsB l)) ∧ Below w.heap.size w w' := by
  obtain ⟨va, vc, rfl⟩ := hv.len
  have HV := Kept.mk hv
  have FL := Kept.mk fl
  clear hv fl
  obtain ⟨S, hS⟩ : ∃ S, slotsB l = S := ⟨_, rfl⟩
  rw [hS]
  have HS := Kept.mk hS
  clear hS
  generalize hn : l.length = n at *
  have HN := Kept.mk hn
  clear hn
  go_enter Tryz.func128, Tryz.ntmps128
  go_wp2
  go_loopw [3] (fun IV WZ => ∃ k : Nat, k ≤ n ∧ IV = .int .i64 (k : Int) ∧ Kept (slotsB (l.take k) = true) ∧ Kept (Below w.heap.size w WZ)) (fun IV _ => n - (intOf IV).toNat)
  case atStart => exact ⟨0, Nat.zero_le _, rfl, ⟨by rw [List.take_zero]; rfl⟩, ⟨Below.refl _ _⟩⟩
  case round =>
    obtain ⟨k, hk, rfl, A, B⟩ := hrel
    by_cases hlt : k < n
    · have hlt' : (k : Int) < (n : Int) := by omega
      obtain ⟨X, hX⟩ : ∃ X, l[k]? = some X := ⟨_, List.getElem?_eq_getElem (by rw [HN.out]; exact hlt)⟩
      have HX := Kept.mk hX
      rcases HV.out.cases_ with ⟨_, _, _, hnil⟩ | ⟨bs, os, cs, ea, hbs, hall⟩
      · rw [hnil] at hX; simp at hX
      · injection ea with ea1 ea2 ea3
        subst ea1 ea3
        have HALL := Kept.mk hall
        obtain ⟨xp, xm, hxc, hxp, hxm⟩ := hall k X hX
        have HXC := Kept.mk hxc
        have HXP := Kept.mk hxp
        have HXM := Kept.mk hxm
        have FX := Kept.mk (FL.out X (List.mem_of_getElem? hX))
        have kx0 : wr.cell? ⟨bs, os + k * 9, none⟩ = _ := (B.out.cell (p := ⟨bs, os + k * 9 + 0, none⟩) hbs).trans (hxc 0 _ rfl)
        have kx1 : wr.cell? ⟨bs, os + k * 9 + 1, none⟩ = _ := (B.out.cell (p := ⟨bs, os + k * 9 + 1, none⟩) hbs).trans (hxc 1 _ rfl)
        have kx2 : wr.cell? ⟨bs, os + k * 9 + 2, none⟩ = _ := (B.out.cell (p := ⟨bs, os + k * 9 + 2, none⟩) hbs).trans (hxc 2 _ rfl)
        have kx3 : wr.cell? ⟨bs, os + k * 9 + 3, none⟩ = _ := (B.out.cell (p := ⟨bs, os + k * 9 + 3, none⟩) hbs).trans (hxc 3 _ rfl)
        have kx4 : wr.cell? ⟨bs, os + k * 9 + 4, none⟩ = _ := (B.out.cell (p := ⟨bs, os + k * 9 + 4, none⟩) hbs).trans (hxc 4 _ rfl)
        have kx5 : wr.cell? ⟨bs, os + k * 9 + 5, none⟩ = _ := (B.out.cell (p := ⟨bs, os + k * 9 + 5, none⟩) hbs).trans (hxc 5 _ rfl)
        have kx6 : wr.cell? ⟨bs, os + k * 9 + 6, none⟩ = _ := (B.out.cell (p := ⟨bs, os + k * 9 + 6, none⟩) hbs).trans (hxc 6 _ rfl)
        have kx7 : wr.cell? ⟨bs, os + k * 9 + 7, none⟩ = _ := (B.out.cell (p := ⟨bs, os + k * 9 + 7, none⟩) hbs).trans (hxc 7 _ rfl)
        have kx8 : wr.cell? ⟨bs, os + k * 9 + 8, none⟩ = _ := (B.out.cell (p := ⟨bs, os + k * 9 + 8, none⟩) hbs).trans (hxc 8 _ rfl)
        obtain ⟨c, hc⟩ : ∃ c, okE X = c := ⟨_, rfl⟩
        have HC := Kept.mk hc
        clear hX hall hxc hxp hxm ea2 hc
        go_wp2_with fail
        refine (rechk_at X c _ _ (en_mk HXP.out HXM.out B.out) FX.out HC.out).mono ?_
        rintro e W1 ⟨rfl, hb⟩
        replace B := Kept.mk (B.out.trans (hb.mono B.out.size))
        clear hb kx0 kx1 kx2 kx3 kx4 kx5 kx6 kx7 kx8
        cases c with
        | false =>
          have HF := Kept.mk (show S = false by rw [← HS.out]; exact slots_bad HX.out HC.out)
          go_wp2
          go_ret
          exact ⟨by rw [HF.out]; rfl, B.out⟩
        | true =>
          go_wp2
          go_loopw [4] (fun JV WZ => ∃ j : Nat, j ≤ k ∧ JV = .int .i64 (j : Int) ∧ Kept (∀ m y, m < j → l[m]? = some y → nameB X y = false) ∧ Kept (Below w.heap.size w WZ)) (fun JV _ => k - (intOf JV).toNat)
          case atStart => exact ⟨0, Nat.zero_le _, rfl, ⟨fun m y h => absurd h (Nat.not_lt_zero _)⟩, B⟩
          case round =>
            clear B
            obtain ⟨j, hj, rfl, AJ, B⟩ := hrel
            by_cases hjk : j < k
            · have hjk' : (j : Int) < (k : Int) := by omega
              obtain ⟨Y, hY⟩ : ∃ Y, l[j]? = some Y := ⟨_, List.getElem?_eq_getElem (by rw [HN.out]; omega)⟩
              have HY := Kept.mk hY
              obtain ⟨yp, ym, hyc, hyp, hym⟩ := HALL.out j Y hY
              have HYC := Kept.mk hyc
              obtain ⟨z, hz⟩ : ∃ z, nameB X Y = z := ⟨_, rfl⟩
              have HZ := Kept.mk hz
              have hsw := B.out.size
              clear hY hyc hz
              go_wp2
              refine rsl1_region _ _ _ rfl k j n bs os vc z X Y xp xm yp ym rfl rfl rfl hlt (by omega) (by omega) (fun jj x hx => (B.out.cell (p := ⟨bs, os + k * 9 + jj, none⟩) hbs).trans (HXC.out jj x hx)) (fun jj x hx => (B.out.cell (p := ⟨bs, os + j * 9 + jj, none⟩) hbs).trans (HYC.out jj x hx)) (stable_cells _ _ _ _ HXP.out B.out) (stable_cells _ _ _ _ HXM.out B.out) (stable_cells _ _ _ _ hyp B.out) (stable_cells _ _ _ _ hym B.out) HZ.out ?_
              intro f9 W9 d30 hb9
              simp only [List.foldl_cons, List.foldl_nil, d30]
              generalize f9 22 = y22
              generalize f9 23 = y23
              generalize f9 24 = y24
              generalize f9 25 = y25
              generalize f9 26 = y26
              generalize f9 27 = y27
              generalize f9 28 = y28
              generalize f9 29 = y29
              clear d30
              simp only [List.setIfInBounds_toArray, List.set_cons_succ, List.set_cons_zero]
              replace B := Kept.mk (B.out.trans (hb9.mono hsw))
              clear hb9 hyp hym HYC
              cases z with
              | true =>
                have HF := Kept.mk (show S = false by rw [← HS.out]; exact slots_twice HX.out HY.out hjk HZ.out)
                go_wp2
                go_ret
                exact ⟨by rw [HF.out]; rfl, B.out⟩
              | false =>
                go_wp2
                go_roundw
                case rel =>
                  refine ⟨j + 1, by omega, by go_num, ⟨fun m y hm hy => ?_⟩, B⟩
                  by_cases e : m = j
                  · subst e; rw [HY.out] at hy; injection hy with hy; rw [← hy]; exact HZ.out
                  · exact AJ.out m y (by omega) hy
                case measure => simp [intOf]; omega
            · have hjk' : ¬ (j : Int) < (k : Int) := by omega
              go_wp2
              go_roundw
              case rel =>
                refine ⟨k + 1, by omega, by go_num, ⟨?_⟩, B⟩
                rw [List.take_add_one, HX.out]
                refine slots_snoc.2 ⟨A.out, HC.out, fun y hy => ?_⟩
                obtain ⟨m, hm⟩ := List.getElem?_of_mem hy
                have hmk : m < k := by have := (List.getElem?_eq_some_iff.1 hm).1; rw [List.length_take] at this; omega
                rw [List.getElem?_take_of_lt hmk] at hm
                exact AJ.out m y (by omega) hm
              case measure => simp [intOf]; omega
    · have hlt' : ¬ (k : Int) < (n : Int) := by omega
      have HF := Kept.mk (show S = true by rw [← HS.out, ← A.out, List.take_of_length_le (by rw [HN.out]; omega)])
      go_wp2
      go_ret
      exact ⟨by rw [HF.out]; rfl, B.out⟩
theorem call_vb {f : FuncId} {vs : Array Value} {w : World} {r : Value} (h : Calls Tryz.prog f vs w fun e w' => e = .returned r ∧ Below w.heap.size w w') : Calls Tryz.prog f vs w fun e w' => ∃ x, e = .returned x ∧ isVal r x w' ∧ Below w.heap.size w w' := h.mono (by rintro e w' ⟨rfl, hb⟩; exact ⟨_, rfl, rfl, hb⟩)
theorem rslots_at (l : List En) (r : Bool) (v : Value) (w : World) (hv : isEns l v w) (hl : l.length ≤ 1000) (fl : ∀ e ∈ l, FitE e) (hr : slotsB l = r) : Calls Tryz.prog 128 #[v] w fun e w' => e = .returned (.bool r) ∧ Below w.heap.size w w' := by subst hr; exact rslots_any l v w hv hl fl
theorem rindex_pred (l : List En) (v : Value) (w : World) (hv : isEns l v w) (hl : l.length ≤ 1000) : Calls Tryz.prog 102 #[v] w fun e w' => ∃ x, e = .returned x ∧ isCells ((idxM l).map intC) x w' ∧ Below w.heap.size w w' :=
  (rindex_post l v w hv hl).mono (by rintro e w' ⟨v', rfl, h1, hb⟩; exact ⟨_, rfl, h1.cells, hb⟩)
theorem rints_at (a b : List Int) (r : Bool) (v u : Value) (w : World) (hv : isCells (a.map intC) v w) (hu : isCells (b.map intC) u w) (ha : a.length ≤ 100000) (hb : b.length ≤ 100000) (hr : decide (a = b) = r) : Calls Tryz.prog 51 #[v, u] w fun e w' => e = .returned (.bool r) ∧ Below w.heap.size w w' := by subst hr; exact refInts_any a b v u w hv hu (by omega) (by omega)
theorem geq_int {P : Program} (t : TypeId) (k : IntKind) (x y : Int) (b : Bool) (h : decide (y ≤ x) = b) (w : World) : (binOp .geq t (.int k x) (.int k y)).run P w = .ok (.bool b) w := by subst h; simp [go_sem]
theorem leq_int {P : Program} (t : TypeId) (k : IntKind) (x y : Int) (b : Bool) (h : decide (x ≤ y) = b) (w : World) : (binOp .leq t (.int k x) (.int k y)).run P w = .ok (.bool b) w := by subst h; simp [go_sem]
noncomputable def rck0Ops : Array Oper := regionOf Tryz.f100 1
set_option maxRecDepth 100000 in
set_option maxHeartbeats 2000000 in
theorem rck0_region (Q : Exit → Act → World → Prop) (a0 : Act) (w0 : World) (hsz : a0.tmps.size = 32) (g n sc : Nat) (c : Int) (sa : Option Addr) (vi : Value) (L : List En) (idx : List Int) (z : Bool) (e1 : a0.tmps.getD 1 undef = .pointer (some ⟨g, 0, none⟩)) (HG : CellsN w0 g [.int .i64 c, .slice sa n sc, vi]) (hs : isEns L (.slice sa n sc) w0) (hi : isCells (idx.map intC) vi w0) (hL : L.length ≤ 1000) (hI : idx.length ≤ 100000) (fL : ∀ e ∈ L, FitE e) (h1 : decide (1 ≤ c) = false)
    (hQ : ∀ (g : Nat → Value) (w : World), g 2 = .bool false → Below w0.heap.size w0 w → Q .normal { tmps := [3, 4, 5, 6, 7, 8, 9, 10, 11, 12, 13, 14, 15, 16, 17, 18, 19, 20, 21, 22, 23, 24, 25, 26, 27, 28, 29, 30, 31, 2].foldl (fun t s => t.setIfInBounds s (g s)) a0.tmps, defers := a0.defers } w) :
    (Code.region 1 rck0Ops true).wp Tryz.prog Q a0 w0 := by
  refine wp_region_flow mixed (by rw [hsz]; kernel_rfl) ?_
  rw [show rck0Ops.size = 30 by kernel_rfl]
  refine ⟨isVal (.pointer (some ⟨g, 0, none⟩)), step_field 25 (.tmp 1) 0 ⟨g, 0, none⟩ ⟨g, 0, none⟩ (by kernel_rfl) (wanted_none (by kernel_rfl)) (knows_old 1 (.pointer (some ⟨g, 0, none⟩)) (by kernel_rfl) e1) (f_ar_0_0 (g)), ?_⟩
  refine ⟨isVal (.int .i64 c), step_read 3 (.tmp 3) ⟨g, 0, none⟩ (.int .i64 c) (by kernel_rfl) (wanted_none (by kernel_rfl)) (knows_new (V := isVal (.pointer (some ⟨g, 0, none⟩))) 3 0 (by kernel_rfl) (by kernel_rfl) (by kernel_rfl)) (HG.2 0 _ rfl) (HG.1) (agg_noZ), ?_⟩
  refine ⟨isVal (.bool false), step_bin .geq 3 3 (.tmp 4) (.const (.int .i64 1)) (.int .i64 c) (.int .i64 1) (.bool false) (by kernel_rfl) (wanted_none (by kernel_rfl)) (knows_new (V := isVal (.int .i64 c)) 4 1 (by kernel_rfl) (by kernel_rfl) (by kernel_rfl)) (knows_const _) (fun _ => rfl) (geq_int _ _ _ _ _ h1), ?_⟩
  refine ⟨isVal (.bool false), step_move (.tmp 5) (by kernel_rfl) (wanted_none (by kernel_rfl)) (stable_val _) (knows_new (V := isVal (.bool false)) 5 2 (by kernel_rfl) (by kernel_rfl) (by kernel_rfl)), ?_⟩
  refine ⟨_, step_skip 3 6 true false (by kernel_rfl) (by kernel_rfl) (by kernel_rfl) (by kernel_rfl) rfl, ?_⟩
  refine ⟨_, step_skip 3 6 true false (by kernel_rfl) (by kernel_rfl) (by kernel_rfl) (by kernel_rfl) rfl, ?_⟩
  refine ⟨_, step_skip 3 6 true false (by kernel_rfl) (by kernel_rfl) (by kernel_rfl) (by kernel_rfl) rfl, ?_⟩
  refine ⟨isVal (.bool false), step_pick (.tmp 6) (.tmp 9) (.const (.bool false)) false (by kernel_rfl) (wanted_none (by kernel_rfl)) (stable_val _) (knows_new (V := isVal (.bool false)) 6 3 (by kernel_rfl) (by kernel_rfl) (by kernel_rfl)) (knows_const _), ?_⟩
  refine ⟨isVal (.bool false), step_move (.tmp 10) (by kernel_rfl) (wanted_none (by kernel_rfl)) (stable_val _) (knows_new (V := isVal (.bool false)) 10 7 (by kernel_rfl) (by kernel_rfl) (by kernel_rfl)), ?_⟩
  refine ⟨_, step_skip 8 11 true false (by kernel_rfl) (by kernel_rfl) (by kernel_rfl) (by kernel_rfl) rfl, ?_⟩
  refine ⟨_, step_skip 8 11 true false (by kernel_rfl) (by kernel_rfl) (by kernel_rfl) (by kernel_rfl) rfl, ?_⟩
  refine ⟨_, step_skip 8 11 true false (by kernel_rfl) (by kernel_rfl) (by kernel_rfl) (by kernel_rfl) rfl, ?_⟩
  refine ⟨_, step_skip 8 11 true false (by kernel_rfl) (by kernel_rfl) (by kernel_rfl) (by kernel_rfl) rfl, ?_⟩
  refine ⟨_, step_skip 8 11 true false (by kernel_rfl) (by kernel_rfl) (by kernel_rfl) (by kernel_rfl) rfl, ?_⟩
  refine ⟨_, step_skip 8 11 true false (by kernel_rfl) (by kernel_rfl) (by kernel_rfl) (by kernel_rfl) rfl, ?_⟩
  refine ⟨isVal (.bool false), step_pick (.tmp 11) (.tmp 17) (.const (.bool false)) false (by kernel_rfl) (wanted_none (by kernel_rfl)) (stable_val _) (knows_new (V := isVal (.bool false)) 11 8 (by kernel_rfl) (by kernel_rfl) (by kernel_rfl)) (knows_const _), ?_⟩
  refine ⟨isVal (.bool false), step_move (.tmp 18) (by kernel_rfl) (wanted_none (by kernel_rfl)) (stable_val _) (knows_new (V := isVal (.bool false)) 18 15 (by kernel_rfl) (by kernel_rfl) (by kernel_rfl)), ?_⟩
  refine ⟨_, step_skip 16 19 true false (by kernel_rfl) (by kernel_rfl) (by kernel_rfl) (by kernel_rfl) rfl, ?_⟩
  refine ⟨_, step_skip 16 19 true false (by kernel_rfl) (by kernel_rfl) (by kernel_rfl) (by kernel_rfl) rfl, ?_⟩
  refine ⟨_, step_skip 16 19 true false (by kernel_rfl) (by kernel_rfl) (by kernel_rfl) (by kernel_rfl) rfl, ?_⟩
  refine ⟨isVal (.bool false), step_pick (.tmp 19) (.tmp 22) (.const (.bool false)) false (by kernel_rfl) (wanted_none (by kernel_rfl)) (stable_val _) (knows_new (V := isVal (.bool false)) 19 16 (by kernel_rfl) (by kernel_rfl) (by kernel_rfl)) (knows_const _), ?_⟩
  refine ⟨isVal (.bool false), step_move (.tmp 23) (by kernel_rfl) (wanted_none (by kernel_rfl)) (stable_val _) (knows_new (V := isVal (.bool false)) 23 20 (by kernel_rfl) (by kernel_rfl) (by kernel_rfl)), ?_⟩
  refine ⟨_, step_skip 21 24 true false (by kernel_rfl) (by kernel_rfl) (by kernel_rfl) (by kernel_rfl) rfl, ?_⟩
  refine ⟨_, step_skip 21 24 true false (by kernel_rfl) (by kernel_rfl) (by kernel_rfl) (by kernel_rfl) rfl, ?_⟩
  refine ⟨_, step_skip 21 24 true false (by kernel_rfl) (by kernel_rfl) (by kernel_rfl) (by kernel_rfl) rfl, ?_⟩
  refine ⟨_, step_skip 21 24 true false (by kernel_rfl) (by kernel_rfl) (by kernel_rfl) (by kernel_rfl) rfl, ?_⟩
  refine ⟨_, step_skip 21 24 true false (by kernel_rfl) (by kernel_rfl) (by kernel_rfl) (by kernel_rfl) rfl, ?_⟩
  refine ⟨_, step_skip 21 24 true false (by kernel_rfl) (by kernel_rfl) (by kernel_rfl) (by kernel_rfl) rfl, ?_⟩
  refine ⟨isVal (.bool false), step_pick (.tmp 24) (.tmp 30) (.const (.bool false)) false (by kernel_rfl) (wanted_none (by kernel_rfl)) (stable_val _) (knows_new (V := isVal (.bool false)) 24 21 (by kernel_rfl) (by kernel_rfl) (by kernel_rfl)) (knows_const _), ?_⟩
  refine ⟨isVal (.bool false), step_assign (.tmp 31) (by kernel_rfl) (wanted_none (by kernel_rfl)) (stable_val _) (knows_new (V := isVal (.bool false)) 31 28 (by kernel_rfl) (by kernel_rfl) (by kernel_rfl)), ?_⟩
  intro a w hkp hb hd
  rw [kept_of hkp [some 3, some 4, some 5, some 6, some 7, some 8, some 9, some 10, some 11, some 12, some 13, some 14, some 15, some 16, some 17, some 18, some 19, some 20, some 21, some 22, some 23, some 24, some 25, some 26, some 27, some 28, some 29, some 30, some 31, some 2] [3, 4, 5, 6, 7, 8, 9, 10, 11, 12, 13, 14, 15, 16, 17, 18, 19, 20, 21, 22, 23, 24, 25, 26, 27, 28, 29, 30, 31, 2] (by kernel_rfl) (by decide)]
  have d2 := fdone_of (hd 29 (by rw [show rck0Ops.size = 30 by kernel_rfl]; decide)) (t := 2) (V := isVal (.bool false)) (by kernel_rfl) (by kernel_rfl)
  exact hQ (fun s => a.tmps.getD s undef) w d2 hb
noncomputable def rck1Ops : Array Oper := regionOf Tryz.f100 1
set_option maxRecDepth 100000 in
set_option maxHeartbeats 2000000 in
theorem rck1_region (Q : Exit → Act → World → Prop) (a0 : Act) (w0 : World) (hsz : a0.tmps.size = 32) (g n sc : Nat) (c : Int) (sa : Option Addr) (vi : Value) (L : List En) (idx : List Int) (z : Bool) (e1 : a0.tmps.getD 1 undef = .pointer (some ⟨g, 0, none⟩)) (HG : CellsN w0 g [.int .i64 c, .slice sa n sc, vi]) (hs : isEns L (.slice sa n sc) w0) (hi : isCells (idx.map intC) vi w0) (hL : L.length ≤ 1000) (hI : idx.length ≤ 100000) (fL : ∀ e ∈ L, FitE e) (h1 : decide (1 ≤ c) = true) (h2 : decide (c ≤ 8) = false)
    (hQ : ∀ (g : Nat → Value) (w : World), g 2 = .bool false → Below w0.heap.size w0 w → Q .normal { tmps := [3, 4, 5, 6, 7, 8, 9, 10, 11, 12, 13, 14, 15, 16, 17, 18, 19, 20, 21, 22, 23, 24, 25, 26, 27, 28, 29, 30, 31, 2].foldl (fun t s => t.setIfInBounds s (g s)) a0.tmps, defers := a0.defers } w) :
    (Code.region 1 rck1Ops true).wp Tryz.prog Q a0 w0 := by
  refine wp_region_flow mixed (by rw [hsz]; kernel_rfl) ?_
  rw [show rck1Ops.size = 30 by kernel_rfl]
  refine ⟨isVal (.pointer (some ⟨g, 0, none⟩)), step_field 25 (.tmp 1) 0 ⟨g, 0, none⟩ ⟨g, 0, none⟩ (by kernel_rfl) (wanted_none (by kernel_rfl)) (knows_old 1 (.pointer (some ⟨g, 0, none⟩)) (by kernel_rfl) e1) (f_ar_0_0 (g)), ?_⟩
  refine ⟨isVal (.int .i64 c), step_read 3 (.tmp 3) ⟨g, 0, none⟩ (.int .i64 c) (by kernel_rfl) (wanted_none (by kernel_rfl)) (knows_new (V := isVal (.pointer (some ⟨g, 0, none⟩))) 3 0 (by kernel_rfl) (by kernel_rfl) (by kernel_rfl)) (HG.2 0 _ rfl) (HG.1) (agg_noZ), ?_⟩
  refine ⟨isVal (.bool true), step_bin .geq 3 3 (.tmp 4) (.const (.int .i64 1)) (.int .i64 c) (.int .i64 1) (.bool true) (by kernel_rfl) (wanted_none (by kernel_rfl)) (knows_new (V := isVal (.int .i64 c)) 4 1 (by kernel_rfl) (by kernel_rfl) (by kernel_rfl)) (knows_const _) (fun _ => rfl) (geq_int _ _ _ _ _ h1), ?_⟩
  refine ⟨isVal (.bool true), step_move (.tmp 5) (by kernel_rfl) (wanted_none (by kernel_rfl)) (stable_val _) (knows_new (V := isVal (.bool true)) 5 2 (by kernel_rfl) (by kernel_rfl) (by kernel_rfl)), ?_⟩
  refine ⟨isVal (.pointer (some ⟨g, 0, none⟩)), step_field 25 (.tmp 1) 0 ⟨g, 0, none⟩ ⟨g, 0, none⟩ (by kernel_rfl) (wanted_some 3 6 true (by kernel_rfl) (by kernel_rfl) (by kernel_rfl) (by kernel_rfl)) (knows_old 1 (.pointer (some ⟨g, 0, none⟩)) (by kernel_rfl) e1) (f_ar_0_0 (g)), ?_⟩
  refine ⟨isVal (.int .i64 c), step_read 3 (.tmp 7) ⟨g, 0, none⟩ (.int .i64 c) (by kernel_rfl) (wanted_some 3 6 true (by kernel_rfl) (by kernel_rfl) (by kernel_rfl) (by kernel_rfl)) (knows_new (V := isVal (.pointer (some ⟨g, 0, none⟩))) 7 4 (by kernel_rfl) (by kernel_rfl) (by kernel_rfl)) (HG.2 0 _ rfl) (HG.1) (agg_noZ), ?_⟩
  refine ⟨isVal (.bool false), step_bin .leq 3 3 (.tmp 8) (.const (.int .i64 8)) (.int .i64 c) (.int .i64 8) (.bool false) (by kernel_rfl) (wanted_some 3 6 true (by kernel_rfl) (by kernel_rfl) (by kernel_rfl) (by kernel_rfl)) (knows_new (V := isVal (.int .i64 c)) 8 5 (by kernel_rfl) (by kernel_rfl) (by kernel_rfl)) (knows_const _) (fun _ => rfl) (leq_int _ _ _ _ _ h2), ?_⟩
  refine ⟨isVal (.bool false), step_pick (.tmp 6) (.tmp 9) (.const (.bool false)) true (by kernel_rfl) (wanted_none (by kernel_rfl)) (stable_val _) (knows_new (V := isVal (.bool true)) 6 3 (by kernel_rfl) (by kernel_rfl) (by kernel_rfl)) (knows_new (V := isVal (.bool false)) 9 6 (by kernel_rfl) (by kernel_rfl) (by kernel_rfl)), ?_⟩
  refine ⟨isVal (.bool false), step_move (.tmp 10) (by kernel_rfl) (wanted_none (by kernel_rfl)) (stable_val _) (knows_new (V := isVal (.bool false)) 10 7 (by kernel_rfl) (by kernel_rfl) (by kernel_rfl)), ?_⟩
  refine ⟨_, step_skip 8 11 true false (by kernel_rfl) (by kernel_rfl) (by kernel_rfl) (by kernel_rfl) rfl, ?_⟩
  refine ⟨_, step_skip 8 11 true false (by kernel_rfl) (by kernel_rfl) (by kernel_rfl) (by kernel_rfl) rfl, ?_⟩
  refine ⟨_, step_skip 8 11 true false (by kernel_rfl) (by kernel_rfl) (by kernel_rfl) (by kernel_rfl) rfl, ?_⟩
  refine ⟨_, step_skip 8 11 true false (by kernel_rfl) (by kernel_rfl) (by kernel_rfl) (by kernel_rfl) rfl, ?_⟩
  refine ⟨_, step_skip 8 11 true false (by kernel_rfl) (by kernel_rfl) (by kernel_rfl) (by kernel_rfl) rfl, ?_⟩
  refine ⟨_, step_skip 8 11 true false (by kernel_rfl) (by kernel_rfl) (by kernel_rfl) (by kernel_rfl) rfl, ?_⟩
  refine ⟨isVal (.bool false), step_pick (.tmp 11) (.tmp 17) (.const (.bool false)) false (by kernel_rfl) (wanted_none (by kernel_rfl)) (stable_val _) (knows_new (V := isVal (.bool false)) 11 8 (by kernel_rfl) (by kernel_rfl) (by kernel_rfl)) (knows_const _), ?_⟩
  refine ⟨isVal (.bool false), step_move (.tmp 18) (by kernel_rfl) (wanted_none (by kernel_rfl)) (stable_val _) (knows_new (V := isVal (.bool false)) 18 15 (by kernel_rfl) (by kernel_rfl) (by kernel_rfl)), ?_⟩
  refine ⟨_, step_skip 16 19 true false (by kernel_rfl) (by kernel_rfl) (by kernel_rfl) (by kernel_rfl) rfl, ?_⟩
  refine ⟨_, step_skip 16 19 true false (by kernel_rfl) (by kernel_rfl) (by kernel_rfl) (by kernel_rfl) rfl, ?_⟩
  refine ⟨_, step_skip 16 19 true false (by kernel_rfl) (by kernel_rfl) (by kernel_rfl) (by kernel_rfl) rfl, ?_⟩
  refine ⟨isVal (.bool false), step_pick (.tmp 19) (.tmp 22) (.const (.bool false)) false (by kernel_rfl) (wanted_none (by kernel_rfl)) (stable_val _) (knows_new (V := isVal (.bool false)) 19 16 (by kernel_rfl) (by kernel_rfl) (by kernel_rfl)) (knows_const _), ?_⟩
  refine ⟨isVal (.bool false), step_move (.tmp 23) (by kernel_rfl) (wanted_none (by kernel_rfl)) (stable_val _) (knows_new (V := isVal (.bool false)) 23 20 (by kernel_rfl) (by kernel_rfl) (by kernel_rfl)), ?_⟩
  refine ⟨_, step_skip 21 24 true false (by kernel_rfl) (by kernel_rfl) (by kernel_rfl) (by kernel_rfl) rfl, ?_⟩
  refine ⟨_, step_skip 21 24 true false (by kernel_rfl) (by kernel_rfl) (by kernel_rfl) (by kernel_rfl) rfl, ?_⟩
  refine ⟨_, step_skip 21 24 true false (by kernel_rfl) (by kernel_rfl) (by kernel_rfl) (by kernel_rfl) rfl, ?_⟩
  refine ⟨_, step_skip 21 24 true false (by kernel_rfl) (by kernel_rfl) (by kernel_rfl) (by kernel_rfl) rfl, ?_⟩
  refine ⟨_, step_skip 21 24 true false (by kernel_rfl) (by kernel_rfl) (by kernel_rfl) (by kernel_rfl) rfl, ?_⟩
  refine ⟨_, step_skip 21 24 true false (by kernel_rfl) (by kernel_rfl) (by kernel_rfl) (by kernel_rfl) rfl, ?_⟩
  refine ⟨isVal (.bool false), step_pick (.tmp 24) (.tmp 30) (.const (.bool false)) false (by kernel_rfl) (wanted_none (by kernel_rfl)) (stable_val _) (knows_new (V := isVal (.bool false)) 24 21 (by kernel_rfl) (by kernel_rfl) (by kernel_rfl)) (knows_const _), ?_⟩
  refine ⟨isVal (.bool false), step_assign (.tmp 31) (by kernel_rfl) (wanted_none (by kernel_rfl)) (stable_val _) (knows_new (V := isVal (.bool false)) 31 28 (by kernel_rfl) (by kernel_rfl) (by kernel_rfl)), ?_⟩
  intro a w hkp hb hd
  rw [kept_of hkp [some 3, some 4, some 5, some 6, some 7, some 8, some 9, some 10, some 11, some 12, some 13, some 14, some 15, some 16, some 17, some 18, some 19, some 20, some 21, some 22, some 23, some 24, some 25, some 26, some 27, some 28, some 29, some 30, some 31, some 2] [3, 4, 5, 6, 7, 8, 9, 10, 11, 12, 13, 14, 15, 16, 17, 18, 19, 20, 21, 22, 23, 24, 25, 26, 27, 28, 29, 30, 31, 2] (by kernel_rfl) (by decide)]
  have d2 := fdone_of (hd 29 (by rw [show rck1Ops.size = 30 by kernel_rfl]; decide)) (t := 2) (V := isVal (.bool false)) (by kernel_rfl) (by kernel_rfl)
  exact hQ (fun s => a.tmps.getD s undef) w d2 hb
noncomputable def rck2Ops : Array Oper := regionOf Tryz.f100 1
set_option maxRecDepth 100000 in
set_option maxHeartbeats 2000000 in
theorem rck2_region (Q : Exit → Act → World → Prop) (a0 : Act) (w0 : World) (hsz : a0.tmps.size = 32) (g n sc : Nat) (c : Int) (sa : Option Addr) (vi : Value) (L : List En) (idx : List Int) (z : Bool) (e1 : a0.tmps.getD 1 undef = .pointer (some ⟨g, 0, none⟩)) (HG : CellsN w0 g [.int .i64 c, .slice sa n sc, vi]) (hs : isEns L (.slice sa n sc) w0) (hi : isCells (idx.map intC) vi w0) (hL : L.length ≤ 1000) (hI : idx.length ≤ 100000) (fL : ∀ e ∈ L, FitE e) (h1 : decide (1 ≤ c) = true) (h2 : decide (c ≤ 8) = true) (h3 : decide ((n : Int) ≤ c) = false)
    (hQ : ∀ (g : Nat → Value) (w : World), g 2 = .bool false → Below w0.heap.size w0 w → Q .normal { tmps := [3, 4, 5, 6, 7, 8, 9, 10, 11, 12, 13, 14, 15, 16, 17, 18, 19, 20, 21, 22, 23, 24, 25, 26, 27, 28, 29, 30, 31, 2].foldl (fun t s => t.setIfInBounds s (g s)) a0.tmps, defers := a0.defers } w) :
    (Code.region 1 rck2Ops true).wp Tryz.prog Q a0 w0 := by
  refine wp_region_flow mixed (by rw [hsz]; kernel_rfl) ?_
  rw [show rck2Ops.size = 30 by kernel_rfl]
  refine ⟨isVal (.pointer (some ⟨g, 0, none⟩)), step_field 25 (.tmp 1) 0 ⟨g, 0, none⟩ ⟨g, 0, none⟩ (by kernel_rfl) (wanted_none (by kernel_rfl)) (knows_old 1 (.pointer (some ⟨g, 0, none⟩)) (by kernel_rfl) e1) (f_ar_0_0 (g)), ?_⟩
  refine ⟨isVal (.int .i64 c), step_read 3 (.tmp 3) ⟨g, 0, none⟩ (.int .i64 c) (by kernel_rfl) (wanted_none (by kernel_rfl)) (knows_new (V := isVal (.pointer (some ⟨g, 0, none⟩))) 3 0 (by kernel_rfl) (by kernel_rfl) (by kernel_rfl)) (HG.2 0 _ rfl) (HG.1) (agg_noZ), ?_⟩
  refine ⟨isVal (.bool true), step_bin .geq 3 3 (.tmp 4) (.const (.int .i64 1)) (.int .i64 c) (.int .i64 1) (.bool true) (by kernel_rfl) (wanted_none (by kernel_rfl)) (knows_new (V := isVal (.int .i64 c)) 4 1 (by kernel_rfl) (by kernel_rfl) (by kernel_rfl)) (knows_const _) (fun _ => rfl) (geq_int _ _ _ _ _ h1), ?_⟩
  refine ⟨isVal (.bool true), step_move (.tmp 5) (by kernel_rfl) (wanted_none (by kernel_rfl)) (stable_val _) (knows_new (V := isVal (.bool true)) 5 2 (by kernel_rfl) (by kernel_rfl) (by kernel_rfl)), ?_⟩
  refine ⟨isVal (.pointer (some ⟨g, 0, none⟩)), step_field 25 (.tmp 1) 0 ⟨g, 0, none⟩ ⟨g, 0, none⟩ (by kernel_rfl) (wanted_some 3 6 true (by kernel_rfl) (by kernel_rfl) (by kernel_rfl) (by kernel_rfl)) (knows_old 1 (.pointer (some ⟨g, 0, none⟩)) (by kernel_rfl) e1) (f_ar_0_0 (g)), ?_⟩
  refine ⟨isVal (.int .i64 c), step_read 3 (.tmp 7) ⟨g, 0, none⟩ (.int .i64 c) (by kernel_rfl) (wanted_some 3 6 true (by kernel_rfl) (by kernel_rfl) (by kernel_rfl) (by kernel_rfl)) (knows_new (V := isVal (.pointer (some ⟨g, 0, none⟩))) 7 4 (by kernel_rfl) (by kernel_rfl) (by kernel_rfl)) (HG.2 0 _ rfl) (HG.1) (agg_noZ), ?_⟩
  refine ⟨isVal (.bool true), step_bin .leq 3 3 (.tmp 8) (.const (.int .i64 8)) (.int .i64 c) (.int .i64 8) (.bool true) (by kernel_rfl) (wanted_some 3 6 true (by kernel_rfl) (by kernel_rfl) (by kernel_rfl) (by kernel_rfl)) (knows_new (V := isVal (.int .i64 c)) 8 5 (by kernel_rfl) (by kernel_rfl) (by kernel_rfl)) (knows_const _) (fun _ => rfl) (leq_int _ _ _ _ _ h2), ?_⟩
  refine ⟨isVal (.bool true), step_pick (.tmp 6) (.tmp 9) (.const (.bool false)) true (by kernel_rfl) (wanted_none (by kernel_rfl)) (stable_val _) (knows_new (V := isVal (.bool true)) 6 3 (by kernel_rfl) (by kernel_rfl) (by kernel_rfl)) (knows_new (V := isVal (.bool true)) 9 6 (by kernel_rfl) (by kernel_rfl) (by kernel_rfl)), ?_⟩
  refine ⟨isVal (.bool true), step_move (.tmp 10) (by kernel_rfl) (wanted_none (by kernel_rfl)) (stable_val _) (knows_new (V := isVal (.bool true)) 10 7 (by kernel_rfl) (by kernel_rfl) (by kernel_rfl)), ?_⟩
  refine ⟨isVal (.pointer (some ⟨g, 1, none⟩)), step_field 25 (.tmp 1) 1 ⟨g, 0, none⟩ ⟨g, 1, none⟩ (by kernel_rfl) (wanted_some 8 11 true (by kernel_rfl) (by kernel_rfl) (by kernel_rfl) (by kernel_rfl)) (knows_old 1 (.pointer (some ⟨g, 0, none⟩)) (by kernel_rfl) e1) (f_ar_0_1 (g)), ?_⟩
  refine ⟨isVal (.slice sa n sc), step_read 22 (.tmp 12) ⟨g, 1, none⟩ (.slice sa n sc) (by kernel_rfl) (wanted_some 8 11 true (by kernel_rfl) (by kernel_rfl) (by kernel_rfl) (by kernel_rfl)) (knows_new (V := isVal (.pointer (some ⟨g, 1, none⟩))) 12 9 (by kernel_rfl) (by kernel_rfl) (by kernel_rfl)) (HG.2 1 _ rfl) (HG.1) (agg_noS), ?_⟩
  refine ⟨isVal (.int .i64 (n : Int)), step_len 22 (.tmp 13) (.slice sa n sc) (.int .i64 (n : Int)) (by kernel_rfl) (wanted_some 8 11 true (by kernel_rfl) (by kernel_rfl) (by kernel_rfl) (by kernel_rfl)) (knows_new (V := isVal (.slice sa n sc)) 13 10 (by kernel_rfl) (by kernel_rfl) (by kernel_rfl)) ((fun ty w => by simp [Builtin.len_, run_underlying Tryz.underlying22]; rfl)), ?_⟩
  refine ⟨isVal (.pointer (some ⟨g, 0, none⟩)), step_field 25 (.tmp 1) 0 ⟨g, 0, none⟩ ⟨g, 0, none⟩ (by kernel_rfl) (wanted_some 8 11 true (by kernel_rfl) (by kernel_rfl) (by kernel_rfl) (by kernel_rfl)) (knows_old 1 (.pointer (some ⟨g, 0, none⟩)) (by kernel_rfl) e1) (f_ar_0_0 (g)), ?_⟩
  refine ⟨isVal (.int .i64 c), step_read 3 (.tmp 15) ⟨g, 0, none⟩ (.int .i64 c) (by kernel_rfl) (wanted_some 8 11 true (by kernel_rfl) (by kernel_rfl) (by kernel_rfl) (by kernel_rfl)) (knows_new (V := isVal (.pointer (some ⟨g, 0, none⟩))) 15 12 (by kernel_rfl) (by kernel_rfl) (by kernel_rfl)) (HG.2 0 _ rfl) (HG.1) (agg_noZ), ?_⟩
  refine ⟨isVal (.bool false), step_bin .leq 3 3 (.tmp 14) (.tmp 16) (.int .i64 (n : Int)) (.int .i64 c) (.bool false) (by kernel_rfl) (wanted_some 8 11 true (by kernel_rfl) (by kernel_rfl) (by kernel_rfl) (by kernel_rfl)) (knows_new (V := isVal (.int .i64 (n : Int))) 14 11 (by kernel_rfl) (by kernel_rfl) (by kernel_rfl)) (knows_new (V := isVal (.int .i64 c)) 16 13 (by kernel_rfl) (by kernel_rfl) (by kernel_rfl)) (fun _ => rfl) (leq_int _ _ _ _ _ h3), ?_⟩
  refine ⟨isVal (.bool false), step_pick (.tmp 11) (.tmp 17) (.const (.bool false)) true (by kernel_rfl) (wanted_none (by kernel_rfl)) (stable_val _) (knows_new (V := isVal (.bool true)) 11 8 (by kernel_rfl) (by kernel_rfl) (by kernel_rfl)) (knows_new (V := isVal (.bool false)) 17 14 (by kernel_rfl) (by kernel_rfl) (by kernel_rfl)), ?_⟩
  refine ⟨isVal (.bool false), step_move (.tmp 18) (by kernel_rfl) (wanted_none (by kernel_rfl)) (stable_val _) (knows_new (V := isVal (.bool false)) 18 15 (by kernel_rfl) (by kernel_rfl) (by kernel_rfl)), ?_⟩
  refine ⟨_, step_skip 16 19 true false (by kernel_rfl) (by kernel_rfl) (by kernel_rfl) (by kernel_rfl) rfl, ?_⟩
  refine ⟨_, step_skip 16 19 true false (by kernel_rfl) (by kernel_rfl) (by kernel_rfl) (by kernel_rfl) rfl, ?_⟩
  refine ⟨_, step_skip 16 19 true false (by kernel_rfl) (by kernel_rfl) (by kernel_rfl) (by kernel_rfl) rfl, ?_⟩
  refine ⟨isVal (.bool false), step_pick (.tmp 19) (.tmp 22) (.const (.bool false)) false (by kernel_rfl) (wanted_none (by kernel_rfl)) (stable_val _) (knows_new (V := isVal (.bool false)) 19 16 (by kernel_rfl) (by kernel_rfl) (by kernel_rfl)) (knows_const _), ?_⟩
  refine ⟨isVal (.bool false), step_move (.tmp 23) (by kernel_rfl) (wanted_none (by kernel_rfl)) (stable_val _) (knows_new (V := isVal (.bool false)) 23 20 (by kernel_rfl) (by kernel_rfl) (by kernel_rfl)), ?_⟩
  refine ⟨_, step_skip 21 24 true false (by kernel_rfl) (by kernel_rfl) (by kernel_rfl) (by kernel_rfl) rfl, ?_⟩
  refine ⟨_, step_skip 21 24 true false (by kernel_rfl) (by kernel_rfl) (by kernel_rfl) (by kernel_rfl) rfl, ?_⟩
  refine ⟨_, step_skip 21 24 true false (by kernel_rfl) (by kernel_rfl) (by kernel_rfl) (by kernel_rfl) rfl, ?_⟩
  refine ⟨_, step_skip 21 24 true false (by kernel_rfl) (by kernel_rfl) (by kernel_rfl) (by kernel_rfl) rfl, ?_⟩
  refine ⟨_, step_skip 21 24 true false (by kernel_rfl) (by kernel_rfl) (by kernel_rfl) (by kernel_rfl) rfl, ?_⟩
  refine ⟨_, step_skip 21 24 true false (by kernel_rfl) (by kernel_rfl) (by kernel_rfl) (by kernel_rfl) rfl, ?_⟩
  refine ⟨isVal (.bool false), step_pick (.tmp 24) (.tmp 30) (.const (.bool false)) false (by kernel_rfl) (wanted_none (by kernel_rfl)) (stable_val _) (knows_new (V := isVal (.bool false)) 24 21 (by kernel_rfl) (by kernel_rfl) (by kernel_rfl)) (knows_const _), ?_⟩
  refine ⟨isVal (.bool false), step_assign (.tmp 31) (by kernel_rfl) (wanted_none (by kernel_rfl)) (stable_val _) (knows_new (V := isVal (.bool false)) 31 28 (by kernel_rfl) (by kernel_rfl) (by kernel_rfl)), ?_⟩
  intro a w hkp hb hd
  rw [kept_of hkp [some 3, some 4, some 5, some 6, some 7, some 8, some 9, some 10, some 11, some 12, some 13, some 14, some 15, some 16, some 17, some 18, some 19, some 20, some 21, some 22, some 23, some 24, some 25, some 26, some 27, some 28, some 29, some 30, some 31, some 2] [3, 4, 5, 6, 7, 8, 9, 10, 11, 12, 13, 14, 15, 16, 17, 18, 19, 20, 21, 22, 23, 24, 25, 26, 27, 28, 29, 30, 31, 2] (by kernel_rfl) (by decide)]
  have d2 := fdone_of (hd 29 (by rw [show rck2Ops.size = 30 by kernel_rfl]; decide)) (t := 2) (V := isVal (.bool false)) (by kernel_rfl) (by kernel_rfl)
  exact hQ (fun s => a.tmps.getD s undef) w d2 hb
noncomputable def rck3Ops : Array Oper := regionOf Tryz.f100 1
set_option maxRecDepth 100000 in
set_option maxHeartbeats 2000000 in
theorem rck3_region (Q : Exit → Act → World → Prop) (a0 : Act) (w0 : World) (hsz : a0.tmps.size = 32) (g n sc : Nat) (c : Int) (sa : Option Addr) (vi : Value) (L : List En) (idx : List Int) (z : Bool) (e1 : a0.tmps.getD 1 undef = .pointer (some ⟨g, 0, none⟩)) (HG : CellsN w0 g [.int .i64 c, .slice sa n sc, vi]) (hs : isEns L (.slice sa n sc) w0) (hi : isCells (idx.map intC) vi w0) (hL : L.length ≤ 1000) (hI : idx.length ≤ 100000) (fL : ∀ e ∈ L, FitE e) (h1 : decide (1 ≤ c) = true) (h2 : decide (c ≤ 8) = true) (h3 : decide ((n : Int) ≤ c) = true) (h4 : slotsB L = false)
    (hQ : ∀ (g : Nat → Value) (w : World), g 2 = .bool false → Below w0.heap.size w0 w → Q .normal { tmps := [3, 4, 5, 6, 7, 8, 9, 10, 11, 12, 13, 14, 15, 16, 17, 18, 19, 20, 21, 22, 23, 24, 25, 26, 27, 28, 29, 30, 31, 2].foldl (fun t s => t.setIfInBounds s (g s)) a0.tmps, defers := a0.defers } w) :
    (Code.region 1 rck3Ops true).wp Tryz.prog Q a0 w0 := by
  refine wp_region_flow mixed (by rw [hsz]; kernel_rfl) ?_
  rw [show rck3Ops.size = 30 by kernel_rfl]
  refine ⟨isVal (.pointer (some ⟨g, 0, none⟩)), step_field 25 (.tmp 1) 0 ⟨g, 0, none⟩ ⟨g, 0, none⟩ (by kernel_rfl) (wanted_none (by kernel_rfl)) (knows_old 1 (.pointer (some ⟨g, 0, none⟩)) (by kernel_rfl) e1) (f_ar_0_0 (g)), ?_⟩
  refine ⟨isVal (.int .i64 c), step_read 3 (.tmp 3) ⟨g, 0, none⟩ (.int .i64 c) (by kernel_rfl) (wanted_none (by kernel_rfl)) (knows_new (V := isVal (.pointer (some ⟨g, 0, none⟩))) 3 0 (by kernel_rfl) (by kernel_rfl) (by kernel_rfl)) (HG.2 0 _ rfl) (HG.1) (agg_noZ), ?_⟩
  refine ⟨isVal (.bool true), step_bin .geq 3 3 (.tmp 4) (.const (.int .i64 1)) (.int .i64 c) (.int .i64 1) (.bool true) (by kernel_rfl) (wanted_none (by kernel_rfl)) (knows_new (V := isVal (.int .i64 c)) 4 1 (by kernel_rfl) (by kernel_rfl) (by kernel_rfl)) (knows_const _) (fun _ => rfl) (geq_int _ _ _ _ _ h1), ?_⟩
  refine ⟨isVal (.bool true), step_move (.tmp 5) (by kernel_rfl) (wanted_none (by kernel_rfl)) (stable_val _) (knows_new (V := isVal (.bool true)) 5 2 (by kernel_rfl) (by kernel_rfl) (by kernel_rfl)), ?_⟩
  refine ⟨isVal (.pointer (some ⟨g, 0, none⟩)), step_field 25 (.tmp 1) 0 ⟨g, 0, none⟩ ⟨g, 0, none⟩ (by kernel_rfl) (wanted_some 3 6 true (by kernel_rfl) (by kernel_rfl) (by kernel_rfl) (by kernel_rfl)) (knows_old 1 (.pointer (some ⟨g, 0, none⟩)) (by kernel_rfl) e1) (f_ar_0_0 (g)), ?_⟩
  refine ⟨isVal (.int .i64 c), step_read 3 (.tmp 7) ⟨g, 0, none⟩ (.int .i64 c) (by kernel_rfl) (wanted_some 3 6 true (by kernel_rfl) (by kernel_rfl) (by kernel_rfl) (by kernel_rfl)) (knows_new (V := isVal (.pointer (some ⟨g, 0, none⟩))) 7 4 (by kernel_rfl) (by kernel_rfl) (by kernel_rfl)) (HG.2 0 _ rfl) (HG.1) (agg_noZ), ?_⟩
  refine ⟨isVal (.bool true), step_bin .leq 3 3 (.tmp 8) (.const (.int .i64 8)) (.int .i64 c) (.int .i64 8) (.bool true) (by kernel_rfl) (wanted_some 3 6 true (by kernel_rfl) (by kernel_rfl) (by kernel_rfl) (by kernel_rfl)) (knows_new (V := isVal (.int .i64 c)) 8 5 (by kernel_rfl) (by kernel_rfl) (by kernel_rfl)) (knows_const _) (fun _ => rfl) (leq_int _ _ _ _ _ h2), ?_⟩
  refine ⟨isVal (.bool true), step_pick (.tmp 6) (.tmp 9) (.const (.bool false)) true (by kernel_rfl) (wanted_none (by kernel_rfl)) (stable_val _) (knows_new (V := isVal (.bool true)) 6 3 (by kernel_rfl) (by kernel_rfl) (by kernel_rfl)) (knows_new (V := isVal (.bool true)) 9 6 (by kernel_rfl) (by kernel_rfl) (by kernel_rfl)), ?_⟩
  refine ⟨isVal (.bool true), step_move (.tmp 10) (by kernel_rfl) (wanted_none (by kernel_rfl)) (stable_val _) (knows_new (V := isVal (.bool true)) 10 7 (by kernel_rfl) (by kernel_rfl) (by kernel_rfl)), ?_⟩
  refine ⟨isVal (.pointer (some ⟨g, 1, none⟩)), step_field 25 (.tmp 1) 1 ⟨g, 0, none⟩ ⟨g, 1, none⟩ (by kernel_rfl) (wanted_some 8 11 true (by kernel_rfl) (by kernel_rfl) (by kernel_rfl) (by kernel_rfl)) (knows_old 1 (.pointer (some ⟨g, 0, none⟩)) (by kernel_rfl) e1) (f_ar_0_1 (g)), ?_⟩
  refine ⟨isVal (.slice sa n sc), step_read 22 (.tmp 12) ⟨g, 1, none⟩ (.slice sa n sc) (by kernel_rfl) (wanted_some 8 11 true (by kernel_rfl) (by kernel_rfl) (by kernel_rfl) (by kernel_rfl)) (knows_new (V := isVal (.pointer (some ⟨g, 1, none⟩))) 12 9 (by kernel_rfl) (by kernel_rfl) (by kernel_rfl)) (HG.2 1 _ rfl) (HG.1) (agg_noS), ?_⟩
  refine ⟨isVal (.int .i64 (n : Int)), step_len 22 (.tmp 13) (.slice sa n sc) (.int .i64 (n : Int)) (by kernel_rfl) (wanted_some 8 11 true (by kernel_rfl) (by kernel_rfl) (by kernel_rfl) (by kernel_rfl)) (knows_new (V := isVal (.slice sa n sc)) 13 10 (by kernel_rfl) (by kernel_rfl) (by kernel_rfl)) ((fun ty w => by simp [Builtin.len_, run_underlying Tryz.underlying22]; rfl)), ?_⟩
  refine ⟨isVal (.pointer (some ⟨g, 0, none⟩)), step_field 25 (.tmp 1) 0 ⟨g, 0, none⟩ ⟨g, 0, none⟩ (by kernel_rfl) (wanted_some 8 11 true (by kernel_rfl) (by kernel_rfl) (by kernel_rfl) (by kernel_rfl)) (knows_old 1 (.pointer (some ⟨g, 0, none⟩)) (by kernel_rfl) e1) (f_ar_0_0 (g)), ?_⟩
  refine ⟨isVal (.int .i64 c), step_read 3 (.tmp 15) ⟨g, 0, none⟩ (.int .i64 c) (by kernel_rfl) (wanted_some 8 11 true (by kernel_rfl) (by kernel_rfl) (by kernel_rfl) (by kernel_rfl)) (knows_new (V := isVal (.pointer (some ⟨g, 0, none⟩))) 15 12 (by kernel_rfl) (by kernel_rfl) (by kernel_rfl)) (HG.2 0 _ rfl) (HG.1) (agg_noZ), ?_⟩
  refine ⟨isVal (.bool true), step_bin .leq 3 3 (.tmp 14) (.tmp 16) (.int .i64 (n : Int)) (.int .i64 c) (.bool true) (by kernel_rfl) (wanted_some 8 11 true (by kernel_rfl) (by kernel_rfl) (by kernel_rfl) (by kernel_rfl)) (knows_new (V := isVal (.int .i64 (n : Int))) 14 11 (by kernel_rfl) (by kernel_rfl) (by kernel_rfl)) (knows_new (V := isVal (.int .i64 c)) 16 13 (by kernel_rfl) (by kernel_rfl) (by kernel_rfl)) (fun _ => rfl) (leq_int _ _ _ _ _ h3), ?_⟩
  refine ⟨isVal (.bool true), step_pick (.tmp 11) (.tmp 17) (.const (.bool false)) true (by kernel_rfl) (wanted_none (by kernel_rfl)) (stable_val _) (knows_new (V := isVal (.bool true)) 11 8 (by kernel_rfl) (by kernel_rfl) (by kernel_rfl)) (knows_new (V := isVal (.bool true)) 17 14 (by kernel_rfl) (by kernel_rfl) (by kernel_rfl)), ?_⟩
  refine ⟨isVal (.bool true), step_move (.tmp 18) (by kernel_rfl) (wanted_none (by kernel_rfl)) (stable_val _) (knows_new (V := isVal (.bool true)) 18 15 (by kernel_rfl) (by kernel_rfl) (by kernel_rfl)), ?_⟩
  refine ⟨isVal (.pointer (some ⟨g, 1, none⟩)), step_field 25 (.tmp 1) 1 ⟨g, 0, none⟩ ⟨g, 1, none⟩ (by kernel_rfl) (wanted_some 16 19 true (by kernel_rfl) (by kernel_rfl) (by kernel_rfl) (by kernel_rfl)) (knows_old 1 (.pointer (some ⟨g, 0, none⟩)) (by kernel_rfl) e1) (f_ar_0_1 (g)), ?_⟩
  refine ⟨isVal (.slice sa n sc), step_read 22 (.tmp 20) ⟨g, 1, none⟩ (.slice sa n sc) (by kernel_rfl) (wanted_some 16 19 true (by kernel_rfl) (by kernel_rfl) (by kernel_rfl) (by kernel_rfl)) (knows_new (V := isVal (.pointer (some ⟨g, 1, none⟩))) 20 17 (by kernel_rfl) (by kernel_rfl) (by kernel_rfl)) (HG.2 1 _ rfl) (HG.1) (agg_noS), ?_⟩
  refine ⟨isVal (.bool false), step_call 128 #[.tmp 21] #[22] #[.slice sa n sc] (by kernel_rfl) (wanted_some 16 19 true (by kernel_rfl) (by kernel_rfl) (by kernel_rfl) (by kernel_rfl)) (stable_val _) (args1 (.tmp 21) (.slice sa n sc) (knows_new (V := isVal (.slice sa n sc)) 21 18 (by kernel_rfl) (by kernel_rfl) (by kernel_rfl))) (enters_of Tryz.func128 (by kernel_rfl) rfl) (by intro w' hb; exact call_vb (rslots_at L false _ w' (stable_ens _ _ _ _ hs hb) hL fL h4)), ?_⟩
  refine ⟨isVal (.bool false), step_pick (.tmp 19) (.tmp 22) (.const (.bool false)) true (by kernel_rfl) (wanted_none (by kernel_rfl)) (stable_val _) (knows_new (V := isVal (.bool true)) 19 16 (by kernel_rfl) (by kernel_rfl) (by kernel_rfl)) (knows_new (V := isVal (.bool false)) 22 19 (by kernel_rfl) (by kernel_rfl) (by kernel_rfl)), ?_⟩
  refine ⟨isVal (.bool false), step_move (.tmp 23) (by kernel_rfl) (wanted_none (by kernel_rfl)) (stable_val _) (knows_new (V := isVal (.bool false)) 23 20 (by kernel_rfl) (by kernel_rfl) (by kernel_rfl)), ?_⟩
  refine ⟨_, step_skip 21 24 true false (by kernel_rfl) (by kernel_rfl) (by kernel_rfl) (by kernel_rfl) rfl, ?_⟩
  refine ⟨_, step_skip 21 24 true false (by kernel_rfl) (by kernel_rfl) (by kernel_rfl) (by kernel_rfl) rfl, ?_⟩
  refine ⟨_, step_skip 21 24 true false (by kernel_rfl) (by kernel_rfl) (by kernel_rfl) (by kernel_rfl) rfl, ?_⟩
  refine ⟨_, step_skip 21 24 true false (by kernel_rfl) (by kernel_rfl) (by kernel_rfl) (by kernel_rfl) rfl, ?_⟩
  refine ⟨_, step_skip 21 24 true false (by kernel_rfl) (by kernel_rfl) (by kernel_rfl) (by kernel_rfl) rfl, ?_⟩
  refine ⟨_, step_skip 21 24 true false (by kernel_rfl) (by kernel_rfl) (by kernel_rfl) (by kernel_rfl) rfl, ?_⟩
  refine ⟨isVal (.bool false), step_pick (.tmp 24) (.tmp 30) (.const (.bool false)) false (by kernel_rfl) (wanted_none (by kernel_rfl)) (stable_val _) (knows_new (V := isVal (.bool false)) 24 21 (by kernel_rfl) (by kernel_rfl) (by kernel_rfl)) (knows_const _), ?_⟩
  refine ⟨isVal (.bool false), step_assign (.tmp 31) (by kernel_rfl) (wanted_none (by kernel_rfl)) (stable_val _) (knows_new (V := isVal (.bool false)) 31 28 (by kernel_rfl) (by kernel_rfl) (by kernel_rfl)), ?_⟩
  intro a w hkp hb hd
  rw [kept_of hkp [some 3, some 4, some 5, some 6, some 7, some 8, some 9, some 10, some 11, some 12, some 13, some 14, some 15, some 16, some 17, some 18, some 19, some 20, some 21, some 22, some 23, some 24, some 25, some 26, some 27, some 28, some 29, some 30, some 31, some 2] [3, 4, 5, 6, 7, 8, 9, 10, 11, 12, 13, 14, 15, 16, 17, 18, 19, 20, 21, 22, 23, 24, 25, 26, 27, 28, 29, 30, 31, 2] (by kernel_rfl) (by decide)]
  have d2 := fdone_of (hd 29 (by rw [show rck3Ops.size = 30 by kernel_rfl]; decide)) (t := 2) (V := isVal (.bool false)) (by kernel_rfl) (by kernel_rfl)
  exact hQ (fun s => a.tmps.getD s undef) w d2 hb
noncomputable def rck4Ops : Array Oper := regionOf Tryz.f100 1
set_option maxRecDepth 100000 in
set_option maxHeartbeats 2000000 in
theorem rck4_region (Q : Exit → Act → World → Prop) (a0 : Act) (w0 : World) (hsz : a0.tmps.size = 32) (g n sc : Nat) (c : Int) (sa : Option Addr) (vi : Value) (L : List En) (idx : List Int) (z : Bool) (e1 : a0.tmps.getD 1 undef = .pointer (some ⟨g, 0, none⟩)) (HG : CellsN w0 g [.int .i64 c, .slice sa n sc, vi]) (hs : isEns L (.slice sa n sc) w0) (hi : isCells (idx.map intC) vi w0) (hL : L.length ≤ 1000) (hI : idx.length ≤ 100000) (fL : ∀ e ∈ L, FitE e) (h1 : decide (1 ≤ c) = true) (h2 : decide (c ≤ 8) = true) (h3 : decide ((n : Int) ≤ c) = true) (h4 : slotsB L = true) (hz : decide (idx = idxM L) = z)
    (hQ : ∀ (g : Nat → Value) (w : World), g 2 = .bool z → Below w0.heap.size w0 w → Q .normal { tmps := [3, 4, 5, 6, 7, 8, 9, 10, 11, 12, 13, 14, 15, 16, 17, 18, 19, 20, 21, 22, 23, 24, 25, 26, 27, 28, 29, 30, 31, 2].foldl (fun t s => t.setIfInBounds s (g s)) a0.tmps, defers := a0.defers } w) :
    (Code.region 1 rck4Ops true).wp Tryz.prog Q a0 w0 := by
  refine wp_region_flow mixed (by rw [hsz]; kernel_rfl) ?_
  rw [show rck4Ops.size = 30 by kernel_rfl]
  refine ⟨isVal (.pointer (some ⟨g, 0, none⟩)), step_field 25 (.tmp 1) 0 ⟨g, 0, none⟩ ⟨g, 0, none⟩ (by kernel_rfl) (wanted_none (by kernel_rfl)) (knows_old 1 (.pointer (some ⟨g, 0, none⟩)) (by kernel_rfl) e1) (f_ar_0_0 (g)), ?_⟩
  refine ⟨isVal (.int .i64 c), step_read 3 (.tmp 3) ⟨g, 0, none⟩ (.int .i64 c) (by kernel_rfl) (wanted_none (by kernel_rfl)) (knows_new (V := isVal (.pointer (some ⟨g, 0, none⟩))) 3 0 (by kernel_rfl) (by kernel_rfl) (by kernel_rfl)) (HG.2 0 _ rfl) (HG.1) (agg_noZ), ?_⟩
  refine ⟨isVal (.bool true), step_bin .geq 3 3 (.tmp 4) (.const (.int .i64 1)) (.int .i64 c) (.int .i64 1) (.bool true) (by kernel_rfl) (wanted_none (by kernel_rfl)) (knows_new (V := isVal (.int .i64 c)) 4 1 (by kernel_rfl) (by kernel_rfl) (by kernel_rfl)) (knows_const _) (fun _ => rfl) (geq_int _ _ _ _ _ h1), ?_⟩
  refine ⟨isVal (.bool true), step_move (.tmp 5) (by kernel_rfl) (wanted_none (by kernel_rfl)) (stable_val _) (knows_new (V := isVal (.bool true)) 5 2 (by kernel_rfl) (by kernel_rfl) (by kernel_rfl)), ?_⟩
  refine ⟨isVal (.pointer (some ⟨g, 0, none⟩)), step_field 25 (.tmp 1) 0 ⟨g, 0, none⟩ ⟨g, 0, none⟩ (by kernel_rfl) (wanted_some 3 6 true (by kernel_rfl) (by kernel_rfl) (by kernel_rfl) (by kernel_rfl)) (knows_old 1 (.pointer (some ⟨g, 0, none⟩)) (by kernel_rfl) e1) (f_ar_0_0 (g)), ?_⟩
  refine ⟨isVal (.int .i64 c), step_read 3 (.tmp 7) ⟨g, 0, none⟩ (.int .i64 c) (by kernel_rfl) (wanted_some 3 6 true (by kernel_rfl) (by kernel_rfl) (by kernel_rfl) (by kernel_rfl)) (knows_new (V := isVal (.pointer (some ⟨g, 0, none⟩))) 7 4 (by kernel_rfl) (by kernel_rfl) (by kernel_rfl)) (HG.2 0 _ rfl) (HG.1) (agg_noZ), ?_⟩
  refine ⟨isVal (.bool true), step_bin .leq 3 3 (.tmp 8) (.const (.int .i64 8)) (.int .i64 c) (.int .i64 8) (.bool true) (by kernel_rfl) (wanted_some 3 6 true (by kernel_rfl) (by kernel_rfl) (by kernel_rfl) (by kernel_rfl)) (knows_new (V := isVal (.int .i64 c)) 8 5 (by kernel_rfl) (by kernel_rfl) (by kernel_rfl)) (knows_const _) (fun _ => rfl) (leq_int _ _ _ _ _ h2), ?_⟩
  refine ⟨isVal (.bool true), step_pick (.tmp 6) (.tmp 9) (.const (.bool false)) true (by kernel_rfl) (wanted_none (by kernel_rfl)) (stable_val _) (knows_new (V := isVal (.bool true)) 6 3 (by kernel_rfl) (by kernel_rfl) (by kernel_rfl)) (knows_new (V := isVal (.bool true)) 9 6 (by kernel_rfl) (by kernel_rfl) (by kernel_rfl)), ?_⟩
  refine ⟨isVal (.bool true), step_move (.tmp 10) (by kernel_rfl) (wanted_none (by kernel_rfl)) (stable_val _) (knows_new (V := isVal (.bool true)) 10 7 (by kernel_rfl) (by kernel_rfl) (by kernel_rfl)), ?_⟩
  refine ⟨isVal (.pointer (some ⟨g, 1, none⟩)), step_field 25 (.tmp 1) 1 ⟨g, 0, none⟩ ⟨g, 1, none⟩ (by kernel_rfl) (wanted_some 8 11 true (by kernel_rfl) (by kernel_rfl) (by kernel_rfl) (by kernel_rfl)) (knows_old 1 (.pointer (some ⟨g, 0, none⟩)) (by kernel_rfl) e1) (f_ar_0_1 (g)), ?_⟩
  refine ⟨isVal (.slice sa n sc), step_read 22 (.tmp 12) ⟨g, 1, none⟩ (.slice sa n sc) (by kernel_rfl) (wanted_some 8 11 true (by kernel_rfl) (by kernel_rfl) (by kernel_rfl) (by kernel_rfl)) (knows_new (V := isVal (.pointer (some ⟨g, 1, none⟩))) 12 9 (by kernel_rfl) (by kernel_rfl) (by kernel_rfl)) (HG.2 1 _ rfl) (HG.1) (agg_noS), ?_⟩
  refine ⟨isVal (.int .i64 (n : Int)), step_len 22 (.tmp 13) (.slice sa n sc) (.int .i64 (n : Int)) (by kernel_rfl) (wanted_some 8 11 true (by kernel_rfl) (by kernel_rfl) (by kernel_rfl) (by kernel_rfl)) (knows_new (V := isVal (.slice sa n sc)) 13 10 (by kernel_rfl) (by kernel_rfl) (by kernel_rfl)) ((fun ty w => by simp [Builtin.len_, run_underlying Tryz.underlying22]; rfl)), ?_⟩
  refine ⟨isVal (.pointer (some ⟨g, 0, none⟩)), step_field 25 (.tmp 1) 0 ⟨g, 0, none⟩ ⟨g, 0, none⟩ (by kernel_rfl) (wanted_some 8 11 true (by kernel_rfl) (by kernel_rfl) (by kernel_rfl) (by kernel_rfl)) (knows_old 1 (.pointer (some ⟨g, 0, none⟩)) (by kernel_rfl) e1) (f_ar_0_0 (g)), ?_⟩
  refine ⟨isVal (.int .i64 c), step_read 3 (.tmp 15) ⟨g, 0, none⟩ (.int .i64 c) (by kernel_rfl) (wanted_some 8 11 true (by kernel_rfl) (by kernel_rfl) (by kernel_rfl) (by kernel_rfl)) (knows_new (V := isVal (.pointer (some ⟨g, 0, none⟩))) 15 12 (by kernel_rfl) (by kernel_rfl) (by kernel_rfl)) (HG.2 0 _ rfl) (HG.1) (agg_noZ), ?_⟩
  refine ⟨isVal (.bool true), step_bin .leq 3 3 (.tmp 14) (.tmp 16) (.int .i64 (n : Int)) (.int .i64 c) (.bool true) (by kernel_rfl) (wanted_some 8 11 true (by kernel_rfl) (by kernel_rfl) (by kernel_rfl) (by kernel_rfl)) (knows_new (V := isVal (.int .i64 (n : Int))) 14 11 (by kernel_rfl) (by kernel_rfl) (by kernel_rfl)) (knows_new (V := isVal (.int .i64 c)) 16 13 (by kernel_rfl) (by kernel_rfl) (by kernel_rfl)) (fun _ => rfl) (leq_int _ _ _ _ _ h3), ?_⟩
  refine ⟨isVal (.bool true), step_pick (.tmp 11) (.tmp 17) (.const (.bool false)) true (by kernel_rfl) (wanted_none (by kernel_rfl)) (stable_val _) (knows_new (V := isVal (.bool true)) 11 8 (by kernel_rfl) (by kernel_rfl) (by kernel_rfl)) (knows_new (V := isVal (.bool true)) 17 14 (by kernel_rfl) (by kernel_rfl) (by kernel_rfl)), ?_⟩
  refine ⟨isVal (.bool true), step_move (.tmp 18) (by kernel_rfl) (wanted_none (by kernel_rfl)) (stable_val _) (knows_new (V := isVal (.bool true)) 18 15 (by kernel_rfl) (by kernel_rfl) (by kernel_rfl)), ?_⟩
  refine ⟨isVal (.pointer (some ⟨g, 1, none⟩)), step_field 25 (.tmp 1) 1 ⟨g, 0, none⟩ ⟨g, 1, none⟩ (by kernel_rfl) (wanted_some 16 19 true (by kernel_rfl) (by kernel_rfl) (by kernel_rfl) (by kernel_rfl)) (knows_old 1 (.pointer (some ⟨g, 0, none⟩)) (by kernel_rfl) e1) (f_ar_0_1 (g)), ?_⟩
  refine ⟨isVal (.slice sa n sc), step_read 22 (.tmp 20) ⟨g, 1, none⟩ (.slice sa n sc) (by kernel_rfl) (wanted_some 16 19 true (by kernel_rfl) (by kernel_rfl) (by kernel_rfl) (by kernel_rfl)) (knows_new (V := isVal (.pointer (some ⟨g, 1, none⟩))) 20 17 (by kernel_rfl) (by kernel_rfl) (by kernel_rfl)) (HG.2 1 _ rfl) (HG.1) (agg_noS), ?_⟩
  refine ⟨isVal (.bool true), step_call 128 #[.tmp 21] #[22] #[.slice sa n sc] (by kernel_rfl) (wanted_some 16 19 true (by kernel_rfl) (by kernel_rfl) (by kernel_rfl) (by kernel_rfl)) (stable_val _) (args1 (.tmp 21) (.slice sa n sc) (knows_new (V := isVal (.slice sa n sc)) 21 18 (by kernel_rfl) (by kernel_rfl) (by kernel_rfl))) (enters_of Tryz.func128 (by kernel_rfl) rfl) (by intro w' hb; exact call_vb (rslots_at L true _ w' (stable_ens _ _ _ _ hs hb) hL fL h4)), ?_⟩
  refine ⟨isVal (.bool true), step_pick (.tmp 19) (.tmp 22) (.const (.bool false)) true (by kernel_rfl) (wanted_none (by kernel_rfl)) (stable_val _) (knows_new (V := isVal (.bool true)) 19 16 (by kernel_rfl) (by kernel_rfl) (by kernel_rfl)) (knows_new (V := isVal (.bool true)) 22 19 (by kernel_rfl) (by kernel_rfl) (by kernel_rfl)), ?_⟩
  refine ⟨isVal (.bool true), step_move (.tmp 23) (by kernel_rfl) (wanted_none (by kernel_rfl)) (stable_val _) (knows_new (V := isVal (.bool true)) 23 20 (by kernel_rfl) (by kernel_rfl) (by kernel_rfl)), ?_⟩
  refine ⟨isVal (.pointer (some ⟨g, 2, none⟩)), step_field 25 (.tmp 1) 2 ⟨g, 0, none⟩ ⟨g, 2, none⟩ (by kernel_rfl) (wanted_some 21 24 true (by kernel_rfl) (by kernel_rfl) (by kernel_rfl) (by kernel_rfl)) (knows_old 1 (.pointer (some ⟨g, 0, none⟩)) (by kernel_rfl) e1) (f_ar_0_2 (g)), ?_⟩
  refine ⟨isVal vi, step_read 23 (.tmp 25) ⟨g, 2, none⟩ vi (by kernel_rfl) (wanted_some 21 24 true (by kernel_rfl) (by kernel_rfl) (by kernel_rfl) (by kernel_rfl)) (knows_new (V := isVal (.pointer (some ⟨g, 2, none⟩))) 25 22 (by kernel_rfl) (by kernel_rfl) (by kernel_rfl)) (HG.2 2 _ rfl) (HG.1) (agg_noI), ?_⟩
  refine ⟨isVal (.pointer (some ⟨g, 1, none⟩)), step_field 25 (.tmp 1) 1 ⟨g, 0, none⟩ ⟨g, 1, none⟩ (by kernel_rfl) (wanted_some 21 24 true (by kernel_rfl) (by kernel_rfl) (by kernel_rfl) (by kernel_rfl)) (knows_old 1 (.pointer (some ⟨g, 0, none⟩)) (by kernel_rfl) e1) (f_ar_0_1 (g)), ?_⟩
  refine ⟨isVal (.slice sa n sc), step_read 22 (.tmp 27) ⟨g, 1, none⟩ (.slice sa n sc) (by kernel_rfl) (wanted_some 21 24 true (by kernel_rfl) (by kernel_rfl) (by kernel_rfl) (by kernel_rfl)) (knows_new (V := isVal (.pointer (some ⟨g, 1, none⟩))) 27 24 (by kernel_rfl) (by kernel_rfl) (by kernel_rfl)) (HG.2 1 _ rfl) (HG.1) (agg_noS), ?_⟩
  refine ⟨(isCells ((idxM L).map intC)), step_call 102 #[.tmp 28] #[22] #[.slice sa n sc] (by kernel_rfl) (wanted_some 21 24 true (by kernel_rfl) (by kernel_rfl) (by kernel_rfl) (by kernel_rfl)) (stable_cells _) (args1 (.tmp 28) (.slice sa n sc) (knows_new (V := isVal (.slice sa n sc)) 28 25 (by kernel_rfl) (by kernel_rfl) (by kernel_rfl))) (enters_of Tryz.func102 (by kernel_rfl) rfl) (by intro w' hb; exact rindex_pred L _ w' (stable_ens _ _ _ _ hs hb) hL), ?_⟩
  refine ⟨isVal (.bool z), step_callP 51 #[.tmp 26, .tmp 29] #[23, 23] (by kernel_rfl) (wanted_some 21 24 true (by kernel_rfl) (by kernel_rfl) (by kernel_rfl) (by kernel_rfl)) (stable_val _) (enters_of Tryz.func51 (by kernel_rfl) rfl) (fun vs w => ∃ u v, vs = #[u, v] ∧ isVal vi u w ∧ isCells ((idxM L).map intC) v w) (pre2 (knows_new (V := isVal vi) 26 23 (by kernel_rfl) (by kernel_rfl) (by kernel_rfl)) (knows_new (V := (isCells ((idxM L).map intC))) 29 26 (by kernel_rfl) (by kernel_rfl) (by kernel_rfl))) (fun vs w' hb hp => by obtain ⟨u, v, rfl, hu, h2⟩ := hp; obtain rfl : u = vi := hu; exact call_vb (rints_at idx (idxM L) z _ _ w' (stable_cells _ _ _ _ hi hb) h2 hI (by rw [(idxP_rng L L.length).1 |> fun h => (show (idxM L).length = L.length from h)]; omega) hz)), ?_⟩
  refine ⟨isVal (.bool z), step_pick (.tmp 24) (.tmp 30) (.const (.bool false)) true (by kernel_rfl) (wanted_none (by kernel_rfl)) (stable_val _) (knows_new (V := isVal (.bool true)) 24 21 (by kernel_rfl) (by kernel_rfl) (by kernel_rfl)) (knows_new (V := isVal (.bool z)) 30 27 (by kernel_rfl) (by kernel_rfl) (by kernel_rfl)), ?_⟩
  refine ⟨isVal (.bool z), step_assign (.tmp 31) (by kernel_rfl) (wanted_none (by kernel_rfl)) (stable_val _) (knows_new (V := isVal (.bool z)) 31 28 (by kernel_rfl) (by kernel_rfl) (by kernel_rfl)), ?_⟩
  intro a w hkp hb hd
  rw [kept_of hkp [some 3, some 4, some 5, some 6, some 7, some 8, some 9, some 10, some 11, some 12, some 13, some 14, some 15, some 16, some 17, some 18, some 19, some 20, some 21, some 22, some 23, some 24, some 25, some 26, some 27, some 28, some 29, some 30, some 31, some 2] [3, 4, 5, 6, 7, 8, 9, 10, 11, 12, 13, 14, 15, 16, 17, 18, 19, 20, 21, 22, 23, 24, 25, 26, 27, 28, 29, 30, 31, 2] (by kernel_rfl) (by decide)]
  have d2 := fdone_of (hd 29 (by rw [show rck4Ops.size = 30 by kernel_rfl]; decide)) (t := 2) (V := isVal (.bool z)) (by kernel_rfl) (by kernel_rfl)
  exact hQ (fun s => a.tmps.getD s undef) w d2 hb
set_option maxRecDepth 100000 in
set_option maxHeartbeats 2000000 in
theorem rcheckA_any (A : Ar) (v : Value) (w : World) (hv : isAr A v w) (hF : FitA A) : Calls Tryz.prog 100 #[v] w fun e w' => e = .returned (.bool (okA A)) ∧ Below w.heap.size w w' := by
  obtain ⟨vs, vi, rfl, hs, hi⟩ := hv
  obtain ⟨sa, sc, rfl⟩ := hs.len
  have hB := lit_below w (.cells #[.int .i64 A.cap, .slice sa A.slots.length sc, vi] 25)
  have CG := cellsN_at w 25 [.int .i64 A.cap, .slice sa A.slots.length sc, vi] w.heap.size rfl
  have XS := stable_ens _ _ _ _ hs hB
  have XI := stable_cells _ _ _ _ hi hB
  have HK := Kept.mk (okA_ref A)
  unfold roomB at HK
  obtain ⟨z, hz⟩ : ∃ z, decide (A.index = idxM A.slots) = z := ⟨_, rfl⟩
  have hR : ∃ q, okA A = q := ⟨_, rfl⟩
  obtain ⟨q, hq⟩ := hR
  rw [hq] at HK ⊢
  generalize hn : A.slots.length = n at *
  cases h1 : decide (1 ≤ A.cap) with
  | false =>
    have HE := Kept.mk (show q = false by rw [HK.out, h1]; simp)
    have HH := Kept.mk hB
    have CG' := Kept.mk CG
    have XS' := Kept.mk XS
    have XI' := Kept.mk XI
    have Z1 := Kept.mk (And.intro h1 trivial)
    clear HK hs hi hB CG XS XI hq hn hz h1
    go_enter Tryz.func100, Tryz.ntmps100
    go_wp2
    refine rck0_region _ _ _ rfl w.heap.size n sc A.cap sa vi A.slots A.index z rfl CG'.out XS'.out XI'.out hF.slots (by have := hF.index; omega) hF.ents Z1.out.1 ?_
    intro f9 W9 d2 hb9
    simp only [List.foldl_cons, List.foldl_nil, d2]
    generalize f9 3 = y3
    generalize f9 4 = y4
    generalize f9 5 = y5
    generalize f9 6 = y6
    generalize f9 7 = y7
    generalize f9 8 = y8
    generalize f9 9 = y9
    generalize f9 10 = y10
    generalize f9 11 = y11
    generalize f9 12 = y12
    generalize f9 13 = y13
    generalize f9 14 = y14
    generalize f9 15 = y15
    generalize f9 16 = y16
    generalize f9 17 = y17
    generalize f9 18 = y18
    generalize f9 19 = y19
    generalize f9 20 = y20
    generalize f9 21 = y21
    generalize f9 22 = y22
    generalize f9 23 = y23
    generalize f9 24 = y24
    generalize f9 25 = y25
    generalize f9 26 = y26
    generalize f9 27 = y27
    generalize f9 28 = y28
    generalize f9 29 = y29
    generalize f9 30 = y30
    generalize f9 31 = y31
    clear d2
    simp only [List.setIfInBounds_toArray, List.set_cons_succ, List.set_cons_zero]
    have hbb := HH.out.trans (hb9.mono HH.out.size)
    clear hb9
    go_wp2
    go_ret
    exact ⟨by rw [HE.out]; rfl, hbb⟩
  | true =>
    cases h2 : decide (A.cap ≤ 8) with
    | false =>
      have HE := Kept.mk (show q = false by rw [HK.out, h1, h2]; simp)
      have HH := Kept.mk hB
      have CG' := Kept.mk CG
      have XS' := Kept.mk XS
      have XI' := Kept.mk XI
      have Z1 := Kept.mk (And.intro h1 (And.intro h2 trivial))
      clear HK hs hi hB CG XS XI hq hn hz h1 h2
      go_enter Tryz.func100, Tryz.ntmps100
      go_wp2
      refine rck1_region _ _ _ rfl w.heap.size n sc A.cap sa vi A.slots A.index z rfl CG'.out XS'.out XI'.out hF.slots (by have := hF.index; omega) hF.ents Z1.out.1 Z1.out.2.1 ?_
      intro f9 W9 d2 hb9
      simp only [List.foldl_cons, List.foldl_nil, d2]
      generalize f9 3 = y3
      generalize f9 4 = y4
      generalize f9 5 = y5
      generalize f9 6 = y6
      generalize f9 7 = y7
      generalize f9 8 = y8
      generalize f9 9 = y9
      generalize f9 10 = y10
      generalize f9 11 = y11
      generalize f9 12 = y12
      generalize f9 13 = y13
      generalize f9 14 = y14
      generalize f9 15 = y15
      generalize f9 16 = y16
      generalize f9 17 = y17
      generalize f9 18 = y18
      generalize f9 19 = y19
      generalize f9 20 = y20
      generalize f9 21 = y21
      generalize f9 22 = y22
      generalize f9 23 = y23
      generalize f9 24 = y24
      generalize f9 25 = y25
      generalize f9 26 = y26
      generalize f9 27 = y27
      generalize f9 28 = y28
      generalize f9 29 = y29
      generalize f9 30 = y30
      generalize f9 31 = y31
      clear d2
      simp only [List.setIfInBounds_toArray, List.set_cons_succ, List.set_cons_zero]
      have hbb := HH.out.trans (hb9.mono HH.out.size)
      clear hb9
      go_wp2
      go_ret
      exact ⟨by rw [HE.out]; rfl, hbb⟩
    | true =>
      cases h3 : decide ((n : Int) ≤ A.cap) with
      | false =>
        have HE := Kept.mk (show q = false by rw [HK.out, h1, h2, h3]; simp)
        have HH := Kept.mk hB
        have CG' := Kept.mk CG
        have XS' := Kept.mk XS
        have XI' := Kept.mk XI
        have Z1 := Kept.mk (And.intro h1 (And.intro h2 (And.intro h3 trivial)))
        clear HK hs hi hB CG XS XI hq hn hz h1 h2 h3
        go_enter Tryz.func100, Tryz.ntmps100
        go_wp2
        refine rck2_region _ _ _ rfl w.heap.size n sc A.cap sa vi A.slots A.index z rfl CG'.out XS'.out XI'.out hF.slots (by have := hF.index; omega) hF.ents Z1.out.1 Z1.out.2.1 Z1.out.2.2.1 ?_
        intro f9 W9 d2 hb9
        simp only [List.foldl_cons, List.foldl_nil, d2]
        generalize f9 3 = y3
        generalize f9 4 = y4
        generalize f9 5 = y5
        generalize f9 6 = y6
        generalize f9 7 = y7
        generalize f9 8 = y8
        generalize f9 9 = y9
        generalize f9 10 = y10
        generalize f9 11 = y11
        generalize f9 12 = y12
        generalize f9 13 = y13
        generalize f9 14 = y14
        generalize f9 15 = y15
        generalize f9 16 = y16
        generalize f9 17 = y17
        generalize f9 18 = y18
        generalize f9 19 = y19
        generalize f9 20 = y20
        generalize f9 21 = y21
        generalize f9 22 = y22
        generalize f9 23 = y23
        generalize f9 24 = y24
        generalize f9 25 = y25
        generalize f9 26 = y26
        generalize f9 27 = y27
        generalize f9 28 = y28
        generalize f9 29 = y29
        generalize f9 30 = y30
        generalize f9 31 = y31
        clear d2
        simp only [List.setIfInBounds_toArray, List.set_cons_succ, List.set_cons_zero]
        have hbb := HH.out.trans (hb9.mono HH.out.size)
        clear hb9
        go_wp2
        go_ret
        exact ⟨by rw [HE.out]; rfl, hbb⟩
      | true =>
        cases h4 : slotsB A.slots with
        | false =>
          have HE := Kept.mk (show q = false by rw [HK.out, h1, h2, h3, h4]; simp)
          have HH := Kept.mk hB
          have CG' := Kept.mk CG
          have XS' := Kept.mk XS
          have XI' := Kept.mk XI
          have Z1 := Kept.mk (And.intro h1 (And.intro h2 (And.intro h3 (And.intro h4 trivial))))
          clear HK hs hi hB CG XS XI hq hn hz h1 h2 h3 h4
          go_enter Tryz.func100, Tryz.ntmps100
          go_wp2
          refine rck3_region _ _ _ rfl w.heap.size n sc A.cap sa vi A.slots A.index z rfl CG'.out XS'.out XI'.out hF.slots (by have := hF.index; omega) hF.ents Z1.out.1 Z1.out.2.1 Z1.out.2.2.1 Z1.out.2.2.2.1 ?_
          intro f9 W9 d2 hb9
          simp only [List.foldl_cons, List.foldl_nil, d2]
          generalize f9 3 = y3
          generalize f9 4 = y4
          generalize f9 5 = y5
          generalize f9 6 = y6
          generalize f9 7 = y7
          generalize f9 8 = y8
          generalize f9 9 = y9
          generalize f9 10 = y10
          generalize f9 11 = y11
          generalize f9 12 = y12
          generalize f9 13 = y13
          generalize f9 14 = y14
          generalize f9 15 = y15
          generalize f9 16 = y16
          generalize f9 17 = y17
          generalize f9 18 = y18
          generalize f9 19 = y19
          generalize f9 20 = y20
          generalize f9 21 = y21
          generalize f9 22 = y22
          generalize f9 23 = y23
          generalize f9 24 = y24
          generalize f9 25 = y25
          generalize f9 26 = y26
          generalize f9 27 = y27
          generalize f9 28 = y28
          generalize f9 29 = y29
          generalize f9 30 = y30
          generalize f9 31 = y31
          clear d2
          simp only [List.setIfInBounds_toArray, List.set_cons_succ, List.set_cons_zero]
          have hbb := HH.out.trans (hb9.mono HH.out.size)
          clear hb9
          go_wp2
          go_ret
          exact ⟨by rw [HE.out]; rfl, hbb⟩
        | true =>
          have HE := Kept.mk (show q = z by rw [HK.out, h1, h2, h3, h4, hz]; simp)
          have HH := Kept.mk hB
          have CG' := Kept.mk CG
          have XS' := Kept.mk XS
          have XI' := Kept.mk XI
          have Z1 := Kept.mk (And.intro h1 (And.intro h2 (And.intro h3 (And.intro h4 hz))))
          clear HK hs hi hB CG XS XI hq hn h1 h2 h3 h4 hz
          go_enter Tryz.func100, Tryz.ntmps100
          go_wp2
          refine rck4_region _ _ _ rfl w.heap.size n sc A.cap sa vi A.slots A.index z rfl CG'.out XS'.out XI'.out hF.slots (by have := hF.index; omega) hF.ents Z1.out.1 Z1.out.2.1 Z1.out.2.2.1 Z1.out.2.2.2.1 Z1.out.2.2.2.2 ?_
          intro f9 W9 d2 hb9
          simp only [List.foldl_cons, List.foldl_nil, d2]
          generalize f9 3 = y3
          generalize f9 4 = y4
          generalize f9 5 = y5
          generalize f9 6 = y6
          generalize f9 7 = y7
          generalize f9 8 = y8
          generalize f9 9 = y9
          generalize f9 10 = y10
          generalize f9 11 = y11
          generalize f9 12 = y12
          generalize f9 13 = y13
          generalize f9 14 = y14
          generalize f9 15 = y15
          generalize f9 16 = y16
          generalize f9 17 = y17
          generalize f9 18 = y18
          generalize f9 19 = y19
          generalize f9 20 = y20
          generalize f9 21 = y21
          generalize f9 22 = y22
          generalize f9 23 = y23
          generalize f9 24 = y24
          generalize f9 25 = y25
          generalize f9 26 = y26
          generalize f9 27 = y27
          generalize f9 28 = y28
          generalize f9 29 = y29
          generalize f9 30 = y30
          generalize f9 31 = y31
          clear d2
          simp only [List.setIfInBounds_toArray, List.set_cons_succ, List.set_cons_zero]
          have hbb := HH.out.trans (hb9.mono HH.out.size)
          clear hb9
          go_wp2
          go_ret
          exact ⟨by rw [HE.out]; rfl, hbb⟩
end Go.Proofs.YtbgconagkgfplaaGreat
end
section
namespace Go.Proofs.YtbgconagkgfplaaGreat
open Go.RowKit
set_option linter.unusedVariables false
set_option linter.unusedSimpArgs false
attribute [local irreducible] setN

theorem resame_val (X Y : En) (z : Bool) (v u : Value) (w : World) (hv : isEn X v w) (hu : isEn Y u w) (hX : FitE X) (hY : FitE Y) (hz : decide (X = Y) = z) : Calls Tryz.prog 28 #[v, u] w fun e w' => ∃ x, e = .returned x ∧ isVal (.bool z) x w' ∧ Below w.heap.size w w' :=
  (resame_any X Y v u w hv hu hX.val hY.val).mono (by rintro e w' ⟨rfl, h⟩; exact ⟨_, rfl, by rw [hz]; rfl, h⟩)
noncomputable def rallOps : Array Oper := regionOf Tryz.f35 6
set_option maxRecDepth 100000 in
set_option maxHeartbeats 2000000 in
theorem rall_region (Q : Exit → Act → World → Prop) (a0 : Act) (w0 : World) (hsz : a0.tmps.size = 27) (k n bs os cs bt ot ct : Nat) (z : Bool) (X Y : En) (xp xm yp ym : Value) (e5 : a0.tmps.getD 5 undef = .int .i64 (k : Int)) (e0 : a0.tmps.getD 0 undef = .slice (some ⟨bs, os, none⟩) n cs) (e1 : a0.tmps.getD 1 undef = .slice (some ⟨bt, ot, none⟩) n ct) (hk : k < n) (hbs : bs < w0.heap.size) (hbt : bt < w0.heap.size) (hxc : ∀ (j : Nat) (x : Value), [.string ⟨X.key.toArray⟩, .int .i64 X.val.kind, .int .i64 X.val.time, .int .i64 X.val.node, .bool X.val.dead, .string ⟨X.val.text.toArray⟩, xp, xm, .int .u64 (X.val.flags.toNat : Int)][j]? = some x → w0.cell? ⟨bs, os + k * 9 + j, none⟩ = some x) (hyc : ∀ (j : Nat) (x : Value), [.string ⟨Y.key.toArray⟩, .int .i64 Y.val.kind, .int .i64 Y.val.time, .int .i64 Y.val.node, .bool Y.val.dead, .string ⟨Y.val.text.toArray⟩, yp, ym, .int .u64 (Y.val.flags.toNat : Int)][j]? = some x → w0.cell? ⟨bt, ot + k * 9 + j, none⟩ = some x) (hxp : isCells (X.val.plus.map intC) xp w0) (hxm : isCells (X.val.minus.map intC) xm w0) (hyp : isCells (Y.val.plus.map intC) yp w0) (hym : isCells (Y.val.minus.map intC) ym w0) (fX : FitE X) (fY : FitE Y) (hz : decide (X = Y) = z)
    (hQ : ∀ (g : Nat → Value) (w : World), g 26 = .bool !z → Below w0.heap.size w0 w → Q .normal { tmps := [17, 18, 19, 20, 21, 22, 23, 24, 25, 26].foldl (fun t s => t.setIfInBounds s (g s)) a0.tmps, defers := a0.defers } w) :
    (Code.region 6 rallOps true).wp Tryz.prog Q a0 w0 := by
  refine wp_region_flow mixed (by rw [hsz]; kernel_rfl) ?_
  rw [show rallOps.size = 10 by kernel_rfl]
  refine ⟨isVal (.slice (some ⟨bs, os, none⟩) n cs), step_move (.tmp 0) (by kernel_rfl) (wanted_none (by kernel_rfl)) (stable_val _) (knows_old 0 (.slice (some ⟨bs, os, none⟩) n cs) (by kernel_rfl) e0), ?_⟩
  refine ⟨isVal (.int .i64 (k : Int)), step_move (.tmp 5) (by kernel_rfl) (wanted_none (by kernel_rfl)) (stable_val _) (knows_old 5 (.int .i64 (k : Int)) (by kernel_rfl) e5), ?_⟩
  refine ⟨isVal (.pointer (some ⟨bs, os + k * 9, none⟩)), step_placeE 22 30 (.tmp 17) (.tmp 18) bs (os) (n) (cs) (k) (os + k * 9) (by kernel_rfl) (wanted_none (by kernel_rfl)) (knows_new (V := isVal (.slice (some ⟨bs, os, none⟩) n cs)) 17 0 (by kernel_rfl) (by kernel_rfl) (by kernel_rfl)) (knows_new (V := isVal (.int .i64 (k : Int))) 18 1 (by kernel_rfl) (by kernel_rfl) (by kernel_rfl)) Tryz.underlying22 (by kernel_rfl) (⟨hk, rfl⟩), ?_⟩
  refine ⟨isVal (.agg #[.string ⟨X.key.toArray⟩, .int .i64 X.val.kind, .int .i64 X.val.time, .int .i64 X.val.node, .bool X.val.dead, .string ⟨X.val.text.toArray⟩, xp, xm, .int .u64 (X.val.flags.toNat : Int)]), step_loadA 30 (.tmp 19) (bs) (os + k * 9) [.string ⟨X.key.toArray⟩, .int .i64 X.val.kind, .int .i64 X.val.time, .int .i64 X.val.node, .bool X.val.dead, .string ⟨X.val.text.toArray⟩, xp, xm, .int .u64 (X.val.flags.toNat : Int)] (by kernel_rfl) (wanted_none (by kernel_rfl)) (knows_new (V := isVal (.pointer (some ⟨bs, os + k * 9, none⟩))) 19 2 (by kernel_rfl) (by kernel_rfl) (by kernel_rfl)) size_en agg_en (⟨hbs, hxc⟩), ?_⟩
  refine ⟨isVal (.slice (some ⟨bt, ot, none⟩) n ct), step_move (.tmp 1) (by kernel_rfl) (wanted_none (by kernel_rfl)) (stable_val _) (knows_old 1 (.slice (some ⟨bt, ot, none⟩) n ct) (by kernel_rfl) e1), ?_⟩
  refine ⟨isVal (.int .i64 (k : Int)), step_move (.tmp 5) (by kernel_rfl) (wanted_none (by kernel_rfl)) (stable_val _) (knows_old 5 (.int .i64 (k : Int)) (by kernel_rfl) e5), ?_⟩
  refine ⟨isVal (.pointer (some ⟨bt, ot + k * 9, none⟩)), step_placeE 22 30 (.tmp 21) (.tmp 22) bt (ot) (n) (ct) (k) (ot + k * 9) (by kernel_rfl) (wanted_none (by kernel_rfl)) (knows_new (V := isVal (.slice (some ⟨bt, ot, none⟩) n ct)) 21 4 (by kernel_rfl) (by kernel_rfl) (by kernel_rfl)) (knows_new (V := isVal (.int .i64 (k : Int))) 22 5 (by kernel_rfl) (by kernel_rfl) (by kernel_rfl)) Tryz.underlying22 (by kernel_rfl) (⟨hk, rfl⟩), ?_⟩
  refine ⟨isVal (.agg #[.string ⟨Y.key.toArray⟩, .int .i64 Y.val.kind, .int .i64 Y.val.time, .int .i64 Y.val.node, .bool Y.val.dead, .string ⟨Y.val.text.toArray⟩, yp, ym, .int .u64 (Y.val.flags.toNat : Int)]), step_loadA 30 (.tmp 23) (bt) (ot + k * 9) [.string ⟨Y.key.toArray⟩, .int .i64 Y.val.kind, .int .i64 Y.val.time, .int .i64 Y.val.node, .bool Y.val.dead, .string ⟨Y.val.text.toArray⟩, yp, ym, .int .u64 (Y.val.flags.toNat : Int)] (by kernel_rfl) (wanted_none (by kernel_rfl)) (knows_new (V := isVal (.pointer (some ⟨bt, ot + k * 9, none⟩))) 23 6 (by kernel_rfl) (by kernel_rfl) (by kernel_rfl)) size_en agg_en (⟨hbt, hyc⟩), ?_⟩
  refine ⟨isVal (.bool z), step_call 28 #[.tmp 20, .tmp 24] #[30, 30] #[.agg #[.string ⟨X.key.toArray⟩, .int .i64 X.val.kind, .int .i64 X.val.time, .int .i64 X.val.node, .bool X.val.dead, .string ⟨X.val.text.toArray⟩, xp, xm, .int .u64 (X.val.flags.toNat : Int)], .agg #[.string ⟨Y.key.toArray⟩, .int .i64 Y.val.kind, .int .i64 Y.val.time, .int .i64 Y.val.node, .bool Y.val.dead, .string ⟨Y.val.text.toArray⟩, yp, ym, .int .u64 (Y.val.flags.toNat : Int)]] (by kernel_rfl) (wanted_none (by kernel_rfl)) (stable_val _) (args2 (.tmp 20) (.tmp 24) (.agg #[.string ⟨X.key.toArray⟩, .int .i64 X.val.kind, .int .i64 X.val.time, .int .i64 X.val.node, .bool X.val.dead, .string ⟨X.val.text.toArray⟩, xp, xm, .int .u64 (X.val.flags.toNat : Int)]) (.agg #[.string ⟨Y.key.toArray⟩, .int .i64 Y.val.kind, .int .i64 Y.val.time, .int .i64 Y.val.node, .bool Y.val.dead, .string ⟨Y.val.text.toArray⟩, yp, ym, .int .u64 (Y.val.flags.toNat : Int)]) (knows_new (V := isVal (.agg #[.string ⟨X.key.toArray⟩, .int .i64 X.val.kind, .int .i64 X.val.time, .int .i64 X.val.node, .bool X.val.dead, .string ⟨X.val.text.toArray⟩, xp, xm, .int .u64 (X.val.flags.toNat : Int)])) 20 3 (by kernel_rfl) (by kernel_rfl) (by kernel_rfl)) (knows_new (V := isVal (.agg #[.string ⟨Y.key.toArray⟩, .int .i64 Y.val.kind, .int .i64 Y.val.time, .int .i64 Y.val.node, .bool Y.val.dead, .string ⟨Y.val.text.toArray⟩, yp, ym, .int .u64 (Y.val.flags.toNat : Int)])) 24 7 (by kernel_rfl) (by kernel_rfl) (by kernel_rfl))) (enters_of Tryz.func28 (by kernel_rfl) rfl) (by intro w' hb; exact resame_val X Y z _ _ w' (en_mk hxp hxm hb) (en_mk hyp hym hb) fX fY hz), ?_⟩
  refine ⟨isVal (.bool !z), step_un .not 4 (.tmp 25) (.bool z) (.bool !z) (by kernel_rfl) (wanted_none (by kernel_rfl)) (knows_new (V := isVal (.bool z)) 25 8 (by kernel_rfl) (by kernel_rfl) (by kernel_rfl)) (fun _ => rfl), ?_⟩
  intro a w hkp hb hd
  rw [kept_of hkp [some 17, some 18, some 19, some 20, some 21, some 22, some 23, some 24, some 25, some 26] [17, 18, 19, 20, 21, 22, 23, 24, 25, 26] (by kernel_rfl) (by decide)]
  have d26 := fdone_of (hd 9 (by rw [show rallOps.size = 10 by kernel_rfl]; decide)) (t := 26) (V := isVal (.bool !z)) (by kernel_rfl) (by kernel_rfl)
  exact hQ (fun s => a.tmps.getD s undef) w d26 hb
set_option maxRecDepth 100000 in
set_option maxHeartbeats 2000000 in
theorem refAll_any (l m : List En) (v u : Value) (w : World) (hv : isEns l v w) (hu : isEns m u w) (hl : l.length ≤ 1000) (hm : m.length ≤ 1000) (fl : ∀ e ∈ l, FitE e) (fm : ∀ e ∈ m, FitE e) : Calls Tryz.prog 35 #[v, u] w fun e w' => e = .returned (.bool (decide (l = m))) ∧ Below w.heap.size w w' := by
  obtain ⟨va, vc, rfl⟩ := hv.len
  obtain ⟨ua, uc, rfl⟩ := hu.len
  by_cases hlen : l.length = m.length
  · have HV := Kept.mk hv
    have HU := Kept.mk hu
    have FL := Kept.mk fl
    have FM := Kept.mk fm
    clear hv hu fl fm
    generalize hn : l.length = n at *
    generalize hmn : m.length = n2 at *
    subst hlen
    have HN := Kept.mk (And.intro hn hmn)
    clear hn hmn
    go_enter Tryz.func35, Tryz.ntmps35
    go_wp2
    go_loopw [5] (fun i wr => ∃ k : Nat, k ≤ n ∧ i = .int .i64 (k : Int) ∧ Kept (Below w.heap.size w wr) ∧ Kept (∀ j, j < k → l[j]? = m[j]?)) (fun i _ => n - (intOf i).toNat)
    case atStart => exact ⟨0, Nat.zero_le _, rfl, ⟨Below.refl _ _⟩, ⟨fun j h => absurd h (Nat.not_lt_zero _)⟩⟩
    case round =>
      obtain ⟨k, hk, rfl, B, A⟩ := hrel
      by_cases hlt : k < n
      · have hlt' : (k : Int) < (n : Int) := by omega
        obtain ⟨X, hX⟩ : ∃ X, l[k]? = some X := ⟨_, List.getElem?_eq_getElem (by have := HN.out.1; omega)⟩
        obtain ⟨Y, hY⟩ : ∃ Y, m[k]? = some Y := ⟨_, List.getElem?_eq_getElem (by have := HN.out.2; omega)⟩
        obtain ⟨bs, os, cs, hvs, hbs, xp, xm, hxc, hxp, hxm⟩ := HV.out.get hX
        injection hvs with h1 hz1 h2
        clear hz1
        subst h1 h2
        obtain ⟨bt, ot, ct, hvt, hbt, yp, ym, hyc, hyp, hym⟩ := HU.out.get hY
        injection hvt with h1 hz1 h2
        clear hz1
        subst h1 h2
        have FX := Kept.mk (FL.out X (List.mem_of_getElem? hX))
        have FY := Kept.mk (FM.out Y (List.mem_of_getElem? hY))
        have HXY := Kept.mk (And.intro hX hY)
        have HXC := Kept.mk hxc
        have HYC := Kept.mk hyc
        obtain ⟨z, hz⟩ : ∃ z, decide (X = Y) = z := ⟨_, rfl⟩
        have HZ := Kept.mk hz
        have hsw := B.out.size
        clear hX hY hz hxc hyc
        go_wp2
        refine rall_region _ _ _ rfl k n bs os vc bt ot uc z X Y xp xm yp ym rfl rfl rfl hlt (by omega) (by omega) (fun j x hx => (B.out.cell (p := ⟨bs, os + k * 9 + j, none⟩) hbs).trans (HXC.out j x hx)) (fun j x hx => (B.out.cell (p := ⟨bt, ot + k * 9 + j, none⟩) hbt).trans (HYC.out j x hx)) (stable_cells _ _ _ _ hxp B.out) (stable_cells _ _ _ _ hxm B.out) (stable_cells _ _ _ _ hyp B.out) (stable_cells _ _ _ _ hym B.out) FX.out FY.out HZ.out ?_
        intro f9 W9 d26 hb9
        simp only [List.foldl_cons, List.foldl_nil, d26]
        generalize f9 17 = y17
        generalize f9 18 = y18
        generalize f9 19 = y19
        generalize f9 20 = y20
        generalize f9 21 = y21
        generalize f9 22 = y22
        generalize f9 23 = y23
        generalize f9 24 = y24
        generalize f9 25 = y25
        clear d26
        simp only [List.setIfInBounds_toArray, List.set_cons_succ, List.set_cons_zero]
        replace B := Kept.mk (B.out.trans (hb9.mono hsw))
        clear hb9
        cases z with
        | true =>
          have HQ := Kept.mk (of_decide_eq_true HZ.out)
          go_wp2
          go_roundw
          case rel =>
            refine ⟨k + 1, by omega, by go_num, B, ⟨fun j hj => ?_⟩⟩
            by_cases e : j = k
            · subst e; rw [HXY.out.1, HXY.out.2, HQ.out]
            · exact A.out j (by omega)
          case measure => simp [intOf]; omega
        | false =>
          have HE := Kept.mk (show decide (l = m) = false from decide_eq_false (fun e => by
            have := HXY.out.1; rw [e, HXY.out.2] at this; injection this with this
            exact (of_decide_eq_false HZ.out) this.symm))
          go_wp2
          go_ret
          exact ⟨by rw [HE.out]; rfl, B.out⟩
      · have hlt' : ¬ (k : Int) < (n : Int) := by omega
        have HE := Kept.mk (show decide (l = m) = true from decide_eq_true (List.ext_getElem? (fun j => by
          by_cases hj : j < k
          · exact A.out j hj
          · rw [List.getElem?_eq_none (by have := HN.out.1; omega), List.getElem?_eq_none (by have := HN.out.2; omega)])))
        go_wp2
        go_ret
        exact ⟨by rw [HE.out]; rfl, B.out⟩
  · have HE := Kept.mk (show decide (l = m) = false from decide_eq_false (fun e => hlen (by rw [e])))
    clear hv hu fl fm
    generalize l.length = n at *
    generalize m.length = n2 at *
    have hl1 : ((n : Int) == (n2 : Int)) = false := by simp; omega
    have hl2 : ((n : Int) != (n2 : Int)) = true := by simp; omega
    go_enter Tryz.func35, Tryz.ntmps35
    go_wp2
    go_ret
    exact ⟨by rw [HE.out]; rfl, Below.refl _ _⟩
end Go.Proofs.YtbgconagkgfplaaGreat
end
section
namespace Go.Proofs.YtbgconagkgfplaaGreat
open Go.RowKit
set_option linter.unusedVariables false
set_option linter.unusedSimpArgs false
attribute [local irreducible] setN

def srcP (ps : RowE) : VP := fun v w => SrcE v ps w
theorem SrcE.keepE {u : Value} {ps : RowE} {w w' : World} (h : SrcE u ps w) (hb : Below w.heap.size w w') : SrcE u ps w' := by
  rcases h with h | ⟨a, c, e, hc⟩
  · exact .inl h
  · exact .inr ⟨a, c, e, fun j x hx => (hb.cell (World.block_lt_of_cell? w _ (hc j x hx))).trans (hc j x hx)⟩
theorem src_oneE (X : En) (xp xm : Value) (w : World) : SrcE (.slice (some ⟨w.heap.size, 0, none⟩) 1 1) [(X, xp, xm)] (w.alloc (.cells #[.string ⟨X.key.toArray⟩, .int .i64 X.val.kind, .int .i64 X.val.time, .int .i64 X.val.node, .bool X.val.dead, .string ⟨X.val.text.toArray⟩, xp, xm, .int .u64 (X.val.flags.toNat : Int)] 30)) := by
  refine .inr ⟨⟨w.heap.size, 0, none⟩, 1, rfl, fun j x hx => ?_⟩
  rw [add_at, Nat.zero_add, World.cell?_alloc_new]
  simpa [flatE, enL] using hx
section
variable {ops : Array Oper} {base : World} {a0 : Act} {Q : Exit → Act → World → Prop} {kn : Nat → VP} {i : Nat} {V : VP}
end
noncomputable def rallAOps : Array Oper := regionOf Tryz.f83 7
def EnsPost (l : List En) (w : World) (e : Ending) (w' : World) : Prop := ∃ v', e = .returned v' ∧ isEns l v' w' ∧ Below w.heap.size w w'
theorem rcheckA_at (A : Ar) (r : Bool) (v : Value) (w : World) (hv : isAr A v w) (hF : FitA A) (hr : okA A = r) : Calls Tryz.prog 100 #[v] w fun e w' => e = .returned (.bool r) ∧ Below w.heap.size w w' := by subst hr; exact rcheckA_any A v w hv hF
set_option maxRecDepth 100000 in
set_option maxHeartbeats 2000000 in
theorem rfind_any (A : Ar) (kind : Int) (key : List UInt8) (v : Value) (w : World) (hv : isAr A v w) (hF : FitA A) : Calls Tryz.prog 65 #[v, .int .i64 kind, .string ⟨key.toArray⟩] w fun e w' => e = .returned (.int .i64 (findI A (nameE kind key))) ∧ Below w.heap.size w w' := by
  obtain ⟨vs, vi, rfl, hs, hi⟩ := hv
  obtain ⟨HB, VA⟩ := abox w A vs vi hs hi w.heap.size rfl
  have CG := Kept.mk (cellsN_at w 25 [.int .i64 A.cap, vs, vi] w.heap.size rfl)
  have XA := Kept.mk (show isAr A (.agg #[.int .i64 A.cap, vs, vi]) (w.alloc (.cells #[.int .i64 A.cap, vs, vi] 25)) from stable_ar A _ _ _ ⟨vs, vi, rfl, hs, hi⟩ HB.out)
  have HS := Kept.mk hs
  have HI := Kept.mk hi
  have ka0 := CG.out.2 0 _ rfl
  have ka1 := CG.out.2 1 _ rfl
  have ka2 := CG.out.2 2 _ rfl
  clear VA hs hi
  obtain ⟨p, hp⟩ : ∃ p, findI A (nameE kind key) = p := ⟨_, rfl⟩
  rw [hp]
  have HP := Kept.mk hp
  clear hp
  cases hok : okA A with
  | false =>
    have HO := Kept.mk hok
    have HE := Kept.mk (show p = -1 by rw [← HP.out]; exact find_bad hok _)
    clear hok
    go_enter Tryz.func65, Tryz.ntmps65
    go_wp2_with fail
    refine (rcheckA_at A false _ _ XA.out hF HO.out).mono ?_
    rintro e W1 ⟨rfl, hb⟩
    replace HB := Kept.mk (HB.out.trans (hb.mono HB.out.size))
    clear hb XA CG ka0 ka1 ka2
    go_wp2
    go_ret
    exact ⟨by rw [HE.out]; rfl, HB.out⟩
  | true =>
    have HO := Kept.mk hok
    have OA := Kept.mk (okA_iff.1 hok)
    clear hok
    obtain ⟨sa, cs, es⟩ := HS.out.len
    subst es
    have f1 := hF.slots
    generalize hN : A.slots.length = N at *
    have HN := Kept.mk hN
    clear hN
    go_enter Tryz.func65, Tryz.ntmps65
    go_wp2_with fail
    refine (rcheckA_at A true _ _ XA.out hF HO.out).mono ?_
    rintro e W1 ⟨rfl, hb⟩
    replace HB := Kept.mk (HB.out.trans (hb.mono HB.out.size))
    replace CG := Kept.mk (CG.out.keep hb CG.out.1)
    have kb1 := CG.out.2 1 _ rfl
    clear hb XA ka0 ka1 ka2
    go_wp2
    go_loop [7] (fun IV => ∃ k : Nat, k ≤ N ∧ IV = .int .i64 (k : Int) ∧ Kept (∀ j E, j < k → A.slots[j]? = some E → nameB E (nameE kind key) = false)) (fun IV => N - (intOf IV).toNat)
    case atStart => exact ⟨0, Nat.zero_le _, rfl, ⟨fun j E h => absurd h (Nat.not_lt_zero _)⟩⟩
    case round =>
      obtain ⟨k, hk, rfl, AJ⟩ := hrel
      by_cases hlt : k < N
      · have hlt' : (k : Int) < (N : Int) := by omega
        obtain ⟨E, hE⟩ : ∃ E, A.slots[k]? = some E := ⟨_, List.getElem?_eq_getElem (by rw [HN.out]; exact hlt)⟩
        have HX := Kept.mk hE
        obtain ⟨bs, os, cs', ea, hbs, xp, xm, hxc, hxp, hxm⟩ := HS.out.get hE
        injection ea with ea1 _ ea3
        subst ea1 ea3
        have kx0 : W1.cell? ⟨bs, os + k * 9, none⟩ = _ := (HB.out.cell (p := ⟨bs, os + k * 9 + 0, none⟩) hbs).trans (hxc 0 _ rfl)
        have kx1 : W1.cell? ⟨bs, os + k * 9 + 1, none⟩ = _ := (HB.out.cell (p := ⟨bs, os + k * 9 + 1, none⟩) hbs).trans (hxc 1 _ rfl)
        have HNM := Kept.mk (show nameB E (nameE kind key) = ((E.val.kind == kind) && (E.key == key)) by unfold nameB nameE; rw [Bool.eq_iff_iff]; simp)
        clear hE hxc hxp hxm
        have no : nameB E (nameE kind key) = false → ∀ j E', j < k + 1 → A.slots[j]? = some E' → nameB E' (nameE kind key) = false := fun hf j E' hj he => by
          by_cases e : j = k
          · subst e; rw [HX.out] at he; injection he with he; rw [← he]; exact hf
          · exact AJ.out j E' (by omega) he
        have NO := Kept.mk no
        clear no
        cases h1 : (E.val.kind == kind) with
        | false =>
          have HF := Kept.mk (NO.out (by rw [HNM.out, h1]; rfl))
          go_wp2
          go_round
          case rel => exact ⟨k + 1, by omega, by go_num, HF⟩
          case measure => simp [intOf]; omega
        | true =>
          cases h2 : (E.key == key) with
          | false =>
            have HF := Kept.mk (NO.out (by rw [HNM.out, h2, Bool.and_false]))
            go_wp2
            go_round
            case rel => exact ⟨k + 1, by omega, by go_num, HF⟩
            case measure => simp [intOf]; omega
          | true =>
            have HF := Kept.mk (show p = (k : Int) by rw [← HP.out]; exact find_ref OA.out _ HX.out (by rw [HNM.out, h1, h2]; rfl))
            go_wp2
            go_ret
            exact ⟨by rw [HF.out]; rfl, HB.out⟩
      · have hlt' : ¬ (k : Int) < (N : Int) := by omega
        have HF := Kept.mk (show p = -1 by
          rw [← HP.out]; refine find_ref_no OA.out _ (fun e he => ?_)
          obtain ⟨j, hj⟩ := List.getElem?_of_mem he
          exact AJ.out j e (by have := (List.getElem?_eq_some_iff.1 hj).1; rw [HN.out] at this; omega) hj)
        go_wp2
        go_ret
        exact ⟨by rw [HF.out]; rfl, HB.out⟩
set_option maxRecDepth 100000 in
set_option maxHeartbeats 2000000 in
theorem rsameA_any (A C : Ar) (v u : Value) (w : World) (hv : isAr A v w) (hu : isAr C u w) (hA : FitA A) (hC : FitA C) : Calls Tryz.prog 18 #[v, u] w fun e w' => e = .returned (.bool (decide (A = C))) ∧ Below w.heap.size w w' := by
  obtain ⟨vs, vi, rfl, hs, hi⟩ := hv
  obtain ⟨us, ui, rfl, ks, ki⟩ := hu
  obtain ⟨hB, Va⟩ := abox w A vs vi hs hi w.heap.size rfl
  obtain ⟨hBn, Vc⟩ := abox (w.alloc (.cells #[.int .i64 A.cap, vs, vi] 25)) C us ui (stable_ens _ _ _ _ ks hB.out) (stable_cells _ _ _ _ ki hB.out) (w.heap.size + 1) (by simp)
  replace Va := Kept.mk (Va.out.keep hBn.out)
  replace hB := Kept.mk (hB.out.trans (hBn.out.mono hB.out.size))
  clear hBn hs hi ks ki
  have HD := Kept.mk (ar_eq A C)
  obtain ⟨a1, a2, _, sa, _, ka0, ka1, ka2⟩ := Va.out.open_
  obtain ⟨c1, c2, _, sc, _, kc0, kc1, kc2⟩ := Vc.out.open_
  have SA := Kept.mk sa
  have SC := Kept.mk sc
  clear sa sc
  go_enter Tryz.func18, Tryz.ntmps18
  by_cases h1 : A.cap = C.cap
  · rw [decide_eq_true h1, Bool.true_and] at HD
    have h1' : (A.cap == C.cap) = true := by simpa using h1
    clear h1
    go_wp2_with fail
    refine (refAll_any A.slots C.slots _ _ _ SA.out SC.out hA.slots hC.slots hA.ents hC.ents).mono ?_
    rintro e W1 ⟨rfl, hb⟩
    replace hB := Kept.mk (hB.out.trans (hb.mono hB.out.size))
    replace Va := Kept.mk (Va.out.keep hb)
    replace Vc := Kept.mk (Vc.out.keep hb)
    clear hb ka0 ka1 ka2 kc0 kc1 kc2 SA SC
    cases h2 : decide (A.slots = C.slots) with
    | true =>
      rw [h2, Bool.true_and] at HD
      obtain ⟨_, _, _, _, ia, ka0, ka1, ka2⟩ := Va.out.open_
      obtain ⟨_, _, _, _, ic, kc0, kc1, kc2⟩ := Vc.out.open_
      have IA := Kept.mk ia
      have IC := Kept.mk ic
      clear ia ic
      have f1 := hA.index
      have f2 := hC.index
      go_wp2_with fail
      refine (refInts_any A.index C.index _ _ _ IA.out IC.out (by omega) (by omega)).mono ?_
      rintro e W2 ⟨rfl, hb⟩
      replace hB := Kept.mk (hB.out.trans (hb.mono hB.out.size))
      clear hb
      cases h3 : decide (A.index = C.index) <;>
      · rw [h3] at HD
        go_wp2
        go_ret
        exact ⟨by rw [HD.out]; rfl, hB.out⟩
    | false =>
      rw [h2, Bool.false_and] at HD
      go_wp2
      go_ret
      exact ⟨by rw [HD.out]; rfl, hB.out⟩
  · rw [decide_eq_false h1, Bool.false_and] at HD
    have h1' : (A.cap == C.cap) = false := by simpa using h1
    go_wp2
    go_ret
    exact ⟨by rw [HD.out]; rfl, hB.out⟩
end Go.Proofs.YtbgconagkgfplaaGreat
end
section
namespace Go.Proofs.YtbgconagkgfplaaGreat
open Go.RowKit
set_option linter.unusedVariables false
set_option linter.unusedSimpArgs false
attribute [local irreducible] setN

/-- An entry whose rows, if it has any, are new. -/
def isEnR (B : Nat) (E : En) : VP := fun v w => ∃ vp vm, v = .agg #[.string ⟨E.key.toArray⟩, .int .i64 E.val.kind, .int .i64 E.val.time, .int .i64 E.val.node, .bool E.val.dead, .string ⟨E.val.text.toArray⟩, vp, vm, .int .u64 (E.val.flags.toNat : Int)] ∧ isCells (E.val.plus.map intC) vp w ∧ isCells (E.val.minus.map intC) vm w ∧ (E.val.plus ≠ [] → NewB B vp) ∧ (E.val.minus ≠ [] → NewB B vm)
theorem isEnR.en {B : Nat} {E : En} {v : Value} {w : World} (h : isEnR B E v w) : isEn E v w := let ⟨p, m, e, h1, h2, _, _⟩ := h; ⟨p, m, e, h1, h2⟩
theorem isEnR.low {B B' : Nat} {E : En} {v : Value} {w : World} (h : isEnR B E v w) (hB : B' ≤ B) : isEnR B' E v w := let ⟨p, m, e, h1, h2, h3, h4⟩ := h; ⟨p, m, e, h1, h2, fun x => (h3 x).low hB, fun x => (h4 x).low hB⟩
theorem stable_enR (B : Nat) (E : En) : Stable (isEnR B E) := fun v w w' ⟨p, m, e, h1, h2, h3, h4⟩ hb => ⟨p, m, e, stable_cells _ _ _ _ h1 hb, stable_cells _ _ _ _ h2 hb, h3, h4⟩
structure JS3 (w W : World) (A B : En) (pa ma pb mb : Value) : Prop where
  hb : Below w.heap.size w W
  a : Blk W w.heap.size [.string ⟨A.key.toArray⟩, .int .i64 A.val.kind, .int .i64 A.val.time, .int .i64 A.val.node, .bool A.val.dead, .string ⟨A.val.text.toArray⟩, pa, ma, .int .u64 (A.val.flags.toNat : Int)]
  b : Blk W (w.heap.size + 1) [.string ⟨B.key.toArray⟩, .int .i64 B.val.kind, .int .i64 B.val.time, .int .i64 B.val.node, .bool B.val.dead, .string ⟨B.val.text.toArray⟩, pb, mb, .int .u64 (B.val.flags.toNat : Int)]
  r : Blk W (w.heap.size + 1 + 1) [.string ⟨#[]⟩, .int .i64 0, .int .i64 0, .int .i64 0, .bool false, .string ⟨#[]⟩, .slice none 0 0, .slice none 0 0, .int .u64 0]
theorem JS3.keep {w W W' : World} {A B : En} {pa ma pb mb : Value} (h : JS3 w W A B pa ma pb mb) (k : Below W.heap.size W W') : JS3 w W' A B pa ma pb mb :=
  ⟨h.hb.trans (k.mono h.hb.size), h.a.keep k, h.b.keep k, h.r.keep k⟩
theorem js3_new (w : World) (A B : En) (pa ma pb mb : Value) : JS3 w (((w.alloc (.cells #[.string ⟨A.key.toArray⟩, .int .i64 A.val.kind, .int .i64 A.val.time, .int .i64 A.val.node, .bool A.val.dead, .string ⟨A.val.text.toArray⟩, pa, ma, .int .u64 (A.val.flags.toNat : Int)] 30)).alloc (.cells #[.string ⟨B.key.toArray⟩, .int .i64 B.val.kind, .int .i64 B.val.time, .int .i64 B.val.node, .bool B.val.dead, .string ⟨B.val.text.toArray⟩, pb, mb, .int .u64 (B.val.flags.toNat : Int)] 30)).alloc (.cells #[.string ⟨#[]⟩, .int .i64 0, .int .i64 0, .int .i64 0, .bool false, .string ⟨#[]⟩, .slice none 0 0, .slice none 0 0, .int .u64 0] 30)) A B pa ma pb mb where
  hb := (((Below.refl _ w).alloc (Nat.le_refl _) _).alloc (by simp) _).alloc (by simp; omega) _
  a := ((Blk.new w 30 _ _ rfl).alloc _).alloc _
  b := (Blk.new (w.alloc (.cells #[.string ⟨A.key.toArray⟩, .int .i64 A.val.kind, .int .i64 A.val.time, .int .i64 A.val.node, .bool A.val.dead, .string ⟨A.val.text.toArray⟩, pa, ma, .int .u64 (A.val.flags.toNat : Int)] 30)) 30 _ _ (by simp)).alloc _
  r := Blk.new ((w.alloc (.cells #[.string ⟨A.key.toArray⟩, .int .i64 A.val.kind, .int .i64 A.val.time, .int .i64 A.val.node, .bool A.val.dead, .string ⟨A.val.text.toArray⟩, pa, ma, .int .u64 (A.val.flags.toNat : Int)] 30)).alloc (.cells #[.string ⟨B.key.toArray⟩, .int .i64 B.val.kind, .int .i64 B.val.time, .int .i64 B.val.node, .bool B.val.dead, .string ⟨B.val.text.toArray⟩, pb, mb, .int .u64 (B.val.flags.toNat : Int)] 30)) 30 _ _ (by simp)
/-- .. of an entry whose rows, if it has any, stand elsewhere. -/
theorem eset2 {B g : Nat} {w0 w : World} (E : En) (vp vm : Value) (hB : B ≤ g) (hb : Below B w0 w) {old : List Value} (hc : CellsN w g old) (h9 : old.length = 9) (hp : isCells (E.val.plus.map intC) vp w) (hm : isCells (E.val.minus.map intC) vm w) (np : E.val.plus ≠ [] → blk vp ≠ some g) (nm : E.val.minus ≠ [] → blk vm ≠ some g) :
    Kept (Below B w0 (setN w g 0 [.string ⟨E.key.toArray⟩, .int .i64 E.val.kind, .int .i64 E.val.time, .int .i64 E.val.node, .bool E.val.dead, .string ⟨E.val.text.toArray⟩, vp, vm, .int .u64 (E.val.flags.toNat : Int)])) ∧ Kept (CellsN (setN w g 0 [.string ⟨E.key.toArray⟩, .int .i64 E.val.kind, .int .i64 E.val.time, .int .i64 E.val.node, .bool E.val.dead, .string ⟨E.val.text.toArray⟩, vp, vm, .int .u64 (E.val.flags.toNat : Int)]) g [.string ⟨E.key.toArray⟩, .int .i64 E.val.kind, .int .i64 E.val.time, .int .i64 E.val.node, .bool E.val.dead, .string ⟨E.val.text.toArray⟩, vp, vm, .int .u64 (E.val.flags.toNat : Int)]) ∧ Kept (isCells (E.val.plus.map intC) vp (setN w g 0 [.string ⟨E.key.toArray⟩, .int .i64 E.val.kind, .int .i64 E.val.time, .int .i64 E.val.node, .bool E.val.dead, .string ⟨E.val.text.toArray⟩, vp, vm, .int .u64 (E.val.flags.toNat : Int)])) ∧ Kept (isCells (E.val.minus.map intC) vm (setN w g 0 [.string ⟨E.key.toArray⟩, .int .i64 E.val.kind, .int .i64 E.val.time, .int .i64 E.val.node, .bool E.val.dead, .string ⟨E.val.text.toArray⟩, vp, vm, .int .u64 (E.val.flags.toNat : Int)])) ∧ Kept (Ones [.string ⟨E.key.toArray⟩, .int .i64 E.val.kind, .int .i64 E.val.time, .int .i64 E.val.node, .bool E.val.dead, .string ⟨E.val.text.toArray⟩, vp, vm, .int .u64 (E.val.flags.toNat : Int)]) := by
  have ap : ∀ (v : Value) (l : List Int), (l ≠ [] → blk v ≠ some g) → ∀ b off cap, v = .slice (some ⟨b, off, none⟩) (l.map intC).length cap → l.map intC ≠ [] → b ≠ g := by
    rintro v l h b off cap rfl hne rfl
    exact h (fun e => hne (by rw [e]; rfl)) rfl
  exact ⟨⟨below_setN hB _ 0 _ hb⟩, ⟨hc.setN_ _ h9⟩, ⟨cells_apart hp (ap vp _ np) _ _⟩, ⟨cells_apart hm (ap vm _ nm) _ _⟩, ⟨⟨rfl, rfl, rfl, rfl, rfl, rfl, hp.one, hm.one, rfl, trivial⟩⟩⟩
set_option maxRecDepth 100000 in
set_option maxHeartbeats 4000000 in
theorem rejoinR_en (A B : En) (v u : Value) (w : World) (hv : isEn A v w) (hu : isEn B u w) (hA : FitE A) (hF : FitE B) : Calls Tryz.prog 103 #[v, u] w fun e w' => ∃ v', e = .returned (.tuple #[v', .int .i64 (joinEE A B)]) ∧ isEnR w.heap.size (joinEF A B) v' w' ∧ Below w.heap.size w w' := by
  obtain ⟨pa, ma, rfl, hpa, hma⟩ := hv
  obtain ⟨pb, mb, rfl, hpb, hmb⟩ := hu
  have HPA := Kept.mk hpa
  have HMA := Kept.mk hma
  have HPB := Kept.mk hpb
  have HMB := Kept.mk hmb
  clear hpa hma hpb hmb
  have J := Kept.mk (js3_new w A B pa ma pb mb)
  have hsz := J.out.r.lt
  have ka0 := J.out.a.cells.2 0 _ rfl
  have ka1 := J.out.a.cells.2 1 _ rfl
  have ka2 := J.out.a.cells.2 2 _ rfl
  have ka3 := J.out.a.cells.2 3 _ rfl
  have ka4 := J.out.a.cells.2 4 _ rfl
  have ka5 := J.out.a.cells.2 5 _ rfl
  have ka6 := J.out.a.cells.2 6 _ rfl
  have ka7 := J.out.a.cells.2 7 _ rfl
  have ka8 := J.out.a.cells.2 8 _ rfl
  go_enter Tryz.func103, Tryz.ntmps103
  go_wp2_with fail
  clear ka0 ka1 ka2 ka3 ka4 ka5 ka6 ka7 ka8
  generalize (((w.alloc (.cells #[.string ⟨A.key.toArray⟩, .int .i64 A.val.kind, .int .i64 A.val.time, .int .i64 A.val.node, .bool A.val.dead, .string ⟨A.val.text.toArray⟩, pa, ma, .int .u64 (A.val.flags.toNat : Int)] 30)).alloc (.cells #[.string ⟨B.key.toArray⟩, .int .i64 B.val.kind, .int .i64 B.val.time, .int .i64 B.val.node, .bool B.val.dead, .string ⟨B.val.text.toArray⟩, pb, mb, .int .u64 (B.val.flags.toNat : Int)] 30)).alloc (.cells #[.string ⟨#[]⟩, .int .i64 0, .int .i64 0, .int .i64 0, .bool false, .string ⟨#[]⟩, .slice none 0 0, .slice none 0 0, .int .u64 0] 30)) = W0 at *
  refine (rechk_any A _ W0 ⟨pa, ma, rfl, stable_cells _ _ _ _ HPA.out J.out.hb, stable_cells _ _ _ _ HMA.out J.out.hb⟩ hA).mono ?_
  rintro e W1 ⟨rfl, hb⟩
  replace J := Kept.mk (J.out.keep hb)
  clear hb
  cases oa : okE A with
  | false =>
    have HO := Kept.mk oa
    clear oa
    have KZ : Kept (Ones [.string ⟨#[]⟩, .int .i64 0, .int .i64 0, .int .i64 0, .bool false, .string ⟨#[]⟩, .slice none 0 0, .slice none 0 0, .int .u64 0]) := ⟨⟨rfl, rfl, rfl, rfl, rfl, rfl, rfl, rfl, rfl, trivial⟩⟩
    go_wp2_with (refine wpList_storeN 30 rfl (.tmp 4) (.tmp 16) rfl (w.heap.size + 1 + 1) [.string ⟨#[]⟩, .int .i64 0, .int .i64 0, .int .i64 0, .bool false, .string ⟨#[]⟩, .slice none 0 0, .slice none 0 0, .int .u64 0] size_en rfl rfl J.out.r.cells rfl J.out.r.free KZ.out ?_)
    have e1 : joinEE A B = 2 := by unfold joinEE; rw [HO.out]; rfl
    have e2 : joinEF A B = zeroE := by unfold joinEF; rw [e1]; rfl
    rw [e1, e2]
    exact bodyPost_ret (resultsN2 rfl _ _ (w.heap.size + 1 + 1) _ (.int .i64 2) size_en agg_en rfl rfl (J.out.r.all_ rfl).cells) rfl ⟨_, rfl, ⟨.slice none 0 0, .slice none 0 0, rfl, .inl ⟨rfl, rfl⟩, .inl ⟨rfl, rfl⟩, fun h => absurd rfl h, fun h => absurd rfl h⟩, below_setN (by omega) _ 0 _ J.out.hb⟩
  | true =>
    have P1 := Kept.mk oa
    clear oa
    have kb0 := J.out.b.cells.2 0 _ rfl
    have kb1 := J.out.b.cells.2 1 _ rfl
    have kb2 := J.out.b.cells.2 2 _ rfl
    have kb3 := J.out.b.cells.2 3 _ rfl
    have kb4 := J.out.b.cells.2 4 _ rfl
    have kb5 := J.out.b.cells.2 5 _ rfl
    have kb6 := J.out.b.cells.2 6 _ rfl
    have kb7 := J.out.b.cells.2 7 _ rfl
    have kb8 := J.out.b.cells.2 8 _ rfl
    go_wp2_with fail
    clear kb0 kb1 kb2 kb3 kb4 kb5 kb6 kb7 kb8
    refine (rechk_any B _ W1 ⟨pb, mb, rfl, stable_cells _ _ _ _ HPB.out J.out.hb, stable_cells _ _ _ _ HMB.out J.out.hb⟩ hF).mono ?_
    rintro e W2 ⟨rfl, hb⟩
    replace J := Kept.mk (J.out.keep hb)
    clear hb
    cases ob : okE B with
    | false =>
      have HO := Kept.mk ob
      clear ob
      have KZ : Kept (Ones [.string ⟨#[]⟩, .int .i64 0, .int .i64 0, .int .i64 0, .bool false, .string ⟨#[]⟩, .slice none 0 0, .slice none 0 0, .int .u64 0]) := ⟨⟨rfl, rfl, rfl, rfl, rfl, rfl, rfl, rfl, rfl, trivial⟩⟩
      go_wp2_with (refine wpList_storeN 30 rfl (.tmp 4) (.tmp 16) rfl (w.heap.size + 1 + 1) [.string ⟨#[]⟩, .int .i64 0, .int .i64 0, .int .i64 0, .bool false, .string ⟨#[]⟩, .slice none 0 0, .slice none 0 0, .int .u64 0] size_en rfl rfl J.out.r.cells rfl J.out.r.free KZ.out ?_)
      have e1 : joinEE A B = 2 := by unfold joinEE; rw [HO.out, Bool.and_false]; rfl
      have e2 : joinEF A B = zeroE := by unfold joinEF; rw [e1]; rfl
      rw [e1, e2]
      exact bodyPost_ret (resultsN2 rfl _ _ (w.heap.size + 1 + 1) _ (.int .i64 2) size_en agg_en rfl rfl (J.out.r.all_ rfl).cells) rfl ⟨_, rfl, ⟨.slice none 0 0, .slice none 0 0, rfl, .inl ⟨rfl, rfl⟩, .inl ⟨rfl, rfl⟩, fun h => absurd rfl h, fun h => absurd rfl h⟩, below_setN (by omega) _ 0 _ J.out.hb⟩
    | true =>
      have P2 := Kept.mk ob
      clear ob
      have ka0 := J.out.a.cells.2 0 _ rfl
      have ka1 := J.out.a.cells.2 1 _ rfl
      have ka2 := J.out.a.cells.2 2 _ rfl
      have ka3 := J.out.a.cells.2 3 _ rfl
      have ka4 := J.out.a.cells.2 4 _ rfl
      have ka5 := J.out.a.cells.2 5 _ rfl
      have ka6 := J.out.a.cells.2 6 _ rfl
      have ka7 := J.out.a.cells.2 7 _ rfl
      have ka8 := J.out.a.cells.2 8 _ rfl
      have kb0 := J.out.b.cells.2 0 _ rfl
      have kb1 := J.out.b.cells.2 1 _ rfl
      have kb2 := J.out.b.cells.2 2 _ rfl
      have kb3 := J.out.b.cells.2 3 _ rfl
      have kb4 := J.out.b.cells.2 4 _ rfl
      have kb5 := J.out.b.cells.2 5 _ rfl
      have kb6 := J.out.b.cells.2 6 _ rfl
      have kb7 := J.out.b.cells.2 7 _ rfl
      have kb8 := J.out.b.cells.2 8 _ rfl
      go_wp2_with fail
      clear ka0 ka1 ka2 ka3 ka4 ka5 ka6 ka7 ka8
      clear kb0 kb1 kb2 kb3 kb4 kb5 kb6 kb7 kb8
      refine (rname_any A B _ _ W2 ⟨pa, ma, rfl, stable_cells _ _ _ _ HPA.out J.out.hb, stable_cells _ _ _ _ HMA.out J.out.hb⟩ ⟨pb, mb, rfl, stable_cells _ _ _ _ HPB.out J.out.hb, stable_cells _ _ _ _ HMB.out J.out.hb⟩).mono ?_
      rintro e W3 ⟨rfl, hb⟩
      replace J := Kept.mk (J.out.keep hb)
      clear hb
      cases on : nameB A B with
      | false =>
        have HO := Kept.mk on
        clear on
        have KZ : Kept (Ones [.string ⟨#[]⟩, .int .i64 0, .int .i64 0, .int .i64 0, .bool false, .string ⟨#[]⟩, .slice none 0 0, .slice none 0 0, .int .u64 0]) := ⟨⟨rfl, rfl, rfl, rfl, rfl, rfl, rfl, rfl, rfl, trivial⟩⟩
        go_wp2_with (refine wpList_storeN 30 rfl (.tmp 4) (.tmp 21) rfl (w.heap.size + 1 + 1) [.string ⟨#[]⟩, .int .i64 0, .int .i64 0, .int .i64 0, .bool false, .string ⟨#[]⟩, .slice none 0 0, .slice none 0 0, .int .u64 0] size_en rfl rfl J.out.r.cells rfl J.out.r.free KZ.out ?_)
        have e1 : joinEE A B = 3 := by unfold joinEE; rw [P1.out, P2.out, HO.out]; rfl
        have e2 : joinEF A B = zeroE := by unfold joinEF; rw [e1]; rfl
        rw [e1, e2]
        exact bodyPost_ret (resultsN2 rfl _ _ (w.heap.size + 1 + 1) _ (.int .i64 3) size_en agg_en rfl rfl (J.out.r.all_ rfl).cells) rfl ⟨_, rfl, ⟨.slice none 0 0, .slice none 0 0, rfl, .inl ⟨rfl, rfl⟩, .inl ⟨rfl, rfl⟩, fun h => absurd rfl h, fun h => absurd rfl h⟩, below_setN (by omega) _ 0 _ J.out.hb⟩
      | true =>
        have HN := Kept.mk on
        clear on
        have hsz3 := J.out.r.lt
        have ka0 := J.out.a.cells.2 0 _ rfl
        have ka1 := J.out.a.cells.2 1 _ rfl
        have ka2 := J.out.a.cells.2 2 _ rfl
        have ka3 := J.out.a.cells.2 3 _ rfl
        have ka4 := J.out.a.cells.2 4 _ rfl
        have ka5 := J.out.a.cells.2 5 _ rfl
        have ka6 := J.out.a.cells.2 6 _ rfl
        have ka7 := J.out.a.cells.2 7 _ rfl
        have ka8 := J.out.a.cells.2 8 _ rfl
        have kb0 := J.out.b.cells.2 0 _ rfl
        have kb1 := J.out.b.cells.2 1 _ rfl
        have kb2 := J.out.b.cells.2 2 _ rfl
        have kb3 := J.out.b.cells.2 3 _ rfl
        have kb4 := J.out.b.cells.2 4 _ rfl
        have kb5 := J.out.b.cells.2 5 _ rfl
        have kb6 := J.out.b.cells.2 6 _ rfl
        have kb7 := J.out.b.cells.2 7 _ rfl
        have kb8 := J.out.b.cells.2 8 _ rfl
        go_wp2_with fail
        clear ka0 ka1 ka2 ka3 ka4 ka5 ka6 ka7 ka8
        clear kb0 kb1 kb2 kb3 kb4 kb5 kb6 kb7 kb8
        refine (rjoinR_any A.val B.val _ _ W3 ⟨pa, ma, rfl, stable_cells _ _ _ _ HPA.out J.out.hb, stable_cells _ _ _ _ HMA.out J.out.hb⟩ ⟨pb, mb, rfl, stable_cells _ _ _ _ HPB.out J.out.hb, stable_cells _ _ _ _ HMB.out J.out.hb⟩ hA.val hF.val).mono ?_
        rintro e U ⟨v', rfl, ⟨p', m', rfl, hp', hm', np, nm⟩, hb⟩
        replace J := Kept.mk (J.out.keep hb)
        clear hb
        obtain ⟨K1, K2, K3, K4, K5⟩ := vnew U (joinF A.val B.val) p' m' hp' hm' U.heap.size rfl
        have NP := Kept.mk np
        have NM := Kept.mk nm
        clear hp' hm' np nm
        generalize joinE A.val B.val = je
        go_wp2_with (first | (have hz0 := K1; refine wpList_storeN 28 rfl (.tmp 6) (.tmp 28) rfl U.heap.size [.int .i64 (joinF A.val B.val).kind, .int .i64 (joinF A.val B.val).time, .int .i64 (joinF A.val B.val).node, .bool (joinF A.val B.val).dead, .string ⟨(joinF A.val B.val).text.toArray⟩, p', m', .int .u64 ((joinF A.val B.val).flags.toNat : Int)] size_va rfl rfl K1.out rfl K2.out K5.out ?_; replace J := Kept.mk (J.out.keep K3.out); clear hz0 K1 K2 K3 K5; generalize setN (U.alloc (.cells #[.int .i64 0, .int .i64 0, .int .i64 0, .bool false, .string ⟨#[]⟩, .slice none 0 0, .slice none 0 0, .int .u64 0] 28)) U.heap.size 0 [.int .i64 (joinF A.val B.val).kind, .int .i64 (joinF A.val B.val).time, .int .i64 (joinF A.val B.val).node, .bool (joinF A.val B.val).dead, .string ⟨(joinF A.val B.val).text.toArray⟩, p', m', .int .u64 ((joinF A.val B.val).flags.toNat : Int)] = W4 at *; obtain ⟨Q1, Q2, Q3, Q4, Q5⟩ := eset2 (⟨A.key, joinF A.val B.val⟩ : En) p' m' (g := w.heap.size + 1 + 1) (B := w.heap.size) (by omega) J.out.hb J.out.r.cells rfl K4.out.2.1 K4.out.2.2 (fun h => (NP.out h).ne (by omega)) (fun h => (NM.out h).ne (by omega)); have ka0 := J.out.a.cells.2 0 _ rfl; have kg0 := K4.out.1.2 0 _ rfl; have kg1 := K4.out.1.2 1 _ rfl; have kg2 := K4.out.1.2 2 _ rfl; have kg3 := K4.out.1.2 3 _ rfl; have kg4 := K4.out.1.2 4 _ rfl; have kg5 := K4.out.1.2 5 _ rfl; have kg6 := K4.out.1.2 6 _ rfl; have kg7 := K4.out.1.2 7 _ rfl) | (have hz1 := Q5; refine wpList_storeN 30 rfl (.tmp 4) (.tmp 33) rfl (w.heap.size + 1 + 1) [.string ⟨A.key.toArray⟩, .int .i64 (joinF A.val B.val).kind, .int .i64 (joinF A.val B.val).time, .int .i64 (joinF A.val B.val).node, .bool (joinF A.val B.val).dead, .string ⟨(joinF A.val B.val).text.toArray⟩, p', m', .int .u64 ((joinF A.val B.val).flags.toNat : Int)] size_en rfl rfl J.out.r.cells rfl J.out.r.free Q5.out ?_; clear hz1 Q5))
        have e1 : joinEE A B = 0 := by unfold joinEE; rw [P1.out, P2.out, HN.out]; rfl
        have hk : A.val.kind = B.val.kind := by have := HN.out; unfold nameB at this; rw [Bool.and_eq_true, decide_eq_true_eq] at this; exact this.1
        have e3 : joinE A.val B.val = 0 := by
          have h1 := P1.out; have h2 := P2.out; unfold okE at h1 h2; rw [Bool.and_eq_true] at h1 h2; unfold joinE; rw [h1.2, h2.2, Bool.and_self, if_pos rfl, if_pos hk]
        have e2 : joinEF A B = ⟨A.key, joinF A.val B.val⟩ := by unfold joinEF joinF; rw [if_pos e1, if_pos e3]
        rw [e1, e2]
        exact bodyPost_ret (resultsN2 rfl _ _ (w.heap.size + 1 + 1) _ (.int .i64 0) size_en agg_en rfl rfl Q2.out) rfl ⟨_, rfl, ⟨p', m', rfl, Q3.out, Q4.out, fun h => (NP.out h).low (by omega), fun h => (NM.out h).low (by omega)⟩, Q1.out⟩
end Go.Proofs.YtbgconagkgfplaaGreat
end
section
namespace Go.Proofs.YtbgconagkgfplaaGreat
open Go.RowKit
set_option linter.unusedVariables false
set_option linter.unusedSimpArgs false

section
variable {P : Program} {ops : Array Oper} {base : World} {a0 : Act} {Q : Exit → Act → World → Prop} {s0 : Nat} {ups : List Nat} {kn0 kn1 : Nat → VP}

/-- What is known where: ahead of operation s0, and behind it. -/
def PhaseInv (ops : Array Oper) (base : World) (s0 : Nat) (kn0 kn1 : Nat → VP) (listed : Array Bool) (a : Act) (w : World) : Prop :=
  (listed.getD s0 false = false ∧ Below base.heap.size base w ∧ ∀ j, listed.getD j false = true → FDone ops kn0 a w j) ∨
  (listed.getD s0 false = true ∧ ∃ w1, Below base.heap.size base w1 ∧ Below w1.heap.size w1 w ∧ ∀ j, listed.getD j false = true → FDone ops kn1 a w j)

theorem fdone_put {kn : Nat → VP} (hok : flowOk ops a0.tmps.size = true) {i : Nat} {o : Oper} {a : Act} {w w' : World} {v : Value} (ho : ops[i]? = some o) (hk : FKept ops a0 a) (hV : kn i v w') (hb : Below w.heap.size w w') {j : Nat} (hst : j ≠ i → Stable (kn j)) (hd : j ≠ i → FDone ops kn a w j) : FDone ops kn (a.put o.dst v) w' j := by
  obtain ⟨ok1, ok2, ok3⟩ := flowOk_spec hok
  intro o' ho' t ht
  by_cases e : j = i
  · subst e
    rw [ho] at ho'
    cases ho'
    rw [ht, getD_put_self (by rw [hk.2.1]; exact ok3 j o t ho ht)]
    exact hV
  · have hne : o.dst ≠ some t := fun hh => e (ok2 j i o' o t ho' ho ht hh)
    have hold := hd e o' ho' t ht
    have hslot : (a.put o.dst v).tmps.getD t undef = a.tmps.getD t undef := by
      cases hdst : o.dst with
      | none => rfl
      | some s => exact getD_put (fun h => hne (by rw [hdst, h]))
    rw [hslot]
    exact hst e _ _ _ hold hb
theorem kept_put {i : Nat} {o : Oper} {a : Act} {v : Value} (ho : ops[i]? = some o) (hk : FKept ops a0 a) : FKept ops a0 (a.put o.dst v) := by
  refine ⟨by rw [defers_put]; exact hk.1, by rw [size_put]; exact hk.2.1, fun t ht => ?_⟩
  cases hdst : o.dst with
  | none => simp only [Act.put]; exact hk.2.2 t ht
  | some s =>
    have : s ≠ t := by
      rintro rfl
      have := List.all_eq_true.1 ht o (by rw [Array.mem_toList_iff]; exact Array.mem_of_getElem? ho)
      rw [hdst] at this
      simp at this
    rw [getD_put (fun h => this h.symm)]
    exact hk.2.2 t ht

theorem wpAny_phase (hA : ancOk ops s0 ups = true) (hok : flowOk ops a0.tmps.size = true) (hs0 : s0 < ops.size) (hdn : (ops[s0]?).bind (·.dst) = none)
    (h0 : ∀ m, m < ops.size → m ≠ s0 → FStep P ops base a0 Q kn0 m (kn0 m)) (hst : ∀ m, Stable (kn1 m))
    (hs : ∀ o, ops[s0]? = some o → ∀ a w, FKept ops a0 a → Below base.heap.size base w → FDeps ops kn0 s0 a w → wpOp P ops Q s0 (fun a' w' => ∃ v, a' = a.put o.dst v ∧ Below base.heap.size base w' ∧
      ∀ (j : Nat) (oj : Oper) (t : Tmp), j ≠ s0 → ops[j]? = some oj → oj.dst = some t → kn0 j (a.tmps.getD t undef) w → kn1 j (a.tmps.getD t undef) w') a w)
    (h1 : ∀ w1, Below base.heap.size base w1 → ∀ m, m < ops.size → m ≠ s0 → m ∉ ups → FStep P ops w1 a0 Q kn1 m (kn1 m))
    (he : ∀ a w, FKept ops a0 a → Below base.heap.size base w → (∀ j, j < ops.size → FDone ops kn1 a w j) → Q .normal a w) :
    ∀ (fuel : Nat) (listed : Array Bool) (a : Act) (w : World), listed.size = ops.size → ((List.range ops.size).filter fun i => !listed.getD i false).length ≤ fuel → FKept ops a0 a →
      (∀ j, listed.getD j false = true → ∀ m, waits ops j m = true → listed.getD m false = true) → PhaseInv ops base s0 kn0 kn1 listed a w → wpAny P .any ops Q fuel listed a w := by
  obtain ⟨ok1, ok2, ok3⟩ := flowOk_spec hok
  have allDone : ∀ (listed : Array Bool), listed.size = ops.size → Region.ready .any ops listed = [] → ∀ j, j < ops.size → listed.getD j false = true := by
    intro listed hl hr
    have key : ∀ m, ∀ j, j ≤ m → j < ops.size → listed.getD j false = true := by
      intro m
      induction m with
      | zero =>
        intro j hj hjs
        obtain rfl : j = 0 := by omega
        cases hc : listed.getD 0 false with
        | true => rfl
        | false => have := ready_of hok hl hjs hc (fun j hj => absurd hj (by omega)); rw [hr] at this; cases this
      | succ m ih =>
        intro j hj hjs
        by_cases e : j ≤ m
        · exact ih j e hjs
        · obtain rfl : j = m + 1 := by omega
          cases hc : listed.getD (m + 1) false with
          | true => rfl
          | false => have := ready_of hok hl hjs hc (fun j hj => ih j (by omega) (by omega)); rw [hr] at this; cases this
    exact fun j hj => key j j (Nat.le_refl _) hj
  have fin : ∀ (listed : Array Bool) (a : Act) (w : World), listed.size = ops.size → FKept ops a0 a → PhaseInv ops base s0 kn0 kn1 listed a w → Region.ready .any ops listed = [] → Q .normal a w := by
    intro listed a w hl hk hi hr
    have hall := allDone listed hl hr
    rcases hi with ⟨h, _⟩ | ⟨_, w1, hb1, hb2, hd⟩
    · rw [hall s0 hs0] at h; cases h
    · exact he a w hk (hb1.trans (hb2.mono hb1.size)) (fun j hj => hd j (hall j hj))
  intro fuel
  induction fuel with
  | zero =>
    intro listed a w hl hf hk hcl hi
    have hr : Region.ready .any ops listed = [] := by
      cases hc : Region.ready .any ops listed with
      | nil => rfl
      | cons i r =>
        have hu := ready_un (i := i) hl (by rw [hc]; simp)
        have h0 : ((List.range ops.size).filter fun i => !listed.getD i false) = [] := List.eq_nil_of_length_eq_zero (by omega)
        rw [List.filter_eq_nil_iff] at h0
        have := h0 i (by simpa using hu.1)
        rw [hu.2] at this
        simp at this
    exact ⟨hr, fin listed a w hl hk hi hr⟩
  | succ fuel ih =>
    intro listed a w hl hf hk hcl hi
    refine ⟨fun hr => fin listed a w hl hk hi hr, fun i hir => ?_⟩
    have hiu := ready_un hl hir
    obtain ⟨o, ho⟩ : ∃ o, ops[i]? = some o := ⟨_, Array.getElem?_eq_getElem hiu.1⟩
    have hlt : i < listed.size := by omega
    have deps : ∀ (kn : Nat → VP), (∀ j, listed.getD j false = true → FDone ops kn a w j) → FDeps ops kn i a w := by
      intro kn hd o' ho' e he' hbd
      rw [ho] at ho'
      cases ho'
      refine hd e.on (waits_ready hir ?_)
      unfold waits
      rw [ho]
      simp only [Option.any_some, List.any_eq_true, Bool.and_eq_true, beq_iff_eq]
      exact ⟨e, he', rfl, hbd⟩
    have count : ((List.range ops.size).filter fun j => !(listed.setIfInBounds i true).getD j false).length ≤ fuel := by
      have hsub : ((List.range ops.size).filter fun j => !(listed.setIfInBounds i true).getD j false).length < ((List.range ops.size).filter fun j => !listed.getD j false).length := by
        have e1 : ((List.range ops.size).filter fun j => !(listed.setIfInBounds i true).getD j false) = ((List.range ops.size).filter fun j => !listed.getD j false).filter (fun j => j != i) := by
          rw [List.filter_filter]
          apply List.filter_congr
          intro j hj
          by_cases e : j = i
          · subst e; rw [getD_set_same (by omega)]; simp
          · rw [getD_set_ne e]; simp [e]
        rw [e1]
        refine List.length_filter_lt_length_iff_exists.2 ⟨i, ?_, by simp⟩
        simp only [List.mem_filter, List.mem_range]
        exact ⟨hiu.1, by rw [hiu.2]; rfl⟩
      omega
    have closed : ∀ j, (listed.setIfInBounds i true).getD j false = true → ∀ m, waits ops j m = true → (listed.setIfInBounds i true).getD m false = true := by
      intro j hj m' hm'
      by_cases e4 : m' = i
      · subst e4; exact getD_set_same (by omega)
      · rw [getD_set_ne e4]
        by_cases e5 : j = i
        · subst e5; exact waits_ready hir hm'
        · rw [getD_set_ne e5] at hj; exact hcl j hj m' hm'
    have next : ∀ a' w', FKept ops a0 a' → PhaseInv ops base s0 kn0 kn1 (listed.setIfInBounds i true) a' w' → wpAny P .any ops Q fuel (listed.setIfInBounds i true) a' w' := fun a' w' hk' hi' => ih _ a' w' (by simpa using hl) count hk' closed hi'
    by_cases e : i = s0
    · subst e
      rcases hi with ⟨hp, hb, hd⟩ | ⟨hp, _⟩
      · refine wpOp_mono ?_ (hs o ho a w hk hb (deps kn0 hd))
        rintro a' w' ⟨v, rfl, hbw, hj⟩
        refine next _ w' (kept_put ho hk) (.inr ⟨getD_set_same (by omega), w', hbw, Below.refl _ _, fun j hjl => ?_⟩)
        have hno : o.dst = none := by rw [ho] at hdn; simpa using hdn
        intro o' ho' t ht
        by_cases ej : j = i
        · subst ej; rw [ho] at ho'; cases ho'; rw [hno] at ht; cases ht
        · rw [getD_set_ne ej] at hjl
          have := hj j o' t ej ho' ht (hd j hjl o' ho' t ht)
          rw [hno]
          exact this
      · rw [hiu.2] at hp; cases hp
    · have es : (listed.setIfInBounds i true).getD s0 false = listed.getD s0 false := getD_set_ne (fun h => e h.symm)
      rcases hi with ⟨hp, hb, hd⟩ | ⟨hp, w1, hb1, hb2, hd⟩
      · refine wpOp_mono ?_ ((h0 i hiu.1 e).2 o ho a w hk hb (deps kn0 hd))
        rintro a' w' ⟨v, rfl, hV, hbw⟩
        refine next _ w' (kept_put ho hk) (.inl ⟨by rw [es]; exact hp, hb.trans (hbw.mono hb.size), fun j hj => ?_⟩)
        refine fdone_put hok ho hk hV hbw (fun ej => ?_) (fun ej => ?_)
        · have hj' : listed.getD j false = true := by rwa [getD_set_ne ej] at hj
          have hne : j ≠ s0 := by rintro rfl; rw [hp] at hj'; cases hj'
          have hjs : j < ops.size := by
            by_cases h : j < ops.size
            · exact h
            · rw [Array.getD_eq_getD_getElem?, Array.getElem?_eq_none (by omega)] at hj'; cases hj'
          exact (h0 j hjs hne).1
        · exact hd j (by rwa [getD_set_ne ej] at hj)
      · have hnu : i ∉ ups := fun hu => by rw [unlisted hA hcl hiu.2 (.inr hu)] at hp; cases hp
        refine wpOp_mono ?_ ((h1 w1 hb1 i hiu.1 e hnu).2 o ho a w hk hb2 (deps kn1 hd))
        rintro a' w' ⟨v, rfl, hV, hbw⟩
        exact next _ w' (kept_put ho hk) (.inr ⟨by rw [es]; exact hp, w1, hb1, hb2.trans (hbw.mono hb2.size), fun j hj => fdone_put hok ho hk hV hbw (fun _ => hst j) (fun ej => hd j (by rwa [getD_set_ne ej] at hj))⟩)

/-- THE LAW. -/
theorem wp_region_phase {id : Nat} {a : Act} {w : World} (s0 : Nat) (ups : List Nat) (kn0 kn1 : Nat → VP) (hm : P.follows .mixedOrders = true) (hA : ancOk ops s0 ups = true) (hok : flowOk ops a.tmps.size = true) (hs0 : s0 < ops.size) (hdn : (ops[s0]?).bind (·.dst) = none)
    (h0 : ∀ m, m < ops.size → m ≠ s0 → FStep P ops w a Q kn0 m (kn0 m)) (hst : ∀ m, Stable (kn1 m))
    (hs : ∀ o, ops[s0]? = some o → ∀ a' w', FKept ops a a' → Below w.heap.size w w' → FDeps ops kn0 s0 a' w' → wpOp P ops Q s0 (fun a2 w2 => ∃ v, a2 = a'.put o.dst v ∧ Below w.heap.size w w2 ∧
      ∀ (j : Nat) (oj : Oper) (t : Tmp), j ≠ s0 → ops[j]? = some oj → oj.dst = some t → kn0 j (a'.tmps.getD t undef) w' → kn1 j (a'.tmps.getD t undef) w2) a' w')
    (h1 : ∀ w1, Below w.heap.size w w1 → ∀ m, m < ops.size → m ≠ s0 → m ∉ ups → FStep P ops w1 a Q kn1 m (kn1 m))
    (he : ∀ a' w', FKept ops a a' → Below w.heap.size w w' → (∀ j, j < ops.size → FDone ops kn1 a' w' j) → Q .normal a' w') : (Code.region id ops true).wp P Q a w := by
  refine wp_region_any hm ?_
  refine wpAny_phase hA hok hs0 hdn h0 hst hs h1 he ops.size _ a _ (by simp) ?_ ⟨rfl, rfl, fun _ _ => rfl⟩ ?_ (.inl ⟨?_, (Below.refl _ w).drew, ?_⟩)
  · exact Nat.le_trans (List.length_filter_le _ _) (by simp)
  · intro j hj
    simp [Array.getD_eq_getD_getElem?, Array.getElem?_replicate] at hj
    split at hj <;> simp at hj
  · simp [Array.getD_eq_getD_getElem?, Array.getElem?_replicate]
    split <;> simp
  · intro j hj
    simp [Array.getD_eq_getD_getElem?, Array.getElem?_replicate] at hj
    split at hj <;> simp at hj
end
end Go.Proofs.YtbgconagkgfplaaGreat
end
section
namespace Go.Proofs.YtbgconagkgfplaaGreat
open Go.RowKit
set_option linter.unusedVariables false
set_option linter.unusedSimpArgs false

def anyV : VP := fun _ _ => True
theorem stable_any : Stable anyV := fun _ _ _ _ _ => trivial
/-- A new variable of type T, as it was laid down. -/
def isNewS (T : TypeId) (z : List Value) (B : Nat) : VP := fun v w => ∃ g, v = .pointer (some ⟨g, 0, none⟩) ∧ B ≤ g ∧ w.heap[g]? = some (.cells z.toArray T (0, 0))
theorem stable_newS (T : TypeId) (z : List Value) (B : Nat) : Stable (isNewS T z B) := fun v w w' ⟨g, e, hg, hc⟩ hb => ⟨g, e, hg, (hb.block g (Array.getElem?_eq_some_iff.1 hc).1).trans hc⟩
theorem cellsN_of {w : World} {g : Nat} {z : List Value} {T : TypeId} (h : w.heap[g]? = some (.cells z.toArray T (0, 0))) : CellsN w g z ∧ Free5 w g := by
  refine ⟨⟨(Array.getElem?_eq_some_iff.1 h).1, fun j x hx => ?_⟩, fun j => ?_⟩
  · simp [World.cell?, h, hx]
  · simp [World.frozen?, h]
def isTup2 (K : VP) (e : Value) : VP := fun v w => ∃ x, v = .tuple #[x, e] ∧ K x w
def isTup3 (K : VP) (e f : Value) : VP := fun v w => ∃ x, v = .tuple #[x, e, f] ∧ K x w
theorem stable_tup2 {K : VP} (h : Stable K) (e : Value) : Stable (isTup2 K e) := fun v w w' ⟨x, e1, hx⟩ hb => ⟨x, e1, h _ _ _ hx hb⟩
section
variable {P : Program} {ops : Array Oper} {base : World} {a0 : Act} {Q : Exit → Act → World → Prop} {kn : Nat → VP} {i : Nat} {K : VP}
theorem step_ext20 (e : Value) (x : Operand) (hst : Stable K) (hop : (ops[i]?).map (·.op) = some (.extract x 0)) (hw : Wanted ops a0 kn i) (hx : Knows ops a0 kn i x (isTup2 K e)) : FStep P ops base a0 Q kn i K :=
  step_mk hst hw fun o ho a w hk hb hd => by
    obtain ⟨v, e1, hv⟩ := hx a w hk hd
    unfold Oper.wp execOp
    rw [op_of hop ho]
    simp only [e1]
    exact ⟨v, rfl, hv, Below.refl _ _⟩
theorem step_ext21 (e : Value) (x : Operand) (hop : (ops[i]?).map (·.op) = some (.extract x 1)) (hw : Wanted ops a0 kn i) (hx : Knows ops a0 kn i x (isTup2 K e)) : FStep P ops base a0 Q kn i (isVal e) :=
  step_mk (stable_val _) hw fun o ho a w hk hb hd => by
    obtain ⟨v, e1, hv⟩ := hx a w hk hd
    unfold Oper.wp execOp
    rw [op_of hop ho]
    simp only [e1]
    exact ⟨_, rfl, rfl, Below.refl _ _⟩
theorem step_movP (x : Operand) (hst : Stable K) (hop : (ops[i]?).map (·.op) = some (.move x)) (hw : Wanted ops a0 kn i) (hx : Knows ops a0 kn i x K) : FStep P ops base a0 Q kn i K := step_move x hop hw hst hx
theorem step_asgP (x : Operand) (hst : Stable K) (hop : (ops[i]?).map (·.op) = some (.assign x)) (hw : Wanted ops a0 kn i) (hx : Knows ops a0 kn i x K) : FStep P ops base a0 Q kn i K := step_assign x hop hw hst hx
theorem step_newS (T : TypeId) (z : List Value) (B : Nat) (hB : B ≤ base.heap.size) (hop : (ops[i]?).map (·.op) = some (.alloc T)) (hw : Wanted ops a0 kn i)
    (hz : ∀ w, (Instr.alloc T true (.tuple #[])).run P w = .ok (.pointer (some ⟨w.heap.size, 0, none⟩)) (w.alloc (.cells z.toArray T))) : FStep P ops base a0 Q kn i (isNewS T z B) :=
  step_mk (stable_newS T z B) hw fun o ho a w hk hb hd => by
    unfold Oper.wp execOp
    rw [op_of hop ho]
    simp only [Sem.run_bind, hz, Result.andThen_ok, Sem.run_pure, Oper.upon]
    refine ⟨_, rfl, ⟨w.heap.size, rfl, Nat.le_trans hB hb.size, ?_⟩, (Below.refl _ _).alloc (Nat.le_refl _) _⟩
    exact heap_alloc_new w _
end
section
variable {P : Program} {ops : Array Oper} {base : World} {a0 : Act} {Q : Exit → Act → World → Prop} {s0 : Nat} {kn0 kn1 : Nat → VP}
/-- The store into it. -/
theorem phase_store (T : TypeId) (p y : Tmp) (z : List Value) (K : VP) (pj : Nat) (hop : (ops[s0]?).map (fun o => (o.op, o.guard, o.dst)) = some (.store T (.tmp p) (.tmp y), none, none))
    (hx : Knows ops a0 kn0 s0 (.tmp p) (isNewS T z base.heap.size)) (hy : Knows ops a0 kn0 s0 (.tmp y) K) (hK : ∀ v w, K v w → ∃ l : List Value, v = .agg l.toArray ∧ l.length = z.length ∧ Ones l) (hs : (P.info? T).map (·.size) = some z.length)
    (hpj : (ops[pj]?).bind (·.dst) = some p) (htr : ∀ j, j ≠ s0 → j ≠ pj → ∀ v w w', kn0 j v w → kn1 j v w')
    (hnew : ∀ g (l : List Value) w, base.heap.size ≤ g → w.heap[g]? = some (.cells z.toArray T (0, 0)) → K (.agg l.toArray) w → l.length = z.length → kn1 pj (.pointer (some ⟨g, 0, none⟩)) (setN w g 0 l)) :
    ∀ o, ops[s0]? = some o → ∀ a w, FKept ops a0 a → Below base.heap.size base w → FDeps ops kn0 s0 a w → wpOp P ops Q s0 (fun a2 w2 => ∃ v, a2 = a.put o.dst v ∧ Below base.heap.size base w2 ∧
      ∀ (j : Nat) (oj : Oper) (t : Tmp), j ≠ s0 → ops[j]? = some oj → oj.dst = some t → kn0 j (a.tmps.getD t undef) w → kn1 j (a.tmps.getD t undef) w2) a w := by
  intro o ho a w hk hb hd
  rw [ho] at hop
  simp only [Option.map_some, Option.some.injEq, Prod.mk.injEq] at hop
  obtain ⟨hop, hgd, hdst⟩ := hop
  obtain ⟨g, e1, hg, hc⟩ := hx a w hk hd
  have hy' := hy a w hk hd
  obtain ⟨l, e2, hl, h1⟩ := hK _ _ hy'
  obtain ⟨k1, k2⟩ := cellsN_of hc
  unfold wpOp
  simp only [ho]
  rw [show Region.wanted o (yielded ops a.tmps) = true by simp [Region.wanted, hgd]]
  refine .inl ?_
  unfold Oper.wp execOp
  rw [hop]
  simp only [e1, e2, Sem.run_bind, storeN T g w z l (by rw [hs, hl]) k1 hl.symm k2 h1, Result.andThen_ok, Sem.run_pure, Oper.upon]
  refine ⟨undef, rfl, below_setN hg l 0 _ hb, fun j oj t hj hoj ht hkn => ?_⟩
  by_cases e : j = pj
  · subst e
    rw [hoj] at hpj
    simp only [Option.bind_some] at hpj
    rw [hpj] at ht
    injection ht with ht
    subst ht
    have e1' : a.tmps.getD p undef = .pointer (some ⟨g, 0, none⟩) := e1
    rw [e1']
    rw [e2] at hy'
    exact hnew g l w hg hc hy' hl
  · exact htr j hj e _ _ _ hkn
end
end Go.Proofs.YtbgconagkgfplaaGreat
end
section
namespace Go.Proofs.YtbgconagkgfplaaGreat
open Go.RowKit
set_option linter.unusedVariables false
set_option linter.unusedSimpArgs false

theorem ok_rows {v : Va} (h : okV v = true) : (v.plus = [] ∨ v.plus.length = 8) ∧ (v.minus = [] ∨ v.minus.length = 8) := by
  have hk : v.kind = 1 ∨ v.kind = 2 ∨ v.kind = 3 := ok_kind h
  rcases hk with hk | hk | hk
  · have e := (ok_reg h hk).2
    exact ⟨.inl (congrArg Va.plus e), .inl (congrArg Va.minus e)⟩
  · have e := (ok_count h hk).1
    unfold inCount okRow at e
    simp only [Bool.and_eq_true, decide_eq_true_eq, beq_iff_eq] at e
    exact ⟨.inr e.1.1, .inr e.2.1⟩
  · have e := ok_flags h hk
    exact ⟨.inl (congrArg Va.plus e), .inl (congrArg Va.minus e)⟩
theorem alloc_en (w : World) : (Instr.alloc 30 true (.tuple #[])).run Tryz.prog w = .ok (.pointer (some ⟨w.heap.size, 0, none⟩)) (w.alloc (.cells ([.string ⟨#[]⟩, .int .i64 0, .int .i64 0, .int .i64 0, .bool false, .string ⟨#[]⟩, .slice none 0 0, .slice none 0 0, .int .u64 0] : List Value).toArray 30)) := by
  have hz : (Tryz.prog.info? 30).map (·.zero) = some (some (.agg ([.string ⟨#[]⟩, .int .i64 0, .int .i64 0, .int .i64 0, .bool false, .string ⟨#[]⟩, .slice none 0 0, .slice none 0 0, .int .u64 0] : List Value).toArray)) := by kernel_rfl
  obtain ⟨ie, hie, hz⟩ := Option.map_eq_some_iff.1 hz
  simp [Instr.alloc, zeroValue, typeInfo, hie, hz, newVar, newRow, newObj, Value.cells]
  rfl
/-- A row of eight numbers stands in no new entry, and in no block of three cells. -/
theorem row_apart9 {l : List Int} {v : Value} {w : World} (h : isCells (l.map intC) v w) (hl : l = [] ∨ l.length = 8) {g : Nat} (hg : w.heap[g]? = some (.cells ([.string ⟨#[]⟩, .int .i64 0, .int .i64 0, .int .i64 0, .bool false, .string ⟨#[]⟩, .slice none 0 0, .slice none 0 0, .int .u64 0] : List Value).toArray 30 (0, 0))) : l.map intC = [] ∨ blk v ≠ some g := by
  rcases hl with rfl | hl
  · exact .inl rfl
  · refine .inr (fun e => ?_)
    rcases h with ⟨rfl, _⟩ | ⟨a, cap, rfl, h0⟩ | ⟨b, off, cap, rfl, hlt, hc⟩
    · cases e
    · have := congrArg List.length h0; rw [List.length_map, hl] at this; simp at this
    · have hbg : b = g := by injection e
      subst hbg
      have key : ∀ j, j < 8 → ∃ x : Int, w.cell? ⟨b, off + j, none⟩ = some (.int .i64 x) := by
        intro j hj
        refine ⟨l[j]'(by omega), hc j _ ?_⟩
        rw [List.getElem?_map, List.getElem?_eq_getElem (by omega)]; rfl
      have e7 := key 7 (by omega)
      have hoff : off ≤ 1 := by
        obtain ⟨x, hx⟩ := e7
        rw [World.cell?, hg] at hx
        by_cases h9 : off + 7 < 9
        · omega
        · simp [List.getElem?_eq_none (show ([.string ⟨#[]⟩, .int .i64 0, .int .i64 0, .int .i64 0, .bool false, .string ⟨#[]⟩, .slice none 0 0, .slice none 0 0, .int .u64 0] : List Value).length ≤ off + 7 by simp; omega)] at hx
      have h01 : off = 0 ∨ off = 1 := by omega
      rcases h01 with rfl | rfl
      · obtain ⟨x, hx⟩ := key 4 (by omega)
        simp [World.cell?, hg] at hx
      · obtain ⟨x, hx⟩ := key 3 (by omega)
        simp [World.cell?, hg] at hx
theorem setN_bt (b : Nat) : ∀ (l : List Value) (k : Nat) (w : World), Bt (fun x => x = b) w (setN w b k l) := by
  intro l
  induction l with
  | nil => intro k w; exact ⟨rfl, rfl, rfl, Nat.le_refl _, fun _ _ _ => rfl⟩
  | cons v r ih => intro k w; rw [setN]; exact (bt_set (S := fun x => x = b) b k v w rfl).trans (ih (k + 1) _)
theorem isEn_list {J : En} {v : Value} {w : World} (h : isEn J v w) : ∃ l : List Value, v = .agg l.toArray ∧ l.length = ([.string ⟨#[]⟩, .int .i64 0, .int .i64 0, .int .i64 0, .bool false, .string ⟨#[]⟩, .slice none 0 0, .slice none 0 0, .int .u64 0] : List Value).length ∧ Ones l := by
  obtain ⟨vp, vm, rfl, hp, hm⟩ := h
  exact ⟨[.string ⟨J.key.toArray⟩, .int .i64 J.val.kind, .int .i64 J.val.time, .int .i64 J.val.node, .bool J.val.dead, .string ⟨J.val.text.toArray⟩, vp, vm, .int .u64 (J.val.flags.toNat : Int)], rfl, rfl, rfl, rfl, rfl, rfl, rfl, rfl, hp.one, hm.one, rfl, trivial⟩
/-- An arena whose rows are of their types. -/
def isArT (N : Nat) (A : Ar) : VP := fun v w => ∃ vs vi ps, v = .agg #[.int .i64 A.cap, vs, vi] ∧ w.ownsRow N 30 9 vs ps.length (flatE ps) ∧ ps.map (·.1) = A.slots ∧ w.ownsRow N 3 1 vi A.index.length (A.index.map intC) ∧ RowsOk ps w
theorem isArT.ar {N : Nat} {A : Ar} {v : Value} {w : World} (h : isArT N A v w) : isAr A v w := by
  obtain ⟨vs, vi, ps, rfl, h1, h2, h3, h4⟩ := h
  refine ⟨vs, vi, rfl, by rw [← h2]; exact own_ens h1 h4, isOwn.cells (B := N) (e := 3) ?_⟩
  unfold isOwn
  rw [List.length_map]
  exact h3
end Go.Proofs.YtbgconagkgfplaaGreat
end
section
namespace Go.Proofs.YtbgconagkgfplaaGreat
open Go.RowKit
set_option linter.unusedVariables false
set_option linter.unusedSimpArgs false
attribute [local irreducible] setN

def VarR (B : Nat) (w : World) (g : Nat) (J : En) : Prop := ∃ vp vm, CellsN w g [.string ⟨J.key.toArray⟩, .int .i64 J.val.kind, .int .i64 J.val.time, .int .i64 J.val.node, .bool J.val.dead, .string ⟨J.val.text.toArray⟩, vp, vm, .int .u64 (J.val.flags.toNat : Int)] ∧ isCells (J.val.plus.map intC) vp w ∧ isCells (J.val.minus.map intC) vm w ∧ (J.val.plus ≠ [] → NewB B vp) ∧ (J.val.minus ≠ [] → NewB B vm)
theorem VarR.keep {B : Nat} {w w' : World} {g : Nat} {J : En} (h : VarR B w g J) (hb : Below w.heap.size w w') : VarR B w' g J :=
  let ⟨vp, vm, hc, hp, hm, np, nm⟩ := h; ⟨vp, vm, hc.keep hb hc.1, stable_cells _ _ _ _ hp hb, stable_cells _ _ _ _ hm hb, np, nm⟩
theorem en_laidR {B : Nat} {J : En} (hJ : okE J = true) {g : Nat} {l : List Value} {w : World} (hg : w.heap[g]? = some (.cells ([.string ⟨#[]⟩, .int .i64 0, .int .i64 0, .int .i64 0, .bool false, .string ⟨#[]⟩, .slice none 0 0, .slice none 0 0, .int .u64 0] : List Value).toArray 30 (0, 0))) (h : isEnR B J (.agg l.toArray) w) : VarR B (setN w g 0 l) g J := by
  obtain ⟨vp, vm, e, hp, hm, np, nm⟩ := h
  injection e with e
  injection e with e
  subst e
  obtain ⟨r1, r2⟩ := ok_rows (okE_val hJ)
  have bt := setN_bt g [.string ⟨J.key.toArray⟩, .int .i64 J.val.kind, .int .i64 J.val.time, .int .i64 J.val.node, .bool J.val.dead, .string ⟨J.val.text.toArray⟩, vp, vm, .int .u64 (J.val.flags.toNat : Int)] 0 w
  refine ⟨vp, vm, (cellsN_of hg).1.setN_ _ rfl, bt.cells hp ((row_apart9 hp r1 hg).imp id (fun h b hb e => h (by rw [hb, e]))), bt.cells hm ((row_apart9 hm r2 hg).imp id (fun h b hb e => h (by rw [hb, e]))), np, nm⟩
theorem OutV.slot {N : Nat} {v : Value} {ps : RowE} {w : World} (h : OutV N v ps w) {q : Nat} (hq : q < ps.length) : ∃ s cap cur, v = .slice (some ⟨s, 0, none⟩) ps.length cap ∧ w.heap[s]? = some (.cells cur 30 (0, 0)) ∧ cur.size = cap * 9 ∧ ps.length ≤ cap ∧ cap ≤ maxLen ∧ cur.toList.take (ps.length * 9) = flatE ps ∧ N ≤ s ∧ s < w.heap.size := by
  obtain ⟨_, ⟨_, h0⟩ | ⟨s, cap, cur, hv, hB, hg, hn, hc, hcs, ht⟩⟩ := h.own
  · omega
  · exact ⟨s, cap, cur, hv, hg, hcs, hn, hc, ht, hB, (Array.getElem?_eq_some_iff.1 hg).1⟩
set_option maxHeartbeats 1000000 in
theorem OutV.set {N : Nat} {w : World} {ps : RowE} {s cap q : Nat} {cur : Array Value} (J : En) (jp jm : Value) (h : OutV N (.slice (some ⟨s, 0, none⟩) ps.length cap) ps w) (hg : w.heap[s]? = some (.cells cur 30 (0, 0))) (hcs : cur.size = cap * 9) (hn : ps.length ≤ cap) (hc : cap ≤ maxLen) (ht : cur.toList.take (ps.length * 9) = flatE ps) (hB : N ≤ s) (hq : q < ps.length)
    (hp : isCells (J.val.plus.map intC) jp w) (hm : isCells (J.val.minus.map intC) jm w) (o : OffQ s (J, jp, jm)) : OutV N (.slice (some ⟨s, 0, none⟩) ps.length cap) (ps.set q (J, jp, jm)) (setN w s (q * 9) (enL J jp jm)) := by
  have bt := bt_setN (S := fun b => b = s) rfl (enL J jp jm) (q * 9) w
  have offs : ∀ p ∈ ps, OffQ s p := fun p hp => h.off p hp s rfl
  have hcur := heap_setCells (enL J jp jm) (q * 9) w cur hg
  rw [← setN_cells] at hcur
  refine ⟨⟨by rw [flatE_length, List.length_set], .inr ⟨s, cap, _, by rw [List.length_set], hB, hcur, by rw [List.length_set]; exact hn, hc, by rw [setL_size, hcs], ?_⟩⟩, ?_, ?_⟩
  · rw [List.length_set]
    apply List.ext_getElem?
    intro t
    by_cases htl : t < ps.length * 9
    · rw [List.getElem?_take_of_lt htl, Array.getElem?_toList, setL_get, flatE_set ps q _ hq]
      have h9 : (enL J jp jm).length = 9 := rfl
      have hm9 : ps.length * 9 ≤ cap * 9 := Nat.mul_le_mul_right _ hn
      by_cases h2 : q * 9 ≤ t ∧ t < q * 9 + 9
      · rw [if_pos (by omega), if_pos h2]
      · rw [if_neg (by omega), if_neg h2, ← ht, List.getElem?_take_of_lt htl, Array.getElem?_toList]
    · rw [List.getElem?_eq_none (by simp; omega), List.getElem?_eq_none (by rw [flatE_length, List.length_set]; omega)]
  · intro p hp'
    rcases List.mem_or_eq_of_mem_set hp' with hp' | rfl
    · obtain ⟨r1, r2⟩ := h.rows p hp'
      obtain ⟨o1, o2⟩ := offs p hp'
      exact ⟨bt.cells r1 (o1.imp id (fun h b hb e => h (by rw [hb, e]))), bt.cells r2 (o2.imp id (fun h b hb e => h (by rw [hb, e])))⟩
    · obtain ⟨o1, o2⟩ := o
      exact ⟨bt.cells hp (o1.imp id (fun h b hb e => h (by rw [hb, e]))), bt.cells hm (o2.imp id (fun h b hb e => h (by rw [hb, e])))⟩
  · intro p hp' b hb
    have e : some s = some b := hb
    injection e with e
    subst e
    rcases List.mem_or_eq_of_mem_set hp' with hp' | rfl
    · exact offs p hp'
    · exact o
theorem wpList_storeO {P : Program} {ops : Array Oper} {rest : List Oper} {o : Oper} {a : Act} {w : World} {Q : Exit → Act → World → Prop} (t : TypeId) (hgd : o.guard = none) (x y : Operand) (ho : o.op = .store t x y)
    (g off : Nat) (l : List Value) (hs : (P.info? t).map (·.size) = some l.length) (hx : a.eval x = .pointer (some ⟨g, off, none⟩)) (hy : a.eval y = .agg l.toArray) (h1 : Ones l) (hc : ∀ j, j < l.length → ∃ x, w.cell? ⟨g, off + j, none⟩ = some x) (hf : Free5 w g)
    (hr : wpList P ops Q rest (a.put o.dst undef) (setN w g off l)) : wpList P ops Q (o :: rest) a w :=
  wpList_plain hgd fun K hK => by
    obtain ⟨ie, hie, hz⟩ := Option.map_eq_some_iff.1 hs
    have hsz : (sizeOf t).run P w = .ok l.length w := by simp [sizeOf, typeInfo, hie, hz]
    have hst := storeCellsO (P := P) g off l 0 w h1 (by simpa using hc) hf
    unfold Oper.wp execOp
    rw [ho]
    simp only [hx, hy, Instr.storeAt, Instr.sureAddr, Sem.run_bind, Sem.run_pure, Result.andThen_ok, storeVar, hsz]
    rw [if_neg (show ¬ ((Value.agg l.toArray).cells.size ≠ l.length) by show ¬ (l.toArray.size ≠ l.length); simp)]
    have hst2 : (storeCells ⟨g, off, none⟩ (Value.agg l.toArray).cells.toList 0).run P w = .ok () (setN w g off l) := hst
    rw [hst2]
    simp only [Result.andThen_ok, Oper.upon]
    exact hK _ _ hr
end Go.Proofs.YtbgconagkgfplaaGreat
end
section
namespace Go.Proofs.YtbgconagkgfplaaGreat
open Go.RowKit
set_option linter.unusedVariables false
set_option linter.unusedSimpArgs false
attribute [local irreducible] setN

theorem resame_z (X Y : En) (z : Bool) (v u : Value) (w : World) (hv : isEn X v w) (hu : isEn Y u w) (hA : Fit X.val) (hF : Fit Y.val) (hz : decide (X = Y) = z) : Calls Tryz.prog 28 #[v, u] w fun e w' => e = .returned (.bool z) ∧ Below w.heap.size w w' := by subst hz; exact resame_any X Y v u w hv hu hA hF
theorem rejoin_tup (B : Nat) (X Y J : En) (v u : Value) (w : World) (hB : B ≤ w.heap.size) (hv : isEn X v w) (hu : isEn Y u w) (hX : FitE X) (hY : FitE Y) (h0 : joinEE X Y = 0) (hJ : joinEF X Y = J) : Calls Tryz.prog 103 #[v, u] w fun e w' => ∃ x, e = .returned x ∧ isTup2 (isEnR B J) (.int .i64 0) x w' ∧ Below w.heap.size w w' :=
  (rejoinR_en X Y v u w hv hu hX hY).mono (by
    rintro e w' ⟨v', rfl, hv', hb⟩
    rw [h0]
    rw [hJ] at hv'
    exact ⟨_, rfl, ⟨v', rfl, hv'.low hB⟩, hb⟩)
theorem stable_newEn (B : Nat) (X : En) : Stable (fun v w => ∃ g, v = .pointer (some ⟨g, 0, none⟩) ∧ VarR B w g X) := fun v w w' ⟨g, e, h⟩ hb => ⟨g, e, h.keep hb⟩
theorem built_ar3 (c : Int) (a b : Option Addr) (n c1 m c2 : Nat) : Tryz.prog.built 25 [(0, .int .i64 c), (1, .slice a n c1), (2, .slice b m c2)] = some #[.int .i64 c, .slice a n c1, .slice b m c2] := by kernel_rfl
theorem built_jo (c : Int) (z : Bool) (a b : Option Addr) (n c1 m c2 : Nat) : Tryz.prog.built 74 [(0, .agg #[.int .i64 c, .slice a n c1, .slice b m c2]), (1, .bool z)] = some #[.int .i64 c, .slice a n c1, .slice b m c2, .bool z, .int .i64 0] := by kernel_rfl
theorem size_jo : (Tryz.prog.info? 74).map (·.size) = some 5 := by kernel_rfl
theorem agg_jo (w : World) : (isAgg 74).run Tryz.prog w = .ok true w := by simp [isAgg, run_underlying Tryz.underlying74]
def isIx (N : Nat) (idx : List Int) : VP := fun v w => OutI N v idx w
theorem stable_ix (N : Nat) (idx : List Int) : Stable (isIx N idx) := fun v w w' h hb => OutI.keep h hb
theorem rindex_own (B : Nat) (l : List En) (v : Value) (w : World) (hB : B ≤ w.heap.size) (hv : isEns l v w) (hl : l.length ≤ 1000) : Calls Tryz.prog 102 #[v] w fun e w' => ∃ x, e = .returned x ∧ isIx B (idxM l) x w' ∧ Below w.heap.size w w' :=
  (rindex_post l v w hv hl).mono (by rintro e w' ⟨v', rfl, h1, hb⟩; exact ⟨_, rfl, h1.low hB, hb⟩)
def isB1 (N : Nat) (c : Int) (vl : Value) (idx : List Int) : VP := fun v w => ∃ i', v = .agg #[.int .i64 c, vl, i'] ∧ OutI N i' idx w
def isB2 (N : Nat) (c : Int) (vl : Value) (idx : List Int) : VP := fun v w => ∃ i', v = .agg #[.int .i64 c, vl, i', .bool true, .int .i64 0] ∧ OutI N i' idx w
theorem stable_b1 (N : Nat) (c : Int) (vl : Value) (idx : List Int) : Stable (isB1 N c vl idx) := fun v w w' ⟨i', e, h⟩ hb => ⟨i', e, OutI.keep h hb⟩
theorem stable_b2 (N : Nat) (c : Int) (vl : Value) (idx : List Int) : Stable (isB2 N c vl idx) := fun v w w' ⟨i', e, h⟩ hb => ⟨i', e, OutI.keep h hb⟩
noncomputable def rjn12Ops : Array Oper := regionOf Tryz.f50 12
set_option maxRecDepth 100000 in
set_option maxHeartbeats 2000000 in
theorem rjn12_region (Q : Exit → Act → World → Prop) (a0 : Act) (w0 : World) (hsz : a0.tmps.size = 84) (p n bs os cs gx : Nat) (X J : En) (xp xm jp jm : Value) (z : Bool) (e6 : a0.tmps.getD 6 undef = .slice (some ⟨bs, os, none⟩) n cs) (e5 : a0.tmps.getD 5 undef = .int .i64 (p : Int)) (e7 : a0.tmps.getD 7 undef = .pointer (some ⟨gx, 0, none⟩)) (hp : p < n) (hbs : bs < w0.heap.size) (hxc : ∀ (j : Nat) (x : Value), [.string ⟨X.key.toArray⟩, .int .i64 X.val.kind, .int .i64 X.val.time, .int .i64 X.val.node, .bool X.val.dead, .string ⟨X.val.text.toArray⟩, xp, xm, .int .u64 (X.val.flags.toNat : Int)][j]? = some x → w0.cell? ⟨bs, os + p * 9 + j, none⟩ = some x) (HX : CellsN w0 gx [.string ⟨J.key.toArray⟩, .int .i64 J.val.kind, .int .i64 J.val.time, .int .i64 J.val.node, .bool J.val.dead, .string ⟨J.val.text.toArray⟩, jp, jm, .int .u64 (J.val.flags.toNat : Int)]) (hxp : isCells (X.val.plus.map intC) xp w0) (hxm : isCells (X.val.minus.map intC) xm w0) (hjp : isCells (J.val.plus.map intC) jp w0) (hjm : isCells (J.val.minus.map intC) jm w0) (fX : FitE X) (fJ : FitE J) (hz : decide (X = J) = z)
    (hQ : ∀ (g : Nat → Value) (w : World), g 9 = .bool !z → Below w0.heap.size w0 w → Q .normal { tmps := [65, 66, 67, 68, 69, 70, 71, 9].foldl (fun t s => t.setIfInBounds s (g s)) a0.tmps, defers := a0.defers } w) :
    (Code.region 12 rjn12Ops true).wp Tryz.prog Q a0 w0 := by
  refine wp_region_flow mixed (by rw [hsz]; kernel_rfl) ?_
  rw [show rjn12Ops.size = 8 by kernel_rfl]
  refine ⟨isVal (.slice (some ⟨bs, os, none⟩) n cs), step_move (.tmp 6) (by kernel_rfl) (wanted_none (by kernel_rfl)) (stable_val _) (knows_old 6 (.slice (some ⟨bs, os, none⟩) n cs) (by kernel_rfl) e6), ?_⟩
  refine ⟨isVal (.int .i64 (p : Int)), step_move (.tmp 5) (by kernel_rfl) (wanted_none (by kernel_rfl)) (stable_val _) (knows_old 5 (.int .i64 (p : Int)) (by kernel_rfl) e5), ?_⟩
  refine ⟨isVal (.pointer (some ⟨bs, os + p * 9, none⟩)), step_placeE 22 30 (.tmp 65) (.tmp 66) bs (os) (n) (cs) (p) (os + p * 9) (by kernel_rfl) (wanted_none (by kernel_rfl)) (knows_new (V := isVal (.slice (some ⟨bs, os, none⟩) n cs)) 65 0 (by kernel_rfl) (by kernel_rfl) (by kernel_rfl)) (knows_new (V := isVal (.int .i64 (p : Int))) 66 1 (by kernel_rfl) (by kernel_rfl) (by kernel_rfl)) Tryz.underlying22 (by kernel_rfl) (⟨hp, rfl⟩), ?_⟩
  refine ⟨isVal (.agg #[.string ⟨X.key.toArray⟩, .int .i64 X.val.kind, .int .i64 X.val.time, .int .i64 X.val.node, .bool X.val.dead, .string ⟨X.val.text.toArray⟩, xp, xm, .int .u64 (X.val.flags.toNat : Int)]), step_loadA 30 (.tmp 67) (bs) (os + p * 9) [.string ⟨X.key.toArray⟩, .int .i64 X.val.kind, .int .i64 X.val.time, .int .i64 X.val.node, .bool X.val.dead, .string ⟨X.val.text.toArray⟩, xp, xm, .int .u64 (X.val.flags.toNat : Int)] (by kernel_rfl) (wanted_none (by kernel_rfl)) (knows_new (V := isVal (.pointer (some ⟨bs, os + p * 9, none⟩))) 67 2 (by kernel_rfl) (by kernel_rfl) (by kernel_rfl)) size_en agg_en (⟨hbs, hxc⟩), ?_⟩
  refine ⟨isVal (.agg #[.string ⟨J.key.toArray⟩, .int .i64 J.val.kind, .int .i64 J.val.time, .int .i64 J.val.node, .bool J.val.dead, .string ⟨J.val.text.toArray⟩, jp, jm, .int .u64 (J.val.flags.toNat : Int)]), step_loadA 30 (.tmp 7) (gx) (0) [.string ⟨J.key.toArray⟩, .int .i64 J.val.kind, .int .i64 J.val.time, .int .i64 J.val.node, .bool J.val.dead, .string ⟨J.val.text.toArray⟩, jp, jm, .int .u64 (J.val.flags.toNat : Int)] (by kernel_rfl) (wanted_none (by kernel_rfl)) (knows_old 7 (.pointer (some ⟨gx, 0, none⟩)) (by kernel_rfl) e7) size_en agg_en (⟨HX.1, fun j x hx => by rw [Nat.zero_add]; exact HX.2 j x hx⟩), ?_⟩
  refine ⟨isVal (.bool z), step_call 28 #[.tmp 68, .tmp 69] #[30, 30] #[.agg #[.string ⟨X.key.toArray⟩, .int .i64 X.val.kind, .int .i64 X.val.time, .int .i64 X.val.node, .bool X.val.dead, .string ⟨X.val.text.toArray⟩, xp, xm, .int .u64 (X.val.flags.toNat : Int)], .agg #[.string ⟨J.key.toArray⟩, .int .i64 J.val.kind, .int .i64 J.val.time, .int .i64 J.val.node, .bool J.val.dead, .string ⟨J.val.text.toArray⟩, jp, jm, .int .u64 (J.val.flags.toNat : Int)]] (by kernel_rfl) (wanted_none (by kernel_rfl)) (stable_val _) (args2 (.tmp 68) (.tmp 69) (.agg #[.string ⟨X.key.toArray⟩, .int .i64 X.val.kind, .int .i64 X.val.time, .int .i64 X.val.node, .bool X.val.dead, .string ⟨X.val.text.toArray⟩, xp, xm, .int .u64 (X.val.flags.toNat : Int)]) (.agg #[.string ⟨J.key.toArray⟩, .int .i64 J.val.kind, .int .i64 J.val.time, .int .i64 J.val.node, .bool J.val.dead, .string ⟨J.val.text.toArray⟩, jp, jm, .int .u64 (J.val.flags.toNat : Int)]) (knows_new (V := isVal (.agg #[.string ⟨X.key.toArray⟩, .int .i64 X.val.kind, .int .i64 X.val.time, .int .i64 X.val.node, .bool X.val.dead, .string ⟨X.val.text.toArray⟩, xp, xm, .int .u64 (X.val.flags.toNat : Int)])) 68 3 (by kernel_rfl) (by kernel_rfl) (by kernel_rfl)) (knows_new (V := isVal (.agg #[.string ⟨J.key.toArray⟩, .int .i64 J.val.kind, .int .i64 J.val.time, .int .i64 J.val.node, .bool J.val.dead, .string ⟨J.val.text.toArray⟩, jp, jm, .int .u64 (J.val.flags.toNat : Int)])) 69 4 (by kernel_rfl) (by kernel_rfl) (by kernel_rfl))) (enters_of Tryz.func28 (by kernel_rfl) rfl) (by intro w' hb; exact call_vb (resame_z X J z _ _ w' (en_mk hxp hxm hb) (en_mk hjp hjm hb) fX.val fJ.val hz)), ?_⟩
  refine ⟨isVal (.bool !z), step_un .not 4 (.tmp 70) (.bool z) (.bool !z) (by kernel_rfl) (wanted_none (by kernel_rfl)) (knows_new (V := isVal (.bool z)) 70 5 (by kernel_rfl) (by kernel_rfl) (by kernel_rfl)) (fun _ => rfl), ?_⟩
  refine ⟨isVal (.bool !z), step_assign (.tmp 71) (by kernel_rfl) (wanted_none (by kernel_rfl)) (stable_val _) (knows_new (V := isVal (.bool !z)) 71 6 (by kernel_rfl) (by kernel_rfl) (by kernel_rfl)), ?_⟩
  intro a w hkp hb hd
  rw [kept_of hkp [some 65, some 66, some 67, some 68, some 69, some 70, some 71, some 9] [65, 66, 67, 68, 69, 70, 71, 9] (by kernel_rfl) (by decide)]
  have d9 := fdone_of (hd 7 (by rw [show rjn12Ops.size = 8 by kernel_rfl]; decide)) (t := 9) (V := isVal (.bool !z)) (by kernel_rfl) (by kernel_rfl)
  exact hQ (fun s => a.tmps.getD s undef) w d9 hb
noncomputable def rjn11Ops : Array Oper := regionOf Tryz.f50 11
set_option maxRecDepth 100000 in
set_option maxHeartbeats 2000000 in
theorem rjn11_region (Q : Exit → Act → World → Prop) (a0 : Act) (w0 : World) (hsz : a0.tmps.size = 84) (p n bs os cs h : Nat) (X Y J : En) (xp xm yp ym : Value) (e6 : a0.tmps.getD 6 undef = .slice (some ⟨bs, os, none⟩) n cs) (e5 : a0.tmps.getD 5 undef = .int .i64 (p : Int)) (e3 : a0.tmps.getD 3 undef = .pointer (some ⟨h, 0, none⟩)) (hp : p < n) (hbs : bs < w0.heap.size) (hxc : ∀ (j : Nat) (x : Value), [.string ⟨X.key.toArray⟩, .int .i64 X.val.kind, .int .i64 X.val.time, .int .i64 X.val.node, .bool X.val.dead, .string ⟨X.val.text.toArray⟩, xp, xm, .int .u64 (X.val.flags.toNat : Int)][j]? = some x → w0.cell? ⟨bs, os + p * 9 + j, none⟩ = some x) (HY : CellsN w0 h [.string ⟨Y.key.toArray⟩, .int .i64 Y.val.kind, .int .i64 Y.val.time, .int .i64 Y.val.node, .bool Y.val.dead, .string ⟨Y.val.text.toArray⟩, yp, ym, .int .u64 (Y.val.flags.toNat : Int)]) (hxp : isCells (X.val.plus.map intC) xp w0) (hxm : isCells (X.val.minus.map intC) xm w0) (hyp : isCells (Y.val.plus.map intC) yp w0) (hym : isCells (Y.val.minus.map intC) ym w0) (fX : FitE X) (fY : FitE Y) (hj : joinEE X Y = 0) (hJ : joinEF X Y = J) (okJ : okE J = true)
    (hQ : ∀ (g : Nat → Value) (w : World), (fun v w => ∃ g, v = .pointer (some ⟨g, 0, none⟩) ∧ VarR w0.heap.size w g J) (g 7) w → g 8 = .int .i64 0 → Below w0.heap.size w0 w → Q .normal { tmps := [57, 58, 59, 60, 61, 62, 56, 63, 64, 7, 8].foldl (fun t s => t.setIfInBounds s (g s)) a0.tmps, defers := a0.defers } w) :
    (Code.region 11 rjn11Ops true).wp Tryz.prog Q a0 w0 := by
  have hn : rjn11Ops.size = 12 := by kernel_rfl
  refine wp_region_phase 10 [0, 1, 2, 3, 4, 5, 6, 7, 9] (fun i => match i with | 0 => isVal (.slice (some ⟨bs, os, none⟩) n cs) | 1 => isVal (.int .i64 (p : Int)) | 2 => isVal (.pointer (some ⟨bs, os + p * 9, none⟩)) | 3 => isVal (.agg #[.string ⟨X.key.toArray⟩, .int .i64 X.val.kind, .int .i64 X.val.time, .int .i64 X.val.node, .bool X.val.dead, .string ⟨X.val.text.toArray⟩, xp, xm, .int .u64 (X.val.flags.toNat : Int)]) | 4 => isVal (.agg #[.string ⟨Y.key.toArray⟩, .int .i64 Y.val.kind, .int .i64 Y.val.time, .int .i64 Y.val.node, .bool Y.val.dead, .string ⟨Y.val.text.toArray⟩, yp, ym, .int .u64 (Y.val.flags.toNat : Int)]) | 5 => (isTup2 (isEnR w0.heap.size J) (.int .i64 0)) | 6 => (isTup2 (isEnR w0.heap.size J) (.int .i64 0)) | 7 => (isEnR w0.heap.size J) | 8 => isVal (.int .i64 0) | 9 => isNewS 30 ([.string ⟨#[]⟩, .int .i64 0, .int .i64 0, .int .i64 0, .bool false, .string ⟨#[]⟩, .slice none 0 0, .slice none 0 0, .int .u64 0] : List Value) w0.heap.size | 10 => anyV | 11 => isVal (.int .i64 0) | _ => anyV) (fun i => match i with | 0 => isVal (.slice (some ⟨bs, os, none⟩) n cs) | 1 => isVal (.int .i64 (p : Int)) | 2 => isVal (.pointer (some ⟨bs, os + p * 9, none⟩)) | 3 => isVal (.agg #[.string ⟨X.key.toArray⟩, .int .i64 X.val.kind, .int .i64 X.val.time, .int .i64 X.val.node, .bool X.val.dead, .string ⟨X.val.text.toArray⟩, xp, xm, .int .u64 (X.val.flags.toNat : Int)]) | 4 => isVal (.agg #[.string ⟨Y.key.toArray⟩, .int .i64 Y.val.kind, .int .i64 Y.val.time, .int .i64 Y.val.node, .bool Y.val.dead, .string ⟨Y.val.text.toArray⟩, yp, ym, .int .u64 (Y.val.flags.toNat : Int)]) | 5 => (isTup2 anyV (.int .i64 0)) | 6 => (isTup2 anyV (.int .i64 0)) | 7 => anyV | 8 => isVal (.int .i64 0) | 9 => (fun v w => ∃ g, v = .pointer (some ⟨g, 0, none⟩) ∧ VarR w0.heap.size w g J) | 10 => anyV | 11 => isVal (.int .i64 0) | _ => anyV) mixed (by kernel_rfl) (by rw [hsz]; kernel_rfl) (by rw [hn]; decide) (by kernel_rfl) ?h0 ?hst ?hs ?h1 ?he
  case h0 =>
    intro m hm hne
    rw [hn] at hm
    match m, hm, hne with
    | 0, _, hne => exact step_move (.tmp 6) (by kernel_rfl) (wanted_none (by kernel_rfl)) (stable_val _) (knows_old 6 (.slice (some ⟨bs, os, none⟩) n cs) (by kernel_rfl) e6)
    | 1, _, hne => exact step_move (.tmp 5) (by kernel_rfl) (wanted_none (by kernel_rfl)) (stable_val _) (knows_old 5 (.int .i64 (p : Int)) (by kernel_rfl) e5)
    | 2, _, hne => exact step_placeE 22 30 (.tmp 57) (.tmp 58) bs (os) (n) (cs) (p) (os + p * 9) (by kernel_rfl) (wanted_none (by kernel_rfl)) (knows_new (V := isVal (.slice (some ⟨bs, os, none⟩) n cs)) 57 0 (by kernel_rfl) (by kernel_rfl) (by kernel_rfl)) (knows_new (V := isVal (.int .i64 (p : Int))) 58 1 (by kernel_rfl) (by kernel_rfl) (by kernel_rfl)) Tryz.underlying22 (by kernel_rfl) (⟨hp, rfl⟩)
    | 3, _, hne => exact step_loadA 30 (.tmp 59) (bs) (os + p * 9) [.string ⟨X.key.toArray⟩, .int .i64 X.val.kind, .int .i64 X.val.time, .int .i64 X.val.node, .bool X.val.dead, .string ⟨X.val.text.toArray⟩, xp, xm, .int .u64 (X.val.flags.toNat : Int)] (by kernel_rfl) (wanted_none (by kernel_rfl)) (knows_new (V := isVal (.pointer (some ⟨bs, os + p * 9, none⟩))) 59 2 (by kernel_rfl) (by kernel_rfl) (by kernel_rfl)) size_en agg_en (⟨hbs, hxc⟩)
    | 4, _, hne => exact step_loadA 30 (.tmp 3) (h) (0) [.string ⟨Y.key.toArray⟩, .int .i64 Y.val.kind, .int .i64 Y.val.time, .int .i64 Y.val.node, .bool Y.val.dead, .string ⟨Y.val.text.toArray⟩, yp, ym, .int .u64 (Y.val.flags.toNat : Int)] (by kernel_rfl) (wanted_none (by kernel_rfl)) (knows_old 3 (.pointer (some ⟨h, 0, none⟩)) (by kernel_rfl) e3) size_en agg_en (⟨HY.1, fun j x hx => by rw [Nat.zero_add]; exact HY.2 j x hx⟩)
    | 5, _, hne => exact step_call 103 #[.tmp 60, .tmp 61] #[30, 30] #[.agg #[.string ⟨X.key.toArray⟩, .int .i64 X.val.kind, .int .i64 X.val.time, .int .i64 X.val.node, .bool X.val.dead, .string ⟨X.val.text.toArray⟩, xp, xm, .int .u64 (X.val.flags.toNat : Int)], .agg #[.string ⟨Y.key.toArray⟩, .int .i64 Y.val.kind, .int .i64 Y.val.time, .int .i64 Y.val.node, .bool Y.val.dead, .string ⟨Y.val.text.toArray⟩, yp, ym, .int .u64 (Y.val.flags.toNat : Int)]] (by kernel_rfl) (wanted_none (by kernel_rfl)) (stable_tup2 (stable_enR _ J) _) (args2 (.tmp 60) (.tmp 61) (.agg #[.string ⟨X.key.toArray⟩, .int .i64 X.val.kind, .int .i64 X.val.time, .int .i64 X.val.node, .bool X.val.dead, .string ⟨X.val.text.toArray⟩, xp, xm, .int .u64 (X.val.flags.toNat : Int)]) (.agg #[.string ⟨Y.key.toArray⟩, .int .i64 Y.val.kind, .int .i64 Y.val.time, .int .i64 Y.val.node, .bool Y.val.dead, .string ⟨Y.val.text.toArray⟩, yp, ym, .int .u64 (Y.val.flags.toNat : Int)]) (knows_new (V := isVal (.agg #[.string ⟨X.key.toArray⟩, .int .i64 X.val.kind, .int .i64 X.val.time, .int .i64 X.val.node, .bool X.val.dead, .string ⟨X.val.text.toArray⟩, xp, xm, .int .u64 (X.val.flags.toNat : Int)])) 60 3 (by kernel_rfl) (by kernel_rfl) (by kernel_rfl)) (knows_new (V := isVal (.agg #[.string ⟨Y.key.toArray⟩, .int .i64 Y.val.kind, .int .i64 Y.val.time, .int .i64 Y.val.node, .bool Y.val.dead, .string ⟨Y.val.text.toArray⟩, yp, ym, .int .u64 (Y.val.flags.toNat : Int)])) 61 4 (by kernel_rfl) (by kernel_rfl) (by kernel_rfl))) (enters_of Tryz.func103 (by kernel_rfl) rfl) (by intro w' hb; exact rejoin_tup w0.heap.size X Y J _ _ w' hb.size (en_mk hxp hxm hb) (en_mk hyp hym hb) fX fY hj hJ)
    | 6, _, hne => exact step_movP (.tmp 62) (stable_tup2 (stable_enR _ J) _) (by kernel_rfl) (wanted_none (by kernel_rfl)) (knows_new (V := (isTup2 (isEnR w0.heap.size J) (.int .i64 0))) 62 5 (by kernel_rfl) (by kernel_rfl) (by kernel_rfl))
    | 7, _, hne => exact step_ext20 (.int .i64 0) (.tmp 56) (stable_enR _ J) (by kernel_rfl) (wanted_none (by kernel_rfl)) (knows_new (V := (isTup2 (isEnR w0.heap.size J) (.int .i64 0))) 56 6 (by kernel_rfl) (by kernel_rfl) (by kernel_rfl))
    | 8, _, hne => exact step_ext21 (.int .i64 0) (.tmp 56) (by kernel_rfl) (wanted_none (by kernel_rfl)) (knows_new (V := (isTup2 (isEnR w0.heap.size J) (.int .i64 0))) 56 6 (by kernel_rfl) (by kernel_rfl) (by kernel_rfl))
    | 9, _, hne => exact step_newS 30 ([.string ⟨#[]⟩, .int .i64 0, .int .i64 0, .int .i64 0, .bool false, .string ⟨#[]⟩, .slice none 0 0, .slice none 0 0, .int .u64 0] : List Value) w0.heap.size (Nat.le_refl _) (by kernel_rfl) (wanted_none (by kernel_rfl)) alloc_en
    | 10, _, hne => exact absurd rfl hne
    | 11, _, hne => exact step_asgP (.tmp 64) (stable_val _) (by kernel_rfl) (wanted_none (by kernel_rfl)) (knows_new (V := isVal (.int .i64 0)) 64 8 (by kernel_rfl) (by kernel_rfl) (by kernel_rfl))
    | q + 12, hm, _ => omega
  case hst =>
    intro m
    match m with
    | 0 => exact (stable_val _)
    | 1 => exact (stable_val _)
    | 2 => exact (stable_val _)
    | 3 => exact (stable_val _)
    | 4 => exact (stable_val _)
    | 5 => exact (stable_tup2 stable_any _)
    | 6 => exact (stable_tup2 stable_any _)
    | 7 => exact stable_any
    | 8 => exact (stable_val _)
    | 9 => exact (stable_newEn _ J)
    | 10 => exact stable_any
    | 11 => exact (stable_val _)
    | q + 12 => exact stable_any
  case hs =>
    refine phase_store 30 7 63 ([.string ⟨#[]⟩, .int .i64 0, .int .i64 0, .int .i64 0, .bool false, .string ⟨#[]⟩, .slice none 0 0, .slice none 0 0, .int .u64 0] : List Value) (isEnR w0.heap.size J) 9 (by kernel_rfl) (knows_new (V := isNewS 30 ([.string ⟨#[]⟩, .int .i64 0, .int .i64 0, .int .i64 0, .bool false, .string ⟨#[]⟩, .slice none 0 0, .slice none 0 0, .int .u64 0] : List Value) w0.heap.size) 7 9 (by kernel_rfl) (by kernel_rfl) (by kernel_rfl)) (knows_new (V := (isEnR w0.heap.size J)) 63 7 (by kernel_rfl) (by kernel_rfl) (by kernel_rfl)) (fun v w h => isEn_list h.en) size_en (by kernel_rfl) ?_ ?_
    · intro j h1 h2 v w w' h
      match j, h1, h2, h with
      | 0, _, _, h => exact h
      | 1, _, _, h => exact h
      | 2, _, _, h => exact h
      | 3, _, _, h => exact h
      | 4, _, _, h => exact h
      | 5, _, _, h => obtain ⟨x, e, _⟩ : (isTup2 (isEnR w0.heap.size J) (.int .i64 0)) v w := h; exact ⟨x, e, trivial⟩
      | 6, _, _, h => obtain ⟨x, e, _⟩ : (isTup2 (isEnR w0.heap.size J) (.int .i64 0)) v w := h; exact ⟨x, e, trivial⟩
      | 7, _, _, _ => exact trivial
      | 8, _, _, h => exact h
      | 9, h1, h2, _ => exact absurd rfl h2
      | 10, h1, h2, _ => exact absurd rfl h1
      | 11, _, _, h => exact h
      | q + 12, _, _, _ => exact trivial
    · exact fun g l w hg hc hk hl => ⟨g, rfl, en_laidR okJ hc hk⟩
  case h1 =>
    intro w1 _ m hm hne hu
    rw [hn] at hm
    match m, hm, hne, hu with
    | 0, _, hne, hu => exact absurd (by decide) hu
    | 1, _, hne, hu => exact absurd (by decide) hu
    | 2, _, hne, hu => exact absurd (by decide) hu
    | 3, _, hne, hu => exact absurd (by decide) hu
    | 4, _, hne, hu => exact absurd (by decide) hu
    | 5, _, hne, hu => exact absurd (by decide) hu
    | 6, _, hne, hu => exact absurd (by decide) hu
    | 7, _, hne, hu => exact absurd (by decide) hu
    | 8, _, hne, hu => exact step_ext21 (.int .i64 0) (.tmp 56) (by kernel_rfl) (wanted_none (by kernel_rfl)) (knows_new (V := (isTup2 anyV (.int .i64 0))) 56 6 (by kernel_rfl) (by kernel_rfl) (by kernel_rfl))
    | 9, _, hne, hu => exact absurd (by decide) hu
    | 10, _, hne, hu => exact absurd rfl hne
    | 11, _, hne, hu => exact step_asgP (.tmp 64) (stable_val _) (by kernel_rfl) (wanted_none (by kernel_rfl)) (knows_new (V := isVal (.int .i64 0)) 64 8 (by kernel_rfl) (by kernel_rfl) (by kernel_rfl))
    | q + 12, hm, _, _ => omega
  case he =>
    intro a w hkp hb hd
    rw [kept_of hkp [some 57, some 58, some 59, some 60, some 61, some 62, some 56, some 63, some 64, some 7, none, some 8] [57, 58, 59, 60, 61, 62, 56, 63, 64, 7, 8] (by kernel_rfl) (by decide)]
    have d7 := fdone_of (hd 9 (by rw [hn]; decide)) (t := 7) (V := (fun v w => ∃ g, v = .pointer (some ⟨g, 0, none⟩) ∧ VarR w0.heap.size w g J)) (by kernel_rfl) (by kernel_rfl)
    have d8 := fdone_of (hd 11 (by rw [hn]; decide)) (t := 8) (V := isVal (.int .i64 0)) (by kernel_rfl) (by kernel_rfl)
    exact hQ (fun s => a.tmps.getD s undef) w d7 d8 hb
noncomputable def rjn10Ops : Array Oper := regionOf Tryz.f50 10
set_option maxRecDepth 100000 in
set_option maxHeartbeats 2000000 in
theorem rjn10_region (Q : Exit → Act → World → Prop) (a0 : Act) (w0 : World) (hsz : a0.tmps.size = 84) (g r nl cl : Nat) (pl : Option Addr) (A : Ar) (l : List En) (vs vi : Value) (e2 : a0.tmps.getD 2 undef = .pointer (some ⟨g, 0, none⟩)) (e6 : a0.tmps.getD 6 undef = .slice pl nl cl) (e4 : a0.tmps.getD 4 undef = .pointer (some ⟨r, 0, none⟩)) (HG : CellsN w0 g [.int .i64 A.cap, vs, vi]) (HR : CellsN w0 r [.int .i64 0, .slice none 0 0, .slice none 0 0, .bool false, .int .i64 0]) (HF : Free5 w0 r) (hl : isEns l (.slice pl nl cl) w0) (hln : l.length ≤ 1000)
    (hQ : ∀ (a : Act) (w1 : World) (i' : Value), a.defers = a0.defers → a.tmps.getD 4 undef = .pointer (some ⟨r, 0, none⟩) → Below w0.heap.size w0 w1 → OutI w0.heap.size i' (idxM l) w1 → Q .normal a (setN w1 r 0 [.int .i64 A.cap, .slice pl nl cl, i', .bool true, .int .i64 0])) :
    (Code.region 10 rjn10Ops true).wp Tryz.prog Q a0 w0 := by
  refine wp_region_tail 7 mixed (by rw [hsz]; kernel_rfl) (by kernel_rfl) ?_
  rw [show rjn10Ops.size - 7 = 1 by kernel_rfl]
  refine ⟨isVal (.pointer (some ⟨g, 0, none⟩)), step_field 25 (.tmp 2) 0 ⟨g, 0, none⟩ ⟨g, 0, none⟩ (by kernel_rfl) (wanted_none (by kernel_rfl)) (knows_old 2 (.pointer (some ⟨g, 0, none⟩)) (by kernel_rfl) e2) (f_ar_0_0 (g)), ?_⟩
  refine ⟨isVal (.int .i64 A.cap), step_read 3 (.tmp 49) ⟨g, 0, none⟩ (.int .i64 A.cap) (by kernel_rfl) (wanted_none (by kernel_rfl)) (knows_new (V := isVal (.pointer (some ⟨g, 0, none⟩))) 49 0 (by kernel_rfl) (by kernel_rfl) (by kernel_rfl)) (HG.2 0 _ rfl) (HG.1) (agg_noZ), ?_⟩
  refine ⟨isVal (.slice pl nl cl), step_move (.tmp 6) (by kernel_rfl) (wanted_none (by kernel_rfl)) (stable_val _) (knows_old 6 (.slice pl nl cl) (by kernel_rfl) e6), ?_⟩
  refine ⟨isVal (.slice pl nl cl), step_move (.tmp 6) (by kernel_rfl) (wanted_none (by kernel_rfl)) (stable_val _) (knows_old 6 (.slice pl nl cl) (by kernel_rfl) e6), ?_⟩
  refine ⟨(isIx w0.heap.size (idxM l)), step_call 102 #[.tmp 52] #[22] #[.slice pl nl cl] (by kernel_rfl) (wanted_none (by kernel_rfl)) (stable_ix _ _) (args1 (.tmp 52) (.slice pl nl cl) (knows_new (V := isVal (.slice pl nl cl)) 52 3 (by kernel_rfl) (by kernel_rfl) (by kernel_rfl))) (enters_of Tryz.func102 (by kernel_rfl) rfl) (by intro w' hb; exact rindex_own w0.heap.size l _ w' hb.size (stable_ens _ _ _ _ hl hb) hln), ?_⟩
  refine ⟨isB1 w0.heap.size A.cap (.slice pl nl cl) (idxM l), step_buildP 25 #[(0, .tmp 50), (1, .tmp 51), (2, .tmp 53)] (by kernel_rfl) (wanted_none (by kernel_rfl)) (stable_b1 _ _ _ _) (by
    intro a w hk hd
    have h0 : a.eval (.tmp 50) = _ := knows_new (ops := rjn10Ops) (a0 := a0) (V := isVal (.int .i64 A.cap)) 50 1 (by kernel_rfl) (by kernel_rfl) (by kernel_rfl) a w hk hd
    have h1 : a.eval (.tmp 51) = _ := knows_new (ops := rjn10Ops) (a0 := a0) (V := isVal (.slice pl nl cl)) 51 2 (by kernel_rfl) (by kernel_rfl) (by kernel_rfl) a w hk hd
    have h2 := knows_new (ops := rjn10Ops) (a0 := a0) (V := isIx w0.heap.size (idxM l)) 53 4 (by kernel_rfl) (by kernel_rfl) (by kernel_rfl) a w hk hd
    obtain ⟨ia, ic, ei⟩ := OutI.len h2
    refine ⟨#[.int .i64 A.cap, .slice pl nl cl, a.eval (.tmp 53)], ?_, _, rfl, h2⟩
    simp only [List.map_toArray, List.map_cons, List.map_nil, h0, h1, ei]
    exact built_ar3 _ _ _ _ _ _ _), ?_⟩
  refine ⟨isB2 w0.heap.size A.cap (.slice pl nl cl) (idxM l), step_buildP 74 #[(0, .tmp 54), (1, .const (.bool true))] (by kernel_rfl) (wanted_none (by kernel_rfl)) (stable_b2 _ _ _ _) (by
    intro a w hk hd
    obtain ⟨i', e1, h2⟩ : isB1 w0.heap.size A.cap (.slice pl nl cl) (idxM l) (a.eval (.tmp 54)) w := knows_new (ops := rjn10Ops) (a0 := a0) (V := isB1 w0.heap.size A.cap (.slice pl nl cl) (idxM l)) 54 5 (by kernel_rfl) (by kernel_rfl) (by kernel_rfl) a w hk hd
    obtain ⟨ia, ic, ei⟩ := OutI.len h2
    refine ⟨#[.int .i64 A.cap, .slice pl nl cl, i', .bool true, .int .i64 0], ?_, _, rfl, h2⟩
    have e0 : a.eval (.const (.bool true)) = .bool true := rfl
    simp only [List.map_toArray, List.map_cons, List.map_nil, e1, e0, ei]
    exact built_jo _ _ _ _ _ _ _ _), ?_⟩
  intro a w hk hb hd
  obtain ⟨i', d55, h2⟩ := fdone_of (hd 6 (by decide)) (t := 55) (V := isB2 w0.heap.size A.cap (.slice pl nl cl) (idxM l)) (by kernel_rfl) (by kernel_rfl)
  have e4' : a.tmps.getD 4 undef = .pointer (some ⟨r, 0, none⟩) := (hk.2.2 4 (by kernel_rfl)).trans e4
  refine tail_storeN 74 (.tmp 4) (.tmp 55) r [.int .i64 A.cap, .slice pl nl cl, i', .bool true, .int .i64 0] _ (by kernel_rfl) (by kernel_rfl) size_jo e4' d55 (HR.keep hb HR.1) rfl (HF.keep hb HR.1) ⟨rfl, rfl, h2.cells.one, rfl, rfl, trivial⟩ ?_
  exact hQ _ w _ hk.1 e4' hb h2
end Go.Proofs.YtbgconagkgfplaaGreat
end
section
namespace Go.Proofs.YtbgconagkgfplaaGreat
open Go.RowKit
set_option linter.unusedVariables false
set_option linter.unusedSimpArgs false
attribute [local irreducible] setN

def GapB (M N : Nat) (v : Value) : Prop := ∀ b, blk v = some b → b < M ∨ N ≤ b
def GapC (M N : Nat) (cs : List Value) (v : Value) (w : World) : Prop := isCells cs v w ∧ (cs = [] ∨ GapB M N v)
def GapQ (M N : Nat) (q : En × Value × Value) : Prop := (q.1.val.plus.map intC = [] ∨ GapB M N q.2.1) ∧ (q.1.val.minus.map intC = [] ∨ GapB M N q.2.2)
def SrcB (v : Value) (ps : RowE) (w : World) : Prop := (v = .slice none 0 0 ∧ ps = []) ∨ (∃ a c, v = .slice (some a) 0 c ∧ ps = []) ∨ ∃ b off cap, v = .slice (some ⟨b, off, none⟩) ps.length cap ∧ b < w.heap.size ∧ ∀ (j : Nat) (x : Value), (flatE ps)[j]? = some x → w.cell? ⟨b, off + j, none⟩ = some x
def GapE (M N : Nat) (l : List En) (v : Value) (w : World) : Prop := ∃ ps : RowE, ps.map (·.1) = l ∧ RowsOk ps w ∧ SrcB v ps w ∧ (ps = [] ∨ GapB M N v) ∧ ∀ q ∈ ps, GapQ M N q
def GapAr (M N : Nat) (A : Ar) (v : Value) (w : World) : Prop := ∃ vs vi, v = .agg #[.int .i64 A.cap, vs, vi] ∧ GapE M N A.slots vs w ∧ GapC M N (A.index.map intC) vi w
def GapEn (M N : Nat) (X : En) (v : Value) (w : World) : Prop := ∃ vp vm, v = .agg #[.string ⟨X.key.toArray⟩, .int .i64 X.val.kind, .int .i64 X.val.time, .int .i64 X.val.node, .bool X.val.dead, .string ⟨X.val.text.toArray⟩, vp, vm, .int .u64 (X.val.flags.toNat : Int)] ∧ isCells (X.val.plus.map intC) vp w ∧ isCells (X.val.minus.map intC) vm w ∧ GapQ M N (X, vp, vm)
theorem SrcB.srcE {v : Value} {ps : RowE} {w : World} (h : SrcB v ps w) : SrcE v ps w := by
  rcases h with ⟨rfl, rfl⟩ | ⟨a, c, rfl, rfl⟩ | ⟨b, off, cap, rfl, hlt, hc⟩
  · exact .inl ⟨rfl, rfl⟩
  · exact .inr ⟨a, c, rfl, fun j x hx => by simp [flatE] at hx⟩
  · exact .inr ⟨⟨b, off, none⟩, cap, rfl, fun j x hx => by rw [add_at]; exact hc j x hx⟩
theorem SrcB.ens {v : Value} {ps : RowE} {w : World} (h : SrcB v ps w) (hr : RowsOk ps w) : isEns (ps.map (·.1)) v w := by
  rcases h with ⟨rfl, rfl⟩ | ⟨a, c, rfl, rfl⟩ | ⟨b, off, cap, rfl, hlt, hc⟩
  · exact .inl ⟨rfl, rfl⟩
  · exact .inr (.inl ⟨a, c, rfl, rfl⟩)
  · refine .inr (.inr ⟨b, off, cap, by rw [List.length_map], hlt, fun j E hj => ?_⟩)
    rw [List.getElem?_map] at hj
    obtain ⟨q, hq, rfl⟩ := Option.map_eq_some_iff.1 hj
    obtain ⟨h1, h2⟩ := hr q (List.mem_of_getElem? hq)
    refine ⟨q.2.1, q.2.2, fun i x hx => ?_, h1, h2⟩
    have := hc _ _ (flatE_get hq (i := i) (x := x) hx)
    rwa [show off + (j * 9 + i) = off + j * 9 + i by omega] at this
theorem GapE.ens {M N : Nat} {l : List En} {v : Value} {w : World} (h : GapE M N l v w) : isEns l v w := by
  obtain ⟨ps, rfl, hr, hs, _, _⟩ := h
  exact hs.ens hr
theorem GapB.off {M N : Nat} {v : Value} (h : GapB M N v) {g : Nat} (h1 : M ≤ g) (h2 : g < N) : blk v ≠ some g := fun e => by have := h g e; omega
theorem GapC.bt {S : Nat → Prop} {M N : Nat} {cs : List Value} {v : Value} {w w' : World} (h : GapC M N cs v w) (hb : Bt S w w') (hS : ∀ b, S b → M ≤ b ∧ b < N) : GapC M N cs v w' :=
  ⟨hb.cells h.1 (h.2.imp id (fun g b e s => by have := hS b s; have := g b e; omega)), h.2⟩
theorem GapE.bt {S : Nat → Prop} {M N : Nat} {l : List En} {v : Value} {w w' : World} (h : GapE M N l v w) (hb : Bt S w w') (hS : ∀ b, S b → M ≤ b ∧ b < N) : GapE M N l v w' := by
  obtain ⟨ps, h1, h2, h3, h4, h5⟩ := h
  refine ⟨ps, h1, fun q hq => ?_, ?_, h4, h5⟩
  · obtain ⟨r1, r2⟩ := h2 q hq
    obtain ⟨g1, g2⟩ := h5 q hq
    exact ⟨hb.cells r1 (g1.imp id (fun g b e s => by have := hS b s; have := g b e; omega)), hb.cells r2 (g2.imp id (fun g b e s => by have := hS b s; have := g b e; omega))⟩
  · rcases h3 with h3 | h3 | ⟨b, off, cap, e, hlt, hc⟩
    · exact .inl h3
    · exact .inr (.inl h3)
    · rcases h4 with rfl | h4
      · exact .inr (.inl ⟨_, _, e, rfl⟩)
      · refine .inr (.inr ⟨b, off, cap, e, Nat.lt_of_lt_of_le hlt hb.size, fun j x hx => (hb.cell (p := ⟨b, off + j, none⟩) hlt (fun s => ?_)).trans (hc j x hx)⟩)
        have := hS b s
        have := h4 b (by rw [e]; rfl)
        omega
theorem GapC.keep {M N : Nat} {cs : List Value} {v : Value} {w w' : World} (h : GapC M N cs v w) (hb : Below w.heap.size w w') : GapC M N cs v w' := ⟨stable_cells _ _ _ _ h.1 hb, h.2⟩
theorem GapE.keep {M N : Nat} {l : List En} {v : Value} {w w' : World} (h : GapE M N l v w) (hb : Below w.heap.size w w') : GapE M N l v w' :=
  h.bt (S := fun _ => False) (Bt.grow hb) (fun _ h => h.elim)
theorem GapAr.keep {M N : Nat} {A : Ar} {v : Value} {w w' : World} (h : GapAr M N A v w) (hb : Below w.heap.size w w') : GapAr M N A v w' := by
  obtain ⟨vs, vi, e, h1, h2⟩ := h
  exact ⟨vs, vi, e, h1.keep hb, h2.keep hb⟩
theorem GapAr.bt {S : Nat → Prop} {M N : Nat} {A : Ar} {v : Value} {w w' : World} (h : GapAr M N A v w) (hb : Bt S w w') (hS : ∀ b, S b → M ≤ b ∧ b < N) : GapAr M N A v w' := by
  obtain ⟨vs, vi, e, h1, h2⟩ := h
  exact ⟨vs, vi, e, h1.bt hb hS, h2.bt hb hS⟩
theorem GapAr.ar {M N : Nat} {A : Ar} {v : Value} {w : World} (h : GapAr M N A v w) : isAr A v w := by
  obtain ⟨vs, vi, e, h1, h2⟩ := h
  exact ⟨vs, vi, e, h1.ens, h2.1⟩
theorem GapEn.keep {M N : Nat} {X : En} {v : Value} {w w' : World} (h : GapEn M N X v w) (hb : Below w.heap.size w w') : GapEn M N X v w' := by
  obtain ⟨vp, vm, e, h1, h2, h3⟩ := h
  exact ⟨vp, vm, e, stable_cells _ _ _ _ h1 hb, stable_cells _ _ _ _ h2 hb, h3⟩
/-- What stands in an older world. -/
theorem gap_cells {cs : List Value} {v : Value} {w : World} (N : Nat) (h : isCells cs v w) : GapC w.heap.size N cs v w :=
  ⟨h, (cells_lt h).imp id (fun g b e => .inl (g b e))⟩
theorem gap_q {w : World} (N : Nat) {q : En × Value × Value} (h1 : isCells (q.1.val.plus.map intC) q.2.1 w) (h2 : isCells (q.1.val.minus.map intC) q.2.2 w) : GapQ w.heap.size N q :=
  ⟨(cells_lt h1).imp id (fun g b e => .inl (g b e)), (cells_lt h2).imp id (fun g b e => .inl (g b e))⟩
theorem gap_ens {l : List En} {v : Value} {w : World} (N : Nat) (h : isEns l v w) : GapE w.heap.size N l v w := by
  rcases h with ⟨rfl, rfl⟩ | ⟨a, cap, rfl, rfl⟩ | ⟨b, off, cap, rfl, hlt, hc⟩
  · exact ⟨[], rfl, (fun q hq => by cases hq), .inl ⟨rfl, rfl⟩, .inl rfl, (fun q hq => by cases hq)⟩
  · exact ⟨[], rfl, (fun q hq => by cases hq), .inr (.inl ⟨a, cap, rfl, rfl⟩), .inl rfl, (fun q hq => by cases hq)⟩
  · obtain ⟨ps, h1, h2, h3⟩ := ens_rows l b off w hc
    refine ⟨ps, h1, h2, .inr (.inr ⟨b, off, cap, by rw [← h1, List.length_map], hlt, fun j x hx => ?_⟩), .inr (fun b' e => .inl (by injection e with e; have : b = b' := e; omega)), fun q hq => gap_q N (h2 q hq).1 (h2 q hq).2⟩
    obtain ⟨q, hq, hx⟩ := flatE_at hx
    have := h3 _ q hq _ x hx
    rwa [show off + j / 9 * 9 + j % 9 = off + j by omega] at this
theorem GapEn.en {M N : Nat} {X : En} {v : Value} {w : World} (h : GapEn M N X v w) : isEn X v w := by
  obtain ⟨vp, vm, e, h1, h2, _⟩ := h
  exact ⟨vp, vm, e, h1, h2⟩
/-- Rows that were put together from N on. -/
theorem own_gap {M N B : Nat} {w : World} {v : Value} {e : TypeId} {size n : Nat} {xs : List Value} (h : w.ownsRow B e size v n xs) (hN : N ≤ B) : GapB M N v := fun b hb => by
  obtain ⟨_, ⟨rfl, _⟩ | ⟨g, cap, cur, rfl, hB, _⟩⟩ := h
  · cases hb
  · injection hb with hb
    have : g = b := hb
    omega
theorem gap_own {M N B : Nat} {w : World} {v : Value} {ps : RowE} (h : w.ownsRow B 30 9 v ps.length (flatE ps)) (hN : N ≤ B) (hr : RowsOk ps w) (hq : ∀ q ∈ ps, GapQ M N q) : GapE M N (ps.map (·.1)) v w := by
  refine ⟨ps, rfl, hr, ?_, .inr (own_gap h hN), hq⟩
  obtain ⟨hl, ⟨rfl, h0⟩ | ⟨g, cap, cur, rfl, hB, hg, hn, hc, hcs, ht⟩⟩ := h
  · exact .inl ⟨rfl, List.eq_nil_of_length_eq_zero h0⟩
  · refine .inr (.inr ⟨g, 0, cap, rfl, (Array.getElem?_eq_some_iff.1 hg).1, fun j x hx => ?_⟩)
    rw [← ht, List.getElem?_take] at hx
    split at hx
    · simpa [World.cell?, hg] using hx
    · cases hx
theorem gap_new {M N : Nat} {J : En} {jp jm : Value} (h1 : J.val.plus ≠ [] → NewB N jp) (h2 : J.val.minus ≠ [] → NewB N jm) : GapQ M N (J, jp, jm) := by
  refine ⟨?_, ?_⟩
  · by_cases h : J.val.plus = []
    · exact .inl (by show List.map intC J.val.plus = []; rw [h]; rfl)
    · exact .inr (fun b e => .inr (h1 h b e))
  · by_cases h : J.val.minus = []
    · exact .inl (by show List.map intC J.val.minus = []; rw [h]; rfl)
    · exact .inr (fun b e => .inr (h2 h b e))
end Go.Proofs.YtbgconagkgfplaaGreat
end
