/- Joined texts: contracts of the program's functions, and the mathematics that they lean on. -/
import Derived.Test.YtmbnhlhanckkiaaGreatPartF
section
namespace Go.Proofs.YtmbnhlhanckkiaaGreat
open Go.RowKit
set_option linter.unusedVariables false
set_option linter.unusedSimpArgs false
attribute [local irreducible] setN

theorem slots_snoc {m : List En} {x : En} : slotsB (m ++ [x]) = true ↔ slotsB m = true ∧ okE x = true ∧ ∀ y ∈ m, nameB x y = false := by
  unfold slotsB apartB
  simp only [Bool.and_eq_true, decide_eq_true_eq, List.all_append, List.all_cons, List.all_nil, Bool.and_true, List.pairwise_append, List.pairwise_cons, List.not_mem_nil, List.mem_singleton, List.Pairwise.nil]
  constructor
  · rintro ⟨⟨h1, h2⟩, h3, _, h4⟩; exact ⟨⟨h1, h3⟩, h2, fun y hy => h4 y hy x rfl⟩
  · rintro ⟨⟨h1, h3⟩, h2, h4⟩; exact ⟨⟨h1, h2⟩, h3, ⟨fun _ h => h.elim, trivial⟩, fun y hy b hb => by rw [hb]; exact h4 y hy⟩
theorem slots_bad {l : List En} {k : Nat} {x : En} (h : l[k]? = some x) (hx : okE x = false) : slotsB l = false := by
  unfold slotsB
  rw [show l.all okE = false by rw [List.all_eq_false]; exact ⟨x, List.mem_of_getElem? h, by rw [hx]; decide⟩]; rfl
theorem slots_twice {l : List En} {k j : Nat} {x y : En} (h : l[k]? = some x) (hj : l[j]? = some y) (hlt : j < k) (hn : nameB x y = true) : slotsB l = false := by
  unfold slotsB
  cases ha : apartB l with
  | false => simp
  | true => rw [apart_at ha h hj hlt] at hn; cases hn
theorem rechk_at (E : En) (r : Bool) (v : Value) (w : World) (hv : isEn E v w) (hF : FitE E) (hr : okE E = r) : Calls Tryz.prog 104 #[v] w fun e w' => e = .returned (.bool r) ∧ Below w.heap.size w w' := by subst hr; exact rechk_any E v w hv hF
set_option maxRecDepth 100000 in
set_option maxHeartbeats 2000000 in
theorem rslots_any (l : List En) (v : Value) (w : World) (hv : isEns l v w) (hl : l.length ≤ 1000) (fl : ∀ e ∈ l, FitE e) : Calls Tryz.prog 55 #[v] w fun e w' => e = .returned (.bool (slotsB l)) ∧ Below w.heap.size w w' := by
  obtain ⟨va, vc, rfl⟩ := hv.len
  have HV := Kept.mk hv
  have FL := Kept.mk fl
  clear hv fl
  obtain ⟨S, hS⟩ : ∃ S, slotsB l = S := ⟨_, rfl⟩
  rw [hS]
  have HS := Kept.mk hS
  clear hS
  generalize hn : l.length = n at *
  have HN := Kept.mk hn
  clear hn
  go_enter Tryz.func55, Tryz.ntmps55
  go_wp2
  go_loopw [3] (fun IV WZ => ∃ k : Nat, k ≤ n ∧ IV = .int .i64 (k : Int) ∧ Kept (slotsB (l.take k) = true) ∧ Kept (Below w.heap.size w WZ)) (fun IV _ => n - (intOf IV).toNat)
  case atStart => exact ⟨0, Nat.zero_le _, rfl, ⟨by rw [List.take_zero]; rfl⟩, ⟨Below.refl _ _⟩⟩
  case round =>
    obtain ⟨k, hk, rfl, A, B⟩ := hrel
    by_cases hlt : k < n
    · have hlt' : (k : Int) < (n : Int) := by omega
      obtain ⟨X, hX⟩ : ∃ X, l[k]? = some X := ⟨_, List.getElem?_eq_getElem (by rw [HN.out]; exact hlt)⟩
      have HX := Kept.mk hX
      rcases HV.out.cases_ with ⟨_, _, _, hnil⟩ | ⟨bs, os, cs, ea, hbs, hall⟩
      · rw [hnil] at hX; simp at hX
      · injection ea with ea1 ea2 ea3
        subst ea1 ea3
        have HALL := Kept.mk hall
        obtain ⟨xp, xm, hxc, hxp, hxm⟩ := hall k X hX
        have HXC := Kept.mk hxc
        have HXP := Kept.mk hxp
        have HXM := Kept.mk hxm
        have FX := Kept.mk (FL.out X (List.mem_of_getElem? hX))
        have kx0 : wr.cell? ⟨bs, os + k * 9, none⟩ = _ := (B.out.cell (p := ⟨bs, os + k * 9 + 0, none⟩) hbs).trans (hxc 0 _ rfl)
        have kx1 : wr.cell? ⟨bs, os + k * 9 + 1, none⟩ = _ := (B.out.cell (p := ⟨bs, os + k * 9 + 1, none⟩) hbs).trans (hxc 1 _ rfl)
        have kx2 : wr.cell? ⟨bs, os + k * 9 + 2, none⟩ = _ := (B.out.cell (p := ⟨bs, os + k * 9 + 2, none⟩) hbs).trans (hxc 2 _ rfl)
        have kx3 : wr.cell? ⟨bs, os + k * 9 + 3, none⟩ = _ := (B.out.cell (p := ⟨bs, os + k * 9 + 3, none⟩) hbs).trans (hxc 3 _ rfl)
        have kx4 : wr.cell? ⟨bs, os + k * 9 + 4, none⟩ = _ := (B.out.cell (p := ⟨bs, os + k * 9 + 4, none⟩) hbs).trans (hxc 4 _ rfl)
        have kx5 : wr.cell? ⟨bs, os + k * 9 + 5, none⟩ = _ := (B.out.cell (p := ⟨bs, os + k * 9 + 5, none⟩) hbs).trans (hxc 5 _ rfl)
        have kx6 : wr.cell? ⟨bs, os + k * 9 + 6, none⟩ = _ := (B.out.cell (p := ⟨bs, os + k * 9 + 6, none⟩) hbs).trans (hxc 6 _ rfl)
        have kx7 : wr.cell? ⟨bs, os + k * 9 + 7, none⟩ = _ := (B.out.cell (p := ⟨bs, os + k * 9 + 7, none⟩) hbs).trans (hxc 7 _ rfl)
        have kx8 : wr.cell? ⟨bs, os + k * 9 + 8, none⟩ = _ := (B.out.cell (p := ⟨bs, os + k * 9 + 8, none⟩) hbs).trans (hxc 8 _ rfl)
        obtain ⟨c, hc⟩ : ∃ c, okE X = c := ⟨_, rfl⟩
        have HC := Kept.mk hc
        clear hX hall hxc hxp hxm ea2 hc
        go_wp2_with fail
        refine (rechk_at X c _ _ (en_mk HXP.out HXM.out B.out) FX.out HC.out).mono ?_
        rintro e W1 ⟨rfl, hb⟩
        replace B := Kept.mk (B.out.trans (hb.mono B.out.size))
        clear hb kx0 kx1 kx2 kx3 kx4 kx5 kx6 kx7 kx8
        cases c with
        | false =>
          have HF := Kept.mk (show S = false by rw [← HS.out]; exact slots_bad HX.out HC.out)
          go_wp2
          go_ret
          exact ⟨by rw [HF.out]; rfl, B.out⟩
        | true =>
          go_wp2
          go_loopw [4] (fun JV WZ => ∃ j : Nat, j ≤ k ∧ JV = .int .i64 (j : Int) ∧ Kept (∀ m y, m < j → l[m]? = some y → nameB X y = false) ∧ Kept (Below w.heap.size w WZ)) (fun JV _ => k - (intOf JV).toNat)
          case atStart => exact ⟨0, Nat.zero_le _, rfl, ⟨fun m y h => absurd h (Nat.not_lt_zero _)⟩, B⟩
          case round =>
            clear B
            obtain ⟨j, hj, rfl, AJ, B⟩ := hrel
            by_cases hjk : j < k
            · have hjk' : (j : Int) < (k : Int) := by omega
              obtain ⟨Y, hY⟩ : ∃ Y, l[j]? = some Y := ⟨_, List.getElem?_eq_getElem (by rw [HN.out]; omega)⟩
              have HY := Kept.mk hY
              obtain ⟨yp, ym, hyc, hyp, hym⟩ := HALL.out j Y hY
              have HYC := Kept.mk hyc
              obtain ⟨z, hz⟩ : ∃ z, nameB X Y = z := ⟨_, rfl⟩
              have HZ := Kept.mk hz
              have hsw := B.out.size
              clear hY hyc hz
              go_wp2
              refine rsl1_region _ _ _ rfl k j n bs os vc z X Y xp xm yp ym rfl rfl rfl hlt (by omega) (by omega) (fun jj x hx => (B.out.cell (p := ⟨bs, os + k * 9 + jj, none⟩) hbs).trans (HXC.out jj x hx)) (fun jj x hx => (B.out.cell (p := ⟨bs, os + j * 9 + jj, none⟩) hbs).trans (HYC.out jj x hx)) (stable_cells _ _ _ _ HXP.out B.out) (stable_cells _ _ _ _ HXM.out B.out) (stable_cells _ _ _ _ hyp B.out) (stable_cells _ _ _ _ hym B.out) HZ.out ?_
              intro f9 W9 d30 hb9
              simp only [List.foldl_cons, List.foldl_nil, d30]
              generalize f9 22 = y22
              generalize f9 23 = y23
              generalize f9 24 = y24
              generalize f9 25 = y25
              generalize f9 26 = y26
              generalize f9 27 = y27
              generalize f9 28 = y28
              generalize f9 29 = y29
              clear d30
              simp only [List.setIfInBounds_toArray, List.set_cons_succ, List.set_cons_zero]
              replace B := Kept.mk (B.out.trans (hb9.mono hsw))
              clear hb9 hyp hym HYC
              cases z with
              | true =>
                have HF := Kept.mk (show S = false by rw [← HS.out]; exact slots_twice HX.out HY.out hjk HZ.out)
                go_wp2
                go_ret
                exact ⟨by rw [HF.out]; rfl, B.out⟩
              | false =>
                go_wp2
                go_roundw
                case rel =>
                  refine ⟨j + 1, by omega, by go_num, ⟨fun m y hm hy => ?_⟩, B⟩
                  by_cases e : m = j
                  · subst e; rw [HY.out] at hy; injection hy with hy; rw [← hy]; exact HZ.out
                  · exact AJ.out m y (by omega) hy
                case measure => simp [intOf]; omega
            · have hjk' : ¬ (j : Int) < (k : Int) := by omega
              go_wp2
              go_roundw
              case rel =>
                refine ⟨k + 1, by omega, by go_num, ⟨?_⟩, B⟩
                rw [List.take_add_one, HX.out]
                refine slots_snoc.2 ⟨A.out, HC.out, fun y hy => ?_⟩
                obtain ⟨m, hm⟩ := List.getElem?_of_mem hy
                have hmk : m < k := by have := (List.getElem?_eq_some_iff.1 hm).1; rw [List.length_take] at this; omega
                rw [List.getElem?_take_of_lt hmk] at hm
                exact AJ.out m y (by omega) hm
              case measure => simp [intOf]; omega
    · have hlt' : ¬ (k : Int) < (n : Int) := by omega
      have HF := Kept.mk (show S = true by rw [← HS.out, ← A.out, List.take_of_length_le (by rw [HN.out]; omega)])
      go_wp2
      go_ret
      exact ⟨by rw [HF.out]; rfl, B.out⟩
theorem call_vb {f : FuncId} {vs : Array Value} {w : World} {r : Value} (h : Calls Tryz.prog f vs w fun e w' => e = .returned r ∧ Below w.heap.size w w') : Calls Tryz.prog f vs w fun e w' => ∃ x, e = .returned x ∧ isVal r x w' ∧ Below w.heap.size w w' := h.mono (by rintro e w' ⟨rfl, hb⟩; exact ⟨_, rfl, rfl, hb⟩)
theorem rslots_at (l : List En) (r : Bool) (v : Value) (w : World) (hv : isEns l v w) (hl : l.length ≤ 1000) (fl : ∀ e ∈ l, FitE e) (hr : slotsB l = r) : Calls Tryz.prog 55 #[v] w fun e w' => e = .returned (.bool r) ∧ Below w.heap.size w w' := by subst hr; exact rslots_any l v w hv hl fl
theorem rindex_pred (l : List En) (v : Value) (w : World) (hv : isEns l v w) (hl : l.length ≤ 1000) : Calls Tryz.prog 57 #[v] w fun e w' => ∃ x, e = .returned x ∧ isCells ((idxM l).map intC) x w' ∧ Below w.heap.size w w' :=
  (rindex_post l v w hv hl).mono (by rintro e w' ⟨v', rfl, h1, hb⟩; exact ⟨_, rfl, h1.cells, hb⟩)
theorem rints_at (a b : List Int) (r : Bool) (v u : Value) (w : World) (hv : isCells (a.map intC) v w) (hu : isCells (b.map intC) u w) (ha : a.length ≤ 100000) (hb : b.length ≤ 100000) (hr : decide (a = b) = r) : Calls Tryz.prog 56 #[v, u] w fun e w' => e = .returned (.bool r) ∧ Below w.heap.size w w' := by subst hr; exact refInts_any a b v u w hv hu (by omega) (by omega)
theorem geq_int {P : Program} (t : TypeId) (k : IntKind) (x y : Int) (b : Bool) (h : decide (y ≤ x) = b) (w : World) : (binOp .geq t (.int k x) (.int k y)).run P w = .ok (.bool b) w := by subst h; simp [go_sem]
theorem leq_int {P : Program} (t : TypeId) (k : IntKind) (x y : Int) (b : Bool) (h : decide (x ≤ y) = b) (w : World) : (binOp .leq t (.int k x) (.int k y)).run P w = .ok (.bool b) w := by subst h; simp [go_sem]
noncomputable def rck0Ops : Array Oper := regionOf Tryz.f14 1
set_option maxRecDepth 100000 in
set_option maxHeartbeats 2000000 in
theorem rck0_region (Q : Exit → Act → World → Prop) (a0 : Act) (w0 : World) (hsz : a0.tmps.size = 32) (g n sc : Nat) (c : Int) (sa : Option Addr) (vi : Value) (L : List En) (idx : List Int) (z : Bool) (e1 : a0.tmps.getD 1 undef = .pointer (some ⟨g, 0, none⟩)) (HG : CellsN w0 g [.int .i64 c, .slice sa n sc, vi]) (hs : isEns L (.slice sa n sc) w0) (hi : isCells (idx.map intC) vi w0) (hL : L.length ≤ 1000) (hI : idx.length ≤ 100000) (fL : ∀ e ∈ L, FitE e) (h1 : decide (1 ≤ c) = false)
    (hQ : ∀ (g : Nat → Value) (w : World), g 2 = .bool false → Below w0.heap.size w0 w → Q .normal { tmps := [3, 4, 5, 6, 7, 8, 9, 10, 11, 12, 13, 14, 15, 16, 17, 18, 19, 20, 21, 22, 23, 24, 25, 26, 27, 28, 29, 30, 31, 2].foldl (fun t s => t.setIfInBounds s (g s)) a0.tmps, defers := a0.defers } w) :
    (Code.region 1 rck0Ops true).wp Tryz.prog Q a0 w0 := by
  refine wp_region_flow mixed (by rw [hsz]; kernel_rfl) ?_
  rw [show rck0Ops.size = 30 by kernel_rfl]
  refine ⟨isVal (.pointer (some ⟨g, 0, none⟩)), step_field 25 (.tmp 1) 0 ⟨g, 0, none⟩ ⟨g, 0, none⟩ (by kernel_rfl) (wanted_none (by kernel_rfl)) (knows_old 1 (.pointer (some ⟨g, 0, none⟩)) (by kernel_rfl) e1) (f_ar_0_0 (g)), ?_⟩
  refine ⟨isVal (.int .i64 c), step_read 3 (.tmp 3) ⟨g, 0, none⟩ (.int .i64 c) (by kernel_rfl) (wanted_none (by kernel_rfl)) (knows_new (V := isVal (.pointer (some ⟨g, 0, none⟩))) 3 0 (by kernel_rfl) (by kernel_rfl) (by kernel_rfl)) (HG.2 0 _ rfl) (HG.1) (agg_noZ), ?_⟩
  refine ⟨isVal (.bool false), step_bin .geq 3 3 (.tmp 4) (.const (.int .i64 1)) (.int .i64 c) (.int .i64 1) (.bool false) (by kernel_rfl) (wanted_none (by kernel_rfl)) (knows_new (V := isVal (.int .i64 c)) 4 1 (by kernel_rfl) (by kernel_rfl) (by kernel_rfl)) (knows_const _) (fun _ => rfl) (geq_int _ _ _ _ _ h1), ?_⟩
  refine ⟨isVal (.bool false), step_move (.tmp 5) (by kernel_rfl) (wanted_none (by kernel_rfl)) (stable_val _) (knows_new (V := isVal (.bool false)) 5 2 (by kernel_rfl) (by kernel_rfl) (by kernel_rfl)), ?_⟩
  refine ⟨_, step_skip 3 6 true false (by kernel_rfl) (by kernel_rfl) (by kernel_rfl) (by kernel_rfl) rfl, ?_⟩
  refine ⟨_, step_skip 3 6 true false (by kernel_rfl) (by kernel_rfl) (by kernel_rfl) (by kernel_rfl) rfl, ?_⟩
  refine ⟨_, step_skip 3 6 true false (by kernel_rfl) (by kernel_rfl) (by kernel_rfl) (by kernel_rfl) rfl, ?_⟩
  refine ⟨isVal (.bool false), step_pick (.tmp 6) (.tmp 9) (.const (.bool false)) false (by kernel_rfl) (wanted_none (by kernel_rfl)) (stable_val _) (knows_new (V := isVal (.bool false)) 6 3 (by kernel_rfl) (by kernel_rfl) (by kernel_rfl)) (knows_const _), ?_⟩
  refine ⟨isVal (.bool false), step_move (.tmp 10) (by kernel_rfl) (wanted_none (by kernel_rfl)) (stable_val _) (knows_new (V := isVal (.bool false)) 10 7 (by kernel_rfl) (by kernel_rfl) (by kernel_rfl)), ?_⟩
  refine ⟨_, step_skip 8 11 true false (by kernel_rfl) (by kernel_rfl) (by kernel_rfl) (by kernel_rfl) rfl, ?_⟩
  refine ⟨_, step_skip 8 11 true false (by kernel_rfl) (by kernel_rfl) (by kernel_rfl) (by kernel_rfl) rfl, ?_⟩
  refine ⟨_, step_skip 8 11 true false (by kernel_rfl) (by kernel_rfl) (by kernel_rfl) (by kernel_rfl) rfl, ?_⟩
  refine ⟨_, step_skip 8 11 true false (by kernel_rfl) (by kernel_rfl) (by kernel_rfl) (by kernel_rfl) rfl, ?_⟩
  refine ⟨_, step_skip 8 11 true false (by kernel_rfl) (by kernel_rfl) (by kernel_rfl) (by kernel_rfl) rfl, ?_⟩
  refine ⟨_, step_skip 8 11 true false (by kernel_rfl) (by kernel_rfl) (by kernel_rfl) (by kernel_rfl) rfl, ?_⟩
  refine ⟨isVal (.bool false), step_pick (.tmp 11) (.tmp 17) (.const (.bool false)) false (by kernel_rfl) (wanted_none (by kernel_rfl)) (stable_val _) (knows_new (V := isVal (.bool false)) 11 8 (by kernel_rfl) (by kernel_rfl) (by kernel_rfl)) (knows_const _), ?_⟩
  refine ⟨isVal (.bool false), step_move (.tmp 18) (by kernel_rfl) (wanted_none (by kernel_rfl)) (stable_val _) (knows_new (V := isVal (.bool false)) 18 15 (by kernel_rfl) (by kernel_rfl) (by kernel_rfl)), ?_⟩
  refine ⟨_, step_skip 16 19 true false (by kernel_rfl) (by kernel_rfl) (by kernel_rfl) (by kernel_rfl) rfl, ?_⟩
  refine ⟨_, step_skip 16 19 true false (by kernel_rfl) (by kernel_rfl) (by kernel_rfl) (by kernel_rfl) rfl, ?_⟩
  refine ⟨_, step_skip 16 19 true false (by kernel_rfl) (by kernel_rfl) (by kernel_rfl) (by kernel_rfl) rfl, ?_⟩
  refine ⟨isVal (.bool false), step_pick (.tmp 19) (.tmp 22) (.const (.bool false)) false (by kernel_rfl) (wanted_none (by kernel_rfl)) (stable_val _) (knows_new (V := isVal (.bool false)) 19 16 (by kernel_rfl) (by kernel_rfl) (by kernel_rfl)) (knows_const _), ?_⟩
  refine ⟨isVal (.bool false), step_move (.tmp 23) (by kernel_rfl) (wanted_none (by kernel_rfl)) (stable_val _) (knows_new (V := isVal (.bool false)) 23 20 (by kernel_rfl) (by kernel_rfl) (by kernel_rfl)), ?_⟩
  refine ⟨_, step_skip 21 24 true false (by kernel_rfl) (by kernel_rfl) (by kernel_rfl) (by kernel_rfl) rfl, ?_⟩
  refine ⟨_, step_skip 21 24 true false (by kernel_rfl) (by kernel_rfl) (by kernel_rfl) (by kernel_rfl) rfl, ?_⟩
  refine ⟨_, step_skip 21 24 true false (by kernel_rfl) (by kernel_rfl) (by kernel_rfl) (by kernel_rfl) rfl, ?_⟩
  refine ⟨_, step_skip 21 24 true false (by kernel_rfl) (by kernel_rfl) (by kernel_rfl) (by kernel_rfl) rfl, ?_⟩
  refine ⟨_, step_skip 21 24 true false (by kernel_rfl) (by kernel_rfl) (by kernel_rfl) (by kernel_rfl) rfl, ?_⟩
  refine ⟨_, step_skip 21 24 true false (by kernel_rfl) (by kernel_rfl) (by kernel_rfl) (by kernel_rfl) rfl, ?_⟩
  refine ⟨isVal (.bool false), step_pick (.tmp 24) (.tmp 30) (.const (.bool false)) false (by kernel_rfl) (wanted_none (by kernel_rfl)) (stable_val _) (knows_new (V := isVal (.bool false)) 24 21 (by kernel_rfl) (by kernel_rfl) (by kernel_rfl)) (knows_const _), ?_⟩
  refine ⟨isVal (.bool false), step_assign (.tmp 31) (by kernel_rfl) (wanted_none (by kernel_rfl)) (stable_val _) (knows_new (V := isVal (.bool false)) 31 28 (by kernel_rfl) (by kernel_rfl) (by kernel_rfl)), ?_⟩
  intro a w hkp hb hd
  rw [kept_of hkp [some 3, some 4, some 5, some 6, some 7, some 8, some 9, some 10, some 11, some 12, some 13, some 14, some 15, some 16, some 17, some 18, some 19, some 20, some 21, some 22, some 23, some 24, some 25, some 26, some 27, some 28, some 29, some 30, some 31, some 2] [3, 4, 5, 6, 7, 8, 9, 10, 11, 12, 13, 14, 15, 16, 17, 18, 19, 20, 21, 22, 23, 24, 25, 26, 27, 28, 29, 30, 31, 2] (by kernel_rfl) (by decide)]
  have d2 := fdone_of (hd 29 (by rw [show rck0Ops.size = 30 by kernel_rfl]; decide)) (t := 2) (V := isVal (.bool false)) (by kernel_rfl) (by kernel_rfl)
  exact hQ (fun s => a.tmps.getD s undef) w d2 hb
noncomputable def rck1Ops : Array Oper := regionOf Tryz.f14 1
set_option maxRecDepth 100000 in
set_option maxHeartbeats 2000000 in
theorem rck1_region (Q : Exit → Act → World → Prop) (a0 : Act) (w0 : World) (hsz : a0.tmps.size = 32) (g n sc : Nat) (c : Int) (sa : Option Addr) (vi : Value) (L : List En) (idx : List Int) (z : Bool) (e1 : a0.tmps.getD 1 undef = .pointer (some ⟨g, 0, none⟩)) (HG : CellsN w0 g [.int .i64 c, .slice sa n sc, vi]) (hs : isEns L (.slice sa n sc) w0) (hi : isCells (idx.map intC) vi w0) (hL : L.length ≤ 1000) (hI : idx.length ≤ 100000) (fL : ∀ e ∈ L, FitE e) (h1 : decide (1 ≤ c) = true) (h2 : decide (c ≤ 8) = false)
    (hQ : ∀ (g : Nat → Value) (w : World), g 2 = .bool false → Below w0.heap.size w0 w → Q .normal { tmps := [3, 4, 5, 6, 7, 8, 9, 10, 11, 12, 13, 14, 15, 16, 17, 18, 19, 20, 21, 22, 23, 24, 25, 26, 27, 28, 29, 30, 31, 2].foldl (fun t s => t.setIfInBounds s (g s)) a0.tmps, defers := a0.defers } w) :
    (Code.region 1 rck1Ops true).wp Tryz.prog Q a0 w0 := by
  refine wp_region_flow mixed (by rw [hsz]; kernel_rfl) ?_
  rw [show rck1Ops.size = 30 by kernel_rfl]
  refine ⟨isVal (.pointer (some ⟨g, 0, none⟩)), step_field 25 (.tmp 1) 0 ⟨g, 0, none⟩ ⟨g, 0, none⟩ (by kernel_rfl) (wanted_none (by kernel_rfl)) (knows_old 1 (.pointer (some ⟨g, 0, none⟩)) (by kernel_rfl) e1) (f_ar_0_0 (g)), ?_⟩
  refine ⟨isVal (.int .i64 c), step_read 3 (.tmp 3) ⟨g, 0, none⟩ (.int .i64 c) (by kernel_rfl) (wanted_none (by kernel_rfl)) (knows_new (V := isVal (.pointer (some ⟨g, 0, none⟩))) 3 0 (by kernel_rfl) (by kernel_rfl) (by kernel_rfl)) (HG.2 0 _ rfl) (HG.1) (agg_noZ), ?_⟩
  refine ⟨isVal (.bool true), step_bin .geq 3 3 (.tmp 4) (.const (.int .i64 1)) (.int .i64 c) (.int .i64 1) (.bool true) (by kernel_rfl) (wanted_none (by kernel_rfl)) (knows_new (V := isVal (.int .i64 c)) 4 1 (by kernel_rfl) (by kernel_rfl) (by kernel_rfl)) (knows_const _) (fun _ => rfl) (geq_int _ _ _ _ _ h1), ?_⟩
  refine ⟨isVal (.bool true), step_move (.tmp 5) (by kernel_rfl) (wanted_none (by kernel_rfl)) (stable_val _) (knows_new (V := isVal (.bool true)) 5 2 (by kernel_rfl) (by kernel_rfl) (by kernel_rfl)), ?_⟩
  refine ⟨isVal (.pointer (some ⟨g, 0, none⟩)), step_field 25 (.tmp 1) 0 ⟨g, 0, none⟩ ⟨g, 0, none⟩ (by kernel_rfl) (wanted_some 3 6 true (by kernel_rfl) (by kernel_rfl) (by kernel_rfl) (by kernel_rfl)) (knows_old 1 (.pointer (some ⟨g, 0, none⟩)) (by kernel_rfl) e1) (f_ar_0_0 (g)), ?_⟩
  refine ⟨isVal (.int .i64 c), step_read 3 (.tmp 7) ⟨g, 0, none⟩ (.int .i64 c) (by kernel_rfl) (wanted_some 3 6 true (by kernel_rfl) (by kernel_rfl) (by kernel_rfl) (by kernel_rfl)) (knows_new (V := isVal (.pointer (some ⟨g, 0, none⟩))) 7 4 (by kernel_rfl) (by kernel_rfl) (by kernel_rfl)) (HG.2 0 _ rfl) (HG.1) (agg_noZ), ?_⟩
  refine ⟨isVal (.bool false), step_bin .leq 3 3 (.tmp 8) (.const (.int .i64 8)) (.int .i64 c) (.int .i64 8) (.bool false) (by kernel_rfl) (wanted_some 3 6 true (by kernel_rfl) (by kernel_rfl) (by kernel_rfl) (by kernel_rfl)) (knows_new (V := isVal (.int .i64 c)) 8 5 (by kernel_rfl) (by kernel_rfl) (by kernel_rfl)) (knows_const _) (fun _ => rfl) (leq_int _ _ _ _ _ h2), ?_⟩
  refine ⟨isVal (.bool false), step_pick (.tmp 6) (.tmp 9) (.const (.bool false)) true (by kernel_rfl) (wanted_none (by kernel_rfl)) (stable_val _) (knows_new (V := isVal (.bool true)) 6 3 (by kernel_rfl) (by kernel_rfl) (by kernel_rfl)) (knows_new (V := isVal (.bool false)) 9 6 (by kernel_rfl) (by kernel_rfl) (by kernel_rfl)), ?_⟩
  refine ⟨isVal (.bool false), step_move (.tmp 10) (by kernel_rfl) (wanted_none (by kernel_rfl)) (stable_val _) (knows_new (V := isVal (.bool false)) 10 7 (by kernel_rfl) (by kernel_rfl) (by kernel_rfl)), ?_⟩
  refine ⟨_, step_skip 8 11 true false (by kernel_rfl) (by kernel_rfl) (by kernel_rfl) (by kernel_rfl) rfl, ?_⟩
  refine ⟨_, step_skip 8 11 true false (by kernel_rfl) (by kernel_rfl) (by kernel_rfl) (by kernel_rfl) rfl, ?_⟩
  refine ⟨_, step_skip 8 11 true false (by kernel_rfl) (by kernel_rfl) (by kernel_rfl) (by kernel_rfl) rfl, ?_⟩
  refine ⟨_, step_skip 8 11 true false (by kernel_rfl) (by kernel_rfl) (by kernel_rfl) (by kernel_rfl) rfl, ?_⟩
  refine ⟨_, step_skip 8 11 true false (by kernel_rfl) (by kernel_rfl) (by kernel_rfl) (by kernel_rfl) rfl, ?_⟩
  refine ⟨_, step_skip 8 11 true false (by kernel_rfl) (by kernel_rfl) (by kernel_rfl) (by kernel_rfl) rfl, ?_⟩
  refine ⟨isVal (.bool false), step_pick (.tmp 11) (.tmp 17) (.const (.bool false)) false (by kernel_rfl) (wanted_none (by kernel_rfl)) (stable_val _) (knows_new (V := isVal (.bool false)) 11 8 (by kernel_rfl) (by kernel_rfl) (by kernel_rfl)) (knows_const _), ?_⟩
  refine ⟨isVal (.bool false), step_move (.tmp 18) (by kernel_rfl) (wanted_none (by kernel_rfl)) (stable_val _) (knows_new (V := isVal (.bool false)) 18 15 (by kernel_rfl) (by kernel_rfl) (by kernel_rfl)), ?_⟩
  refine ⟨_, step_skip 16 19 true false (by kernel_rfl) (by kernel_rfl) (by kernel_rfl) (by kernel_rfl) rfl, ?_⟩
  refine ⟨_, step_skip 16 19 true false (by kernel_rfl) (by kernel_rfl) (by kernel_rfl) (by kernel_rfl) rfl, ?_⟩
  refine ⟨_, step_skip 16 19 true false (by kernel_rfl) (by kernel_rfl) (by kernel_rfl) (by kernel_rfl) rfl, ?_⟩
  refine ⟨isVal (.bool false), step_pick (.tmp 19) (.tmp 22) (.const (.bool false)) false (by kernel_rfl) (wanted_none (by kernel_rfl)) (stable_val _) (knows_new (V := isVal (.bool false)) 19 16 (by kernel_rfl) (by kernel_rfl) (by kernel_rfl)) (knows_const _), ?_⟩
  refine ⟨isVal (.bool false), step_move (.tmp 23) (by kernel_rfl) (wanted_none (by kernel_rfl)) (stable_val _) (knows_new (V := isVal (.bool false)) 23 20 (by kernel_rfl) (by kernel_rfl) (by kernel_rfl)), ?_⟩
  refine ⟨_, step_skip 21 24 true false (by kernel_rfl) (by kernel_rfl) (by kernel_rfl) (by kernel_rfl) rfl, ?_⟩
  refine ⟨_, step_skip 21 24 true false (by kernel_rfl) (by kernel_rfl) (by kernel_rfl) (by kernel_rfl) rfl, ?_⟩
  refine ⟨_, step_skip 21 24 true false (by kernel_rfl) (by kernel_rfl) (by kernel_rfl) (by kernel_rfl) rfl, ?_⟩
  refine ⟨_, step_skip 21 24 true false (by kernel_rfl) (by kernel_rfl) (by kernel_rfl) (by kernel_rfl) rfl, ?_⟩
  refine ⟨_, step_skip 21 24 true false (by kernel_rfl) (by kernel_rfl) (by kernel_rfl) (by kernel_rfl) rfl, ?_⟩
  refine ⟨_, step_skip 21 24 true false (by kernel_rfl) (by kernel_rfl) (by kernel_rfl) (by kernel_rfl) rfl, ?_⟩
  refine ⟨isVal (.bool false), step_pick (.tmp 24) (.tmp 30) (.const (.bool false)) false (by kernel_rfl) (wanted_none (by kernel_rfl)) (stable_val _) (knows_new (V := isVal (.bool false)) 24 21 (by kernel_rfl) (by kernel_rfl) (by kernel_rfl)) (knows_const _), ?_⟩
  refine ⟨isVal (.bool false), step_assign (.tmp 31) (by kernel_rfl) (wanted_none (by kernel_rfl)) (stable_val _) (knows_new (V := isVal (.bool false)) 31 28 (by kernel_rfl) (by kernel_rfl) (by kernel_rfl)), ?_⟩
  intro a w hkp hb hd
  rw [kept_of hkp [some 3, some 4, some 5, some 6, some 7, some 8, some 9, some 10, some 11, some 12, some 13, some 14, some 15, some 16, some 17, some 18, some 19, some 20, some 21, some 22, some 23, some 24, some 25, some 26, some 27, some 28, some 29, some 30, some 31, some 2] [3, 4, 5, 6, 7, 8, 9, 10, 11, 12, 13, 14, 15, 16, 17, 18, 19, 20, 21, 22, 23, 24, 25, 26, 27, 28, 29, 30, 31, 2] (by kernel_rfl) (by decide)]
  have d2 := fdone_of (hd 29 (by rw [show rck1Ops.size = 30 by kernel_rfl]; decide)) (t := 2) (V := isVal (.bool false)) (by kernel_rfl) (by kernel_rfl)
  exact hQ (fun s => a.tmps.getD s undef) w d2 hb
noncomputable def rck2Ops : Array Oper := regionOf Tryz.f14 1
set_option maxRecDepth 100000 in
set_option maxHeartbeats 2000000 in
theorem rck2_region (Q : Exit → Act → World → Prop) (a0 : Act) (w0 : World) (hsz : a0.tmps.size = 32) (g n sc : Nat) (c : Int) (sa : Option Addr) (vi : Value) (L : List En) (idx : List Int) (z : Bool) (e1 : a0.tmps.getD 1 undef = .pointer (some ⟨g, 0, none⟩)) (HG : CellsN w0 g [.int .i64 c, .slice sa n sc, vi]) (hs : isEns L (.slice sa n sc) w0) (hi : isCells (idx.map intC) vi w0) (hL : L.length ≤ 1000) (hI : idx.length ≤ 100000) (fL : ∀ e ∈ L, FitE e) (h1 : decide (1 ≤ c) = true) (h2 : decide (c ≤ 8) = true) (h3 : decide ((n : Int) ≤ c) = false)
    (hQ : ∀ (g : Nat → Value) (w : World), g 2 = .bool false → Below w0.heap.size w0 w → Q .normal { tmps := [3, 4, 5, 6, 7, 8, 9, 10, 11, 12, 13, 14, 15, 16, 17, 18, 19, 20, 21, 22, 23, 24, 25, 26, 27, 28, 29, 30, 31, 2].foldl (fun t s => t.setIfInBounds s (g s)) a0.tmps, defers := a0.defers } w) :
    (Code.region 1 rck2Ops true).wp Tryz.prog Q a0 w0 := by
  refine wp_region_flow mixed (by rw [hsz]; kernel_rfl) ?_
  rw [show rck2Ops.size = 30 by kernel_rfl]
  refine ⟨isVal (.pointer (some ⟨g, 0, none⟩)), step_field 25 (.tmp 1) 0 ⟨g, 0, none⟩ ⟨g, 0, none⟩ (by kernel_rfl) (wanted_none (by kernel_rfl)) (knows_old 1 (.pointer (some ⟨g, 0, none⟩)) (by kernel_rfl) e1) (f_ar_0_0 (g)), ?_⟩
  refine ⟨isVal (.int .i64 c), step_read 3 (.tmp 3) ⟨g, 0, none⟩ (.int .i64 c) (by kernel_rfl) (wanted_none (by kernel_rfl)) (knows_new (V := isVal (.pointer (some ⟨g, 0, none⟩))) 3 0 (by kernel_rfl) (by kernel_rfl) (by kernel_rfl)) (HG.2 0 _ rfl) (HG.1) (agg_noZ), ?_⟩
  refine ⟨isVal (.bool true), step_bin .geq 3 3 (.tmp 4) (.const (.int .i64 1)) (.int .i64 c) (.int .i64 1) (.bool true) (by kernel_rfl) (wanted_none (by kernel_rfl)) (knows_new (V := isVal (.int .i64 c)) 4 1 (by kernel_rfl) (by kernel_rfl) (by kernel_rfl)) (knows_const _) (fun _ => rfl) (geq_int _ _ _ _ _ h1), ?_⟩
  refine ⟨isVal (.bool true), step_move (.tmp 5) (by kernel_rfl) (wanted_none (by kernel_rfl)) (stable_val _) (knows_new (V := isVal (.bool true)) 5 2 (by kernel_rfl) (by kernel_rfl) (by kernel_rfl)), ?_⟩
  refine ⟨isVal (.pointer (some ⟨g, 0, none⟩)), step_field 25 (.tmp 1) 0 ⟨g, 0, none⟩ ⟨g, 0, none⟩ (by kernel_rfl) (wanted_some 3 6 true (by kernel_rfl) (by kernel_rfl) (by kernel_rfl) (by kernel_rfl)) (knows_old 1 (.pointer (some ⟨g, 0, none⟩)) (by kernel_rfl) e1) (f_ar_0_0 (g)), ?_⟩
  refine ⟨isVal (.int .i64 c), step_read 3 (.tmp 7) ⟨g, 0, none⟩ (.int .i64 c) (by kernel_rfl) (wanted_some 3 6 true (by kernel_rfl) (by kernel_rfl) (by kernel_rfl) (by kernel_rfl)) (knows_new (V := isVal (.pointer (some ⟨g, 0, none⟩))) 7 4 (by kernel_rfl) (by kernel_rfl) (by kernel_rfl)) (HG.2 0 _ rfl) (HG.1) (agg_noZ), ?_⟩
  refine ⟨isVal (.bool true), step_bin .leq 3 3 (.tmp 8) (.const (.int .i64 8)) (.int .i64 c) (.int .i64 8) (.bool true) (by kernel_rfl) (wanted_some 3 6 true (by kernel_rfl) (by kernel_rfl) (by kernel_rfl) (by kernel_rfl)) (knows_new (V := isVal (.int .i64 c)) 8 5 (by kernel_rfl) (by kernel_rfl) (by kernel_rfl)) (knows_const _) (fun _ => rfl) (leq_int _ _ _ _ _ h2), ?_⟩
  refine ⟨isVal (.bool true), step_pick (.tmp 6) (.tmp 9) (.const (.bool false)) true (by kernel_rfl) (wanted_none (by kernel_rfl)) (stable_val _) (knows_new (V := isVal (.bool true)) 6 3 (by kernel_rfl) (by kernel_rfl) (by kernel_rfl)) (knows_new (V := isVal (.bool true)) 9 6 (by kernel_rfl) (by kernel_rfl) (by kernel_rfl)), ?_⟩
  refine ⟨isVal (.bool true), step_move (.tmp 10) (by kernel_rfl) (wanted_none (by kernel_rfl)) (stable_val _) (knows_new (V := isVal (.bool true)) 10 7 (by kernel_rfl) (by kernel_rfl) (by kernel_rfl)), ?_⟩
  refine ⟨isVal (.pointer (some ⟨g, 1, none⟩)), step_field 25 (.tmp 1) 1 ⟨g, 0, none⟩ ⟨g, 1, none⟩ (by kernel_rfl) (wanted_some 8 11 true (by kernel_rfl) (by kernel_rfl) (by kernel_rfl) (by kernel_rfl)) (knows_old 1 (.pointer (some ⟨g, 0, none⟩)) (by kernel_rfl) e1) (f_ar_0_1 (g)), ?_⟩
  refine ⟨isVal (.slice sa n sc), step_read 22 (.tmp 12) ⟨g, 1, none⟩ (.slice sa n sc) (by kernel_rfl) (wanted_some 8 11 true (by kernel_rfl) (by kernel_rfl) (by kernel_rfl) (by kernel_rfl)) (knows_new (V := isVal (.pointer (some ⟨g, 1, none⟩))) 12 9 (by kernel_rfl) (by kernel_rfl) (by kernel_rfl)) (HG.2 1 _ rfl) (HG.1) (agg_noS), ?_⟩
  refine ⟨isVal (.int .i64 (n : Int)), step_len 22 (.tmp 13) (.slice sa n sc) (.int .i64 (n : Int)) (by kernel_rfl) (wanted_some 8 11 true (by kernel_rfl) (by kernel_rfl) (by kernel_rfl) (by kernel_rfl)) (knows_new (V := isVal (.slice sa n sc)) 13 10 (by kernel_rfl) (by kernel_rfl) (by kernel_rfl)) ((fun ty w => by simp [Builtin.len_, run_underlying Tryz.underlying22]; rfl)), ?_⟩
  refine ⟨isVal (.pointer (some ⟨g, 0, none⟩)), step_field 25 (.tmp 1) 0 ⟨g, 0, none⟩ ⟨g, 0, none⟩ (by kernel_rfl) (wanted_some 8 11 true (by kernel_rfl) (by kernel_rfl) (by kernel_rfl) (by kernel_rfl)) (knows_old 1 (.pointer (some ⟨g, 0, none⟩)) (by kernel_rfl) e1) (f_ar_0_0 (g)), ?_⟩
  refine ⟨isVal (.int .i64 c), step_read 3 (.tmp 15) ⟨g, 0, none⟩ (.int .i64 c) (by kernel_rfl) (wanted_some 8 11 true (by kernel_rfl) (by kernel_rfl) (by kernel_rfl) (by kernel_rfl)) (knows_new (V := isVal (.pointer (some ⟨g, 0, none⟩))) 15 12 (by kernel_rfl) (by kernel_rfl) (by kernel_rfl)) (HG.2 0 _ rfl) (HG.1) (agg_noZ), ?_⟩
  refine ⟨isVal (.bool false), step_bin .leq 3 3 (.tmp 14) (.tmp 16) (.int .i64 (n : Int)) (.int .i64 c) (.bool false) (by kernel_rfl) (wanted_some 8 11 true (by kernel_rfl) (by kernel_rfl) (by kernel_rfl) (by kernel_rfl)) (knows_new (V := isVal (.int .i64 (n : Int))) 14 11 (by kernel_rfl) (by kernel_rfl) (by kernel_rfl)) (knows_new (V := isVal (.int .i64 c)) 16 13 (by kernel_rfl) (by kernel_rfl) (by kernel_rfl)) (fun _ => rfl) (leq_int _ _ _ _ _ h3), ?_⟩
  refine ⟨isVal (.bool false), step_pick (.tmp 11) (.tmp 17) (.const (.bool false)) true (by kernel_rfl) (wanted_none (by kernel_rfl)) (stable_val _) (knows_new (V := isVal (.bool true)) 11 8 (by kernel_rfl) (by kernel_rfl) (by kernel_rfl)) (knows_new (V := isVal (.bool false)) 17 14 (by kernel_rfl) (by kernel_rfl) (by kernel_rfl)), ?_⟩
  refine ⟨isVal (.bool false), step_move (.tmp 18) (by kernel_rfl) (wanted_none (by kernel_rfl)) (stable_val _) (knows_new (V := isVal (.bool false)) 18 15 (by kernel_rfl) (by kernel_rfl) (by kernel_rfl)), ?_⟩
  refine ⟨_, step_skip 16 19 true false (by kernel_rfl) (by kernel_rfl) (by kernel_rfl) (by kernel_rfl) rfl, ?_⟩
  refine ⟨_, step_skip 16 19 true false (by kernel_rfl) (by kernel_rfl) (by kernel_rfl) (by kernel_rfl) rfl, ?_⟩
  refine ⟨_, step_skip 16 19 true false (by kernel_rfl) (by kernel_rfl) (by kernel_rfl) (by kernel_rfl) rfl, ?_⟩
  refine ⟨isVal (.bool false), step_pick (.tmp 19) (.tmp 22) (.const (.bool false)) false (by kernel_rfl) (wanted_none (by kernel_rfl)) (stable_val _) (knows_new (V := isVal (.bool false)) 19 16 (by kernel_rfl) (by kernel_rfl) (by kernel_rfl)) (knows_const _), ?_⟩
  refine ⟨isVal (.bool false), step_move (.tmp 23) (by kernel_rfl) (wanted_none (by kernel_rfl)) (stable_val _) (knows_new (V := isVal (.bool false)) 23 20 (by kernel_rfl) (by kernel_rfl) (by kernel_rfl)), ?_⟩
  refine ⟨_, step_skip 21 24 true false (by kernel_rfl) (by kernel_rfl) (by kernel_rfl) (by kernel_rfl) rfl, ?_⟩
  refine ⟨_, step_skip 21 24 true false (by kernel_rfl) (by kernel_rfl) (by kernel_rfl) (by kernel_rfl) rfl, ?_⟩
  refine ⟨_, step_skip 21 24 true false (by kernel_rfl) (by kernel_rfl) (by kernel_rfl) (by kernel_rfl) rfl, ?_⟩
  refine ⟨_, step_skip 21 24 true false (by kernel_rfl) (by kernel_rfl) (by kernel_rfl) (by kernel_rfl) rfl, ?_⟩
  refine ⟨_, step_skip 21 24 true false (by kernel_rfl) (by kernel_rfl) (by kernel_rfl) (by kernel_rfl) rfl, ?_⟩
  refine ⟨_, step_skip 21 24 true false (by kernel_rfl) (by kernel_rfl) (by kernel_rfl) (by kernel_rfl) rfl, ?_⟩
  refine ⟨isVal (.bool false), step_pick (.tmp 24) (.tmp 30) (.const (.bool false)) false (by kernel_rfl) (wanted_none (by kernel_rfl)) (stable_val _) (knows_new (V := isVal (.bool false)) 24 21 (by kernel_rfl) (by kernel_rfl) (by kernel_rfl)) (knows_const _), ?_⟩
  refine ⟨isVal (.bool false), step_assign (.tmp 31) (by kernel_rfl) (wanted_none (by kernel_rfl)) (stable_val _) (knows_new (V := isVal (.bool false)) 31 28 (by kernel_rfl) (by kernel_rfl) (by kernel_rfl)), ?_⟩
  intro a w hkp hb hd
  rw [kept_of hkp [some 3, some 4, some 5, some 6, some 7, some 8, some 9, some 10, some 11, some 12, some 13, some 14, some 15, some 16, some 17, some 18, some 19, some 20, some 21, some 22, some 23, some 24, some 25, some 26, some 27, some 28, some 29, some 30, some 31, some 2] [3, 4, 5, 6, 7, 8, 9, 10, 11, 12, 13, 14, 15, 16, 17, 18, 19, 20, 21, 22, 23, 24, 25, 26, 27, 28, 29, 30, 31, 2] (by kernel_rfl) (by decide)]
  have d2 := fdone_of (hd 29 (by rw [show rck2Ops.size = 30 by kernel_rfl]; decide)) (t := 2) (V := isVal (.bool false)) (by kernel_rfl) (by kernel_rfl)
  exact hQ (fun s => a.tmps.getD s undef) w d2 hb
noncomputable def rck3Ops : Array Oper := regionOf Tryz.f14 1
set_option maxRecDepth 100000 in
set_option maxHeartbeats 2000000 in
theorem rck3_region (Q : Exit → Act → World → Prop) (a0 : Act) (w0 : World) (hsz : a0.tmps.size = 32) (g n sc : Nat) (c : Int) (sa : Option Addr) (vi : Value) (L : List En) (idx : List Int) (z : Bool) (e1 : a0.tmps.getD 1 undef = .pointer (some ⟨g, 0, none⟩)) (HG : CellsN w0 g [.int .i64 c, .slice sa n sc, vi]) (hs : isEns L (.slice sa n sc) w0) (hi : isCells (idx.map intC) vi w0) (hL : L.length ≤ 1000) (hI : idx.length ≤ 100000) (fL : ∀ e ∈ L, FitE e) (h1 : decide (1 ≤ c) = true) (h2 : decide (c ≤ 8) = true) (h3 : decide ((n : Int) ≤ c) = true) (h4 : slotsB L = false)
    (hQ : ∀ (g : Nat → Value) (w : World), g 2 = .bool false → Below w0.heap.size w0 w → Q .normal { tmps := [3, 4, 5, 6, 7, 8, 9, 10, 11, 12, 13, 14, 15, 16, 17, 18, 19, 20, 21, 22, 23, 24, 25, 26, 27, 28, 29, 30, 31, 2].foldl (fun t s => t.setIfInBounds s (g s)) a0.tmps, defers := a0.defers } w) :
    (Code.region 1 rck3Ops true).wp Tryz.prog Q a0 w0 := by
  refine wp_region_flow mixed (by rw [hsz]; kernel_rfl) ?_
  rw [show rck3Ops.size = 30 by kernel_rfl]
  refine ⟨isVal (.pointer (some ⟨g, 0, none⟩)), step_field 25 (.tmp 1) 0 ⟨g, 0, none⟩ ⟨g, 0, none⟩ (by kernel_rfl) (wanted_none (by kernel_rfl)) (knows_old 1 (.pointer (some ⟨g, 0, none⟩)) (by kernel_rfl) e1) (f_ar_0_0 (g)), ?_⟩
  refine ⟨isVal (.int .i64 c), step_read 3 (.tmp 3) ⟨g, 0, none⟩ (.int .i64 c) (by kernel_rfl) (wanted_none (by kernel_rfl)) (knows_new (V := isVal (.pointer (some ⟨g, 0, none⟩))) 3 0 (by kernel_rfl) (by kernel_rfl) (by kernel_rfl)) (HG.2 0 _ rfl) (HG.1) (agg_noZ), ?_⟩
  refine ⟨isVal (.bool true), step_bin .geq 3 3 (.tmp 4) (.const (.int .i64 1)) (.int .i64 c) (.int .i64 1) (.bool true) (by kernel_rfl) (wanted_none (by kernel_rfl)) (knows_new (V := isVal (.int .i64 c)) 4 1 (by kernel_rfl) (by kernel_rfl) (by kernel_rfl)) (knows_const _) (fun _ => rfl) (geq_int _ _ _ _ _ h1), ?_⟩
  refine ⟨isVal (.bool true), step_move (.tmp 5) (by kernel_rfl) (wanted_none (by kernel_rfl)) (stable_val _) (knows_new (V := isVal (.bool true)) 5 2 (by kernel_rfl) (by kernel_rfl) (by kernel_rfl)), ?_⟩
  refine ⟨isVal (.pointer (some ⟨g, 0, none⟩)), step_field 25 (.tmp 1) 0 ⟨g, 0, none⟩ ⟨g, 0, none⟩ (by kernel_rfl) (wanted_some 3 6 true (by kernel_rfl) (by kernel_rfl) (by kernel_rfl) (by kernel_rfl)) (knows_old 1 (.pointer (some ⟨g, 0, none⟩)) (by kernel_rfl) e1) (f_ar_0_0 (g)), ?_⟩
  refine ⟨isVal (.int .i64 c), step_read 3 (.tmp 7) ⟨g, 0, none⟩ (.int .i64 c) (by kernel_rfl) (wanted_some 3 6 true (by kernel_rfl) (by kernel_rfl) (by kernel_rfl) (by kernel_rfl)) (knows_new (V := isVal (.pointer (some ⟨g, 0, none⟩))) 7 4 (by kernel_rfl) (by kernel_rfl) (by kernel_rfl)) (HG.2 0 _ rfl) (HG.1) (agg_noZ), ?_⟩
  refine ⟨isVal (.bool true), step_bin .leq 3 3 (.tmp 8) (.const (.int .i64 8)) (.int .i64 c) (.int .i64 8) (.bool true) (by kernel_rfl) (wanted_some 3 6 true (by kernel_rfl) (by kernel_rfl) (by kernel_rfl) (by kernel_rfl)) (knows_new (V := isVal (.int .i64 c)) 8 5 (by kernel_rfl) (by kernel_rfl) (by kernel_rfl)) (knows_const _) (fun _ => rfl) (leq_int _ _ _ _ _ h2), ?_⟩
  refine ⟨isVal (.bool true), step_pick (.tmp 6) (.tmp 9) (.const (.bool false)) true (by kernel_rfl) (wanted_none (by kernel_rfl)) (stable_val _) (knows_new (V := isVal (.bool true)) 6 3 (by kernel_rfl) (by kernel_rfl) (by kernel_rfl)) (knows_new (V := isVal (.bool true)) 9 6 (by kernel_rfl) (by kernel_rfl) (by kernel_rfl)), ?_⟩
  refine ⟨isVal (.bool true), step_move (.tmp 10) (by kernel_rfl) (wanted_none (by kernel_rfl)) (stable_val _) (knows_new (V := isVal (.bool true)) 10 7 (by kernel_rfl) (by kernel_rfl) (by kernel_rfl)), ?_⟩
  refine ⟨isVal (.pointer (some ⟨g, 1, none⟩)), step_field 25 (.tmp 1) 1 ⟨g, 0, none⟩ ⟨g, 1, none⟩ (by kernel_rfl) (wanted_some 8 11 true (by kernel_rfl) (by kernel_rfl) (by kernel_rfl) (by kernel_rfl)) (knows_old 1 (.pointer (some ⟨g, 0, none⟩)) (by kernel_rfl) e1) (f_ar_0_1 (g)), ?_⟩
  refine ⟨isVal (.slice sa n sc), step_read 22 (.tmp 12) ⟨g, 1, none⟩ (.slice sa n sc) (by kernel_rfl) (wanted_some 8 11 true (by kernel_rfl) (by kernel_rfl) (by kernel_rfl) (by kernel_rfl)) (knows_new (V := isVal (.pointer (some ⟨g, 1, none⟩))) 12 9 (by kernel_rfl) (by kernel_rfl) (by kernel_rfl)) (HG.2 1 _ rfl) (HG.1) (agg_noS), ?_⟩
  refine ⟨isVal (.int .i64 (n : Int)), step_len 22 (.tmp 13) (.slice sa n sc) (.int .i64 (n : Int)) (by kernel_rfl) (wanted_some 8 11 true (by kernel_rfl) (by kernel_rfl) (by kernel_rfl) (by kernel_rfl)) (knows_new (V := isVal (.slice sa n sc)) 13 10 (by kernel_rfl) (by kernel_rfl) (by kernel_rfl)) ((fun ty w => by simp [Builtin.len_, run_underlying Tryz.underlying22]; rfl)), ?_⟩
  refine ⟨isVal (.pointer (some ⟨g, 0, none⟩)), step_field 25 (.tmp 1) 0 ⟨g, 0, none⟩ ⟨g, 0, none⟩ (by kernel_rfl) (wanted_some 8 11 true (by kernel_rfl) (by kernel_rfl) (by kernel_rfl) (by kernel_rfl)) (knows_old 1 (.pointer (some ⟨g, 0, none⟩)) (by kernel_rfl) e1) (f_ar_0_0 (g)), ?_⟩
  refine ⟨isVal (.int .i64 c), step_read 3 (.tmp 15) ⟨g, 0, none⟩ (.int .i64 c) (by kernel_rfl) (wanted_some 8 11 true (by kernel_rfl) (by kernel_rfl) (by kernel_rfl) (by kernel_rfl)) (knows_new (V := isVal (.pointer (some ⟨g, 0, none⟩))) 15 12 (by kernel_rfl) (by kernel_rfl) (by kernel_rfl)) (HG.2 0 _ rfl) (HG.1) (agg_noZ), ?_⟩
  refine ⟨isVal (.bool true), step_bin .leq 3 3 (.tmp 14) (.tmp 16) (.int .i64 (n : Int)) (.int .i64 c) (.bool true) (by kernel_rfl) (wanted_some 8 11 true (by kernel_rfl) (by kernel_rfl) (by kernel_rfl) (by kernel_rfl)) (knows_new (V := isVal (.int .i64 (n : Int))) 14 11 (by kernel_rfl) (by kernel_rfl) (by kernel_rfl)) (knows_new (V := isVal (.int .i64 c)) 16 13 (by kernel_rfl) (by kernel_rfl) (by kernel_rfl)) (fun _ => rfl) (leq_int _ _ _ _ _ h3), ?_⟩
  refine ⟨isVal (.bool true), step_pick (.tmp 11) (.tmp 17) (.const (.bool false)) true (by kernel_rfl) (wanted_none (by kernel_rfl)) (stable_val _) (knows_new (V := isVal (.bool true)) 11 8 (by kernel_rfl) (by kernel_rfl) (by kernel_rfl)) (knows_new (V := isVal (.bool true)) 17 14 (by kernel_rfl) (by kernel_rfl) (by kernel_rfl)), ?_⟩
  refine ⟨isVal (.bool true), step_move (.tmp 18) (by kernel_rfl) (wanted_none (by kernel_rfl)) (stable_val _) (knows_new (V := isVal (.bool true)) 18 15 (by kernel_rfl) (by kernel_rfl) (by kernel_rfl)), ?_⟩
  refine ⟨isVal (.pointer (some ⟨g, 1, none⟩)), step_field 25 (.tmp 1) 1 ⟨g, 0, none⟩ ⟨g, 1, none⟩ (by kernel_rfl) (wanted_some 16 19 true (by kernel_rfl) (by kernel_rfl) (by kernel_rfl) (by kernel_rfl)) (knows_old 1 (.pointer (some ⟨g, 0, none⟩)) (by kernel_rfl) e1) (f_ar_0_1 (g)), ?_⟩
  refine ⟨isVal (.slice sa n sc), step_read 22 (.tmp 20) ⟨g, 1, none⟩ (.slice sa n sc) (by kernel_rfl) (wanted_some 16 19 true (by kernel_rfl) (by kernel_rfl) (by kernel_rfl) (by kernel_rfl)) (knows_new (V := isVal (.pointer (some ⟨g, 1, none⟩))) 20 17 (by kernel_rfl) (by kernel_rfl) (by kernel_rfl)) (HG.2 1 _ rfl) (HG.1) (agg_noS), ?_⟩
  refine ⟨isVal (.bool false), step_call 55 #[.tmp 21] #[22] #[.slice sa n sc] (by kernel_rfl) (wanted_some 16 19 true (by kernel_rfl) (by kernel_rfl) (by kernel_rfl) (by kernel_rfl)) (stable_val _) (args1 (.tmp 21) (.slice sa n sc) (knows_new (V := isVal (.slice sa n sc)) 21 18 (by kernel_rfl) (by kernel_rfl) (by kernel_rfl))) (enters_of Tryz.func55 (by kernel_rfl) rfl) (by intro w' hb; exact call_vb (rslots_at L false _ w' (stable_ens _ _ _ _ hs hb) hL fL h4)), ?_⟩
  refine ⟨isVal (.bool false), step_pick (.tmp 19) (.tmp 22) (.const (.bool false)) true (by kernel_rfl) (wanted_none (by kernel_rfl)) (stable_val _) (knows_new (V := isVal (.bool true)) 19 16 (by kernel_rfl) (by kernel_rfl) (by kernel_rfl)) (knows_new (V := isVal (.bool false)) 22 19 (by kernel_rfl) (by kernel_rfl) (by kernel_rfl)), ?_⟩
  refine ⟨isVal (.bool false), step_move (.tmp 23) (by kernel_rfl) (wanted_none (by kernel_rfl)) (stable_val _) (knows_new (V := isVal (.bool false)) 23 20 (by kernel_rfl) (by kernel_rfl) (by kernel_rfl)), ?_⟩
  refine ⟨_, step_skip 21 24 true false (by kernel_rfl) (by kernel_rfl) (by kernel_rfl) (by kernel_rfl) rfl, ?_⟩
  refine ⟨_, step_skip 21 24 true false (by kernel_rfl) (by kernel_rfl) (by kernel_rfl) (by kernel_rfl) rfl, ?_⟩
  refine ⟨_, step_skip 21 24 true false (by kernel_rfl) (by kernel_rfl) (by kernel_rfl) (by kernel_rfl) rfl, ?_⟩
  refine ⟨_, step_skip 21 24 true false (by kernel_rfl) (by kernel_rfl) (by kernel_rfl) (by kernel_rfl) rfl, ?_⟩
  refine ⟨_, step_skip 21 24 true false (by kernel_rfl) (by kernel_rfl) (by kernel_rfl) (by kernel_rfl) rfl, ?_⟩
  refine ⟨_, step_skip 21 24 true false (by kernel_rfl) (by kernel_rfl) (by kernel_rfl) (by kernel_rfl) rfl, ?_⟩
  refine ⟨isVal (.bool false), step_pick (.tmp 24) (.tmp 30) (.const (.bool false)) false (by kernel_rfl) (wanted_none (by kernel_rfl)) (stable_val _) (knows_new (V := isVal (.bool false)) 24 21 (by kernel_rfl) (by kernel_rfl) (by kernel_rfl)) (knows_const _), ?_⟩
  refine ⟨isVal (.bool false), step_assign (.tmp 31) (by kernel_rfl) (wanted_none (by kernel_rfl)) (stable_val _) (knows_new (V := isVal (.bool false)) 31 28 (by kernel_rfl) (by kernel_rfl) (by kernel_rfl)), ?_⟩
  intro a w hkp hb hd
  rw [kept_of hkp [some 3, some 4, some 5, some 6, some 7, some 8, some 9, some 10, some 11, some 12, some 13, some 14, some 15, some 16, some 17, some 18, some 19, some 20, some 21, some 22, some 23, some 24, some 25, some 26, some 27, some 28, some 29, some 30, some 31, some 2] [3, 4, 5, 6, 7, 8, 9, 10, 11, 12, 13, 14, 15, 16, 17, 18, 19, 20, 21, 22, 23, 24, 25, 26, 27, 28, 29, 30, 31, 2] (by kernel_rfl) (by decide)]
  have d2 := fdone_of (hd 29 (by rw [show rck3Ops.size = 30 by kernel_rfl]; decide)) (t := 2) (V := isVal (.bool false)) (by kernel_rfl) (by kernel_rfl)
  exact hQ (fun s => a.tmps.getD s undef) w d2 hb
noncomputable def rck4Ops : Array Oper := regionOf Tryz.f14 1
set_option maxRecDepth 100000 in
set_option maxHeartbeats 2000000 in
theorem rck4_region (Q : Exit → Act → World → Prop) (a0 : Act) (w0 : World) (hsz : a0.tmps.size = 32) (g n sc : Nat) (c : Int) (sa : Option Addr) (vi : Value) (L : List En) (idx : List Int) (z : Bool) (e1 : a0.tmps.getD 1 undef = .pointer (some ⟨g, 0, none⟩)) (HG : CellsN w0 g [.int .i64 c, .slice sa n sc, vi]) (hs : isEns L (.slice sa n sc) w0) (hi : isCells (idx.map intC) vi w0) (hL : L.length ≤ 1000) (hI : idx.length ≤ 100000) (fL : ∀ e ∈ L, FitE e) (h1 : decide (1 ≤ c) = true) (h2 : decide (c ≤ 8) = true) (h3 : decide ((n : Int) ≤ c) = true) (h4 : slotsB L = true) (hz : decide (idx = idxM L) = z)
    (hQ : ∀ (g : Nat → Value) (w : World), g 2 = .bool z → Below w0.heap.size w0 w → Q .normal { tmps := [3, 4, 5, 6, 7, 8, 9, 10, 11, 12, 13, 14, 15, 16, 17, 18, 19, 20, 21, 22, 23, 24, 25, 26, 27, 28, 29, 30, 31, 2].foldl (fun t s => t.setIfInBounds s (g s)) a0.tmps, defers := a0.defers } w) :
    (Code.region 1 rck4Ops true).wp Tryz.prog Q a0 w0 := by
  refine wp_region_flow mixed (by rw [hsz]; kernel_rfl) ?_
  rw [show rck4Ops.size = 30 by kernel_rfl]
  refine ⟨isVal (.pointer (some ⟨g, 0, none⟩)), step_field 25 (.tmp 1) 0 ⟨g, 0, none⟩ ⟨g, 0, none⟩ (by kernel_rfl) (wanted_none (by kernel_rfl)) (knows_old 1 (.pointer (some ⟨g, 0, none⟩)) (by kernel_rfl) e1) (f_ar_0_0 (g)), ?_⟩
  refine ⟨isVal (.int .i64 c), step_read 3 (.tmp 3) ⟨g, 0, none⟩ (.int .i64 c) (by kernel_rfl) (wanted_none (by kernel_rfl)) (knows_new (V := isVal (.pointer (some ⟨g, 0, none⟩))) 3 0 (by kernel_rfl) (by kernel_rfl) (by kernel_rfl)) (HG.2 0 _ rfl) (HG.1) (agg_noZ), ?_⟩
  refine ⟨isVal (.bool true), step_bin .geq 3 3 (.tmp 4) (.const (.int .i64 1)) (.int .i64 c) (.int .i64 1) (.bool true) (by kernel_rfl) (wanted_none (by kernel_rfl)) (knows_new (V := isVal (.int .i64 c)) 4 1 (by kernel_rfl) (by kernel_rfl) (by kernel_rfl)) (knows_const _) (fun _ => rfl) (geq_int _ _ _ _ _ h1), ?_⟩
  refine ⟨isVal (.bool true), step_move (.tmp 5) (by kernel_rfl) (wanted_none (by kernel_rfl)) (stable_val _) (knows_new (V := isVal (.bool true)) 5 2 (by kernel_rfl) (by kernel_rfl) (by kernel_rfl)), ?_⟩
  refine ⟨isVal (.pointer (some ⟨g, 0, none⟩)), step_field 25 (.tmp 1) 0 ⟨g, 0, none⟩ ⟨g, 0, none⟩ (by kernel_rfl) (wanted_some 3 6 true (by kernel_rfl) (by kernel_rfl) (by kernel_rfl) (by kernel_rfl)) (knows_old 1 (.pointer (some ⟨g, 0, none⟩)) (by kernel_rfl) e1) (f_ar_0_0 (g)), ?_⟩
  refine ⟨isVal (.int .i64 c), step_read 3 (.tmp 7) ⟨g, 0, none⟩ (.int .i64 c) (by kernel_rfl) (wanted_some 3 6 true (by kernel_rfl) (by kernel_rfl) (by kernel_rfl) (by kernel_rfl)) (knows_new (V := isVal (.pointer (some ⟨g, 0, none⟩))) 7 4 (by kernel_rfl) (by kernel_rfl) (by kernel_rfl)) (HG.2 0 _ rfl) (HG.1) (agg_noZ), ?_⟩
  refine ⟨isVal (.bool true), step_bin .leq 3 3 (.tmp 8) (.const (.int .i64 8)) (.int .i64 c) (.int .i64 8) (.bool true) (by kernel_rfl) (wanted_some 3 6 true (by kernel_rfl) (by kernel_rfl) (by kernel_rfl) (by kernel_rfl)) (knows_new (V := isVal (.int .i64 c)) 8 5 (by kernel_rfl) (by kernel_rfl) (by kernel_rfl)) (knows_const _) (fun _ => rfl) (leq_int _ _ _ _ _ h2), ?_⟩
  refine ⟨isVal (.bool true), step_pick (.tmp 6) (.tmp 9) (.const (.bool false)) true (by kernel_rfl) (wanted_none (by kernel_rfl)) (stable_val _) (knows_new (V := isVal (.bool true)) 6 3 (by kernel_rfl) (by kernel_rfl) (by kernel_rfl)) (knows_new (V := isVal (.bool true)) 9 6 (by kernel_rfl) (by kernel_rfl) (by kernel_rfl)), ?_⟩
  refine ⟨isVal (.bool true), step_move (.tmp 10) (by kernel_rfl) (wanted_none (by kernel_rfl)) (stable_val _) (knows_new (V := isVal (.bool true)) 10 7 (by kernel_rfl) (by kernel_rfl) (by kernel_rfl)), ?_⟩
  refine ⟨isVal (.pointer (some ⟨g, 1, none⟩)), step_field 25 (.tmp 1) 1 ⟨g, 0, none⟩ ⟨g, 1, none⟩ (by kernel_rfl) (wanted_some 8 11 true (by kernel_rfl) (by kernel_rfl) (by kernel_rfl) (by kernel_rfl)) (knows_old 1 (.pointer (some ⟨g, 0, none⟩)) (by kernel_rfl) e1) (f_ar_0_1 (g)), ?_⟩
  refine ⟨isVal (.slice sa n sc), step_read 22 (.tmp 12) ⟨g, 1, none⟩ (.slice sa n sc) (by kernel_rfl) (wanted_some 8 11 true (by kernel_rfl) (by kernel_rfl) (by kernel_rfl) (by kernel_rfl)) (knows_new (V := isVal (.pointer (some ⟨g, 1, none⟩))) 12 9 (by kernel_rfl) (by kernel_rfl) (by kernel_rfl)) (HG.2 1 _ rfl) (HG.1) (agg_noS), ?_⟩
  refine ⟨isVal (.int .i64 (n : Int)), step_len 22 (.tmp 13) (.slice sa n sc) (.int .i64 (n : Int)) (by kernel_rfl) (wanted_some 8 11 true (by kernel_rfl) (by kernel_rfl) (by kernel_rfl) (by kernel_rfl)) (knows_new (V := isVal (.slice sa n sc)) 13 10 (by kernel_rfl) (by kernel_rfl) (by kernel_rfl)) ((fun ty w => by simp [Builtin.len_, run_underlying Tryz.underlying22]; rfl)), ?_⟩
  refine ⟨isVal (.pointer (some ⟨g, 0, none⟩)), step_field 25 (.tmp 1) 0 ⟨g, 0, none⟩ ⟨g, 0, none⟩ (by kernel_rfl) (wanted_some 8 11 true (by kernel_rfl) (by kernel_rfl) (by kernel_rfl) (by kernel_rfl)) (knows_old 1 (.pointer (some ⟨g, 0, none⟩)) (by kernel_rfl) e1) (f_ar_0_0 (g)), ?_⟩
  refine ⟨isVal (.int .i64 c), step_read 3 (.tmp 15) ⟨g, 0, none⟩ (.int .i64 c) (by kernel_rfl) (wanted_some 8 11 true (by kernel_rfl) (by kernel_rfl) (by kernel_rfl) (by kernel_rfl)) (knows_new (V := isVal (.pointer (some ⟨g, 0, none⟩))) 15 12 (by kernel_rfl) (by kernel_rfl) (by kernel_rfl)) (HG.2 0 _ rfl) (HG.1) (agg_noZ), ?_⟩
  refine ⟨isVal (.bool true), step_bin .leq 3 3 (.tmp 14) (.tmp 16) (.int .i64 (n : Int)) (.int .i64 c) (.bool true) (by kernel_rfl) (wanted_some 8 11 true (by kernel_rfl) (by kernel_rfl) (by kernel_rfl) (by kernel_rfl)) (knows_new (V := isVal (.int .i64 (n : Int))) 14 11 (by kernel_rfl) (by kernel_rfl) (by kernel_rfl)) (knows_new (V := isVal (.int .i64 c)) 16 13 (by kernel_rfl) (by kernel_rfl) (by kernel_rfl)) (fun _ => rfl) (leq_int _ _ _ _ _ h3), ?_⟩
  refine ⟨isVal (.bool true), step_pick (.tmp 11) (.tmp 17) (.const (.bool false)) true (by kernel_rfl) (wanted_none (by kernel_rfl)) (stable_val _) (knows_new (V := isVal (.bool true)) 11 8 (by kernel_rfl) (by kernel_rfl) (by kernel_rfl)) (knows_new (V := isVal (.bool true)) 17 14 (by kernel_rfl) (by kernel_rfl) (by kernel_rfl)), ?_⟩
  refine ⟨isVal (.bool true), step_move (.tmp 18) (by kernel_rfl) (wanted_none (by kernel_rfl)) (stable_val _) (knows_new (V := isVal (.bool true)) 18 15 (by kernel_rfl) (by kernel_rfl) (by kernel_rfl)), ?_⟩
  refine ⟨isVal (.pointer (some ⟨g, 1, none⟩)), step_field 25 (.tmp 1) 1 ⟨g, 0, none⟩ ⟨g, 1, none⟩ (by kernel_rfl) (wanted_some 16 19 true (by kernel_rfl) (by kernel_rfl) (by kernel_rfl) (by kernel_rfl)) (knows_old 1 (.pointer (some ⟨g, 0, none⟩)) (by kernel_rfl) e1) (f_ar_0_1 (g)), ?_⟩
  refine ⟨isVal (.slice sa n sc), step_read 22 (.tmp 20) ⟨g, 1, none⟩ (.slice sa n sc) (by kernel_rfl) (wanted_some 16 19 true (by kernel_rfl) (by kernel_rfl) (by kernel_rfl) (by kernel_rfl)) (knows_new (V := isVal (.pointer (some ⟨g, 1, none⟩))) 20 17 (by kernel_rfl) (by kernel_rfl) (by kernel_rfl)) (HG.2 1 _ rfl) (HG.1) (agg_noS), ?_⟩
  refine ⟨isVal (.bool true), step_call 55 #[.tmp 21] #[22] #[.slice sa n sc] (by kernel_rfl) (wanted_some 16 19 true (by kernel_rfl) (by kernel_rfl) (by kernel_rfl) (by kernel_rfl)) (stable_val _) (args1 (.tmp 21) (.slice sa n sc) (knows_new (V := isVal (.slice sa n sc)) 21 18 (by kernel_rfl) (by kernel_rfl) (by kernel_rfl))) (enters_of Tryz.func55 (by kernel_rfl) rfl) (by intro w' hb; exact call_vb (rslots_at L true _ w' (stable_ens _ _ _ _ hs hb) hL fL h4)), ?_⟩
  refine ⟨isVal (.bool true), step_pick (.tmp 19) (.tmp 22) (.const (.bool false)) true (by kernel_rfl) (wanted_none (by kernel_rfl)) (stable_val _) (knows_new (V := isVal (.bool true)) 19 16 (by kernel_rfl) (by kernel_rfl) (by kernel_rfl)) (knows_new (V := isVal (.bool true)) 22 19 (by kernel_rfl) (by kernel_rfl) (by kernel_rfl)), ?_⟩
  refine ⟨isVal (.bool true), step_move (.tmp 23) (by kernel_rfl) (wanted_none (by kernel_rfl)) (stable_val _) (knows_new (V := isVal (.bool true)) 23 20 (by kernel_rfl) (by kernel_rfl) (by kernel_rfl)), ?_⟩
  refine ⟨isVal (.pointer (some ⟨g, 2, none⟩)), step_field 25 (.tmp 1) 2 ⟨g, 0, none⟩ ⟨g, 2, none⟩ (by kernel_rfl) (wanted_some 21 24 true (by kernel_rfl) (by kernel_rfl) (by kernel_rfl) (by kernel_rfl)) (knows_old 1 (.pointer (some ⟨g, 0, none⟩)) (by kernel_rfl) e1) (f_ar_0_2 (g)), ?_⟩
  refine ⟨isVal vi, step_read 23 (.tmp 25) ⟨g, 2, none⟩ vi (by kernel_rfl) (wanted_some 21 24 true (by kernel_rfl) (by kernel_rfl) (by kernel_rfl) (by kernel_rfl)) (knows_new (V := isVal (.pointer (some ⟨g, 2, none⟩))) 25 22 (by kernel_rfl) (by kernel_rfl) (by kernel_rfl)) (HG.2 2 _ rfl) (HG.1) (agg_noI), ?_⟩
  refine ⟨isVal (.pointer (some ⟨g, 1, none⟩)), step_field 25 (.tmp 1) 1 ⟨g, 0, none⟩ ⟨g, 1, none⟩ (by kernel_rfl) (wanted_some 21 24 true (by kernel_rfl) (by kernel_rfl) (by kernel_rfl) (by kernel_rfl)) (knows_old 1 (.pointer (some ⟨g, 0, none⟩)) (by kernel_rfl) e1) (f_ar_0_1 (g)), ?_⟩
  refine ⟨isVal (.slice sa n sc), step_read 22 (.tmp 27) ⟨g, 1, none⟩ (.slice sa n sc) (by kernel_rfl) (wanted_some 21 24 true (by kernel_rfl) (by kernel_rfl) (by kernel_rfl) (by kernel_rfl)) (knows_new (V := isVal (.pointer (some ⟨g, 1, none⟩))) 27 24 (by kernel_rfl) (by kernel_rfl) (by kernel_rfl)) (HG.2 1 _ rfl) (HG.1) (agg_noS), ?_⟩
  refine ⟨(isCells ((idxM L).map intC)), step_call 57 #[.tmp 28] #[22] #[.slice sa n sc] (by kernel_rfl) (wanted_some 21 24 true (by kernel_rfl) (by kernel_rfl) (by kernel_rfl) (by kernel_rfl)) (stable_cells _) (args1 (.tmp 28) (.slice sa n sc) (knows_new (V := isVal (.slice sa n sc)) 28 25 (by kernel_rfl) (by kernel_rfl) (by kernel_rfl))) (enters_of Tryz.func57 (by kernel_rfl) rfl) (by intro w' hb; exact rindex_pred L _ w' (stable_ens _ _ _ _ hs hb) hL), ?_⟩
  refine ⟨isVal (.bool z), step_callP 56 #[.tmp 26, .tmp 29] #[23, 23] (by kernel_rfl) (wanted_some 21 24 true (by kernel_rfl) (by kernel_rfl) (by kernel_rfl) (by kernel_rfl)) (stable_val _) (enters_of Tryz.func56 (by kernel_rfl) rfl) (fun vs w => ∃ u v, vs = #[u, v] ∧ isVal vi u w ∧ isCells ((idxM L).map intC) v w) (pre2 (knows_new (V := isVal vi) 26 23 (by kernel_rfl) (by kernel_rfl) (by kernel_rfl)) (knows_new (V := (isCells ((idxM L).map intC))) 29 26 (by kernel_rfl) (by kernel_rfl) (by kernel_rfl))) (fun vs w' hb hp => by obtain ⟨u, v, rfl, hu, h2⟩ := hp; obtain rfl : u = vi := hu; exact call_vb (rints_at idx (idxM L) z _ _ w' (stable_cells _ _ _ _ hi hb) h2 hI (by rw [(idxP_rng L L.length).1 |> fun h => (show (idxM L).length = L.length from h)]; omega) hz)), ?_⟩
  refine ⟨isVal (.bool z), step_pick (.tmp 24) (.tmp 30) (.const (.bool false)) true (by kernel_rfl) (wanted_none (by kernel_rfl)) (stable_val _) (knows_new (V := isVal (.bool true)) 24 21 (by kernel_rfl) (by kernel_rfl) (by kernel_rfl)) (knows_new (V := isVal (.bool z)) 30 27 (by kernel_rfl) (by kernel_rfl) (by kernel_rfl)), ?_⟩
  refine ⟨isVal (.bool z), step_assign (.tmp 31) (by kernel_rfl) (wanted_none (by kernel_rfl)) (stable_val _) (knows_new (V := isVal (.bool z)) 31 28 (by kernel_rfl) (by kernel_rfl) (by kernel_rfl)), ?_⟩
  intro a w hkp hb hd
  rw [kept_of hkp [some 3, some 4, some 5, some 6, some 7, some 8, some 9, some 10, some 11, some 12, some 13, some 14, some 15, some 16, some 17, some 18, some 19, some 20, some 21, some 22, some 23, some 24, some 25, some 26, some 27, some 28, some 29, some 30, some 31, some 2] [3, 4, 5, 6, 7, 8, 9, 10, 11, 12, 13, 14, 15, 16, 17, 18, 19, 20, 21, 22, 23, 24, 25, 26, 27, 28, 29, 30, 31, 2] (by kernel_rfl) (by decide)]
  have d2 := fdone_of (hd 29 (by rw [show rck4Ops.size = 30 by kernel_rfl]; decide)) (t := 2) (V := isVal (.bool z)) (by kernel_rfl) (by kernel_rfl)
  exact hQ (fun s => a.tmps.getD s undef) w d2 hb
set_option maxRecDepth 100000 in
set_option maxHeartbeats 2000000 in
theorem rcheckA_any (A : Ar) (v : Value) (w : World) (hv : isAr A v w) (hF : FitA A) : Calls Tryz.prog 14 #[v] w fun e w' => e = .returned (.bool (okA A)) ∧ Below w.heap.size w w' := by
  obtain ⟨vs, vi, rfl, hs, hi⟩ := hv
  obtain ⟨sa, sc, rfl⟩ := hs.len
  have hB := lit_below w (.cells #[.int .i64 A.cap, .slice sa A.slots.length sc, vi] 25)
  have CG := cellsN_at w 25 [.int .i64 A.cap, .slice sa A.slots.length sc, vi] w.heap.size rfl
  have XS := stable_ens _ _ _ _ hs hB
  have XI := stable_cells _ _ _ _ hi hB
  have HK := Kept.mk (okA_ref A)
  unfold roomB at HK
  obtain ⟨z, hz⟩ : ∃ z, decide (A.index = idxM A.slots) = z := ⟨_, rfl⟩
  have hR : ∃ q, okA A = q := ⟨_, rfl⟩
  obtain ⟨q, hq⟩ := hR
  rw [hq] at HK ⊢
  generalize hn : A.slots.length = n at *
  cases h1 : decide (1 ≤ A.cap) with
  | false =>
    have HE := Kept.mk (show q = false by rw [HK.out, h1]; simp)
    have HH := Kept.mk hB
    have CG' := Kept.mk CG
    have XS' := Kept.mk XS
    have XI' := Kept.mk XI
    have Z1 := Kept.mk (And.intro h1 trivial)
    clear HK hs hi hB CG XS XI hq hn hz h1
    go_enter Tryz.func14, Tryz.ntmps14
    go_wp2
    refine rck0_region _ _ _ rfl w.heap.size n sc A.cap sa vi A.slots A.index z rfl CG'.out XS'.out XI'.out hF.slots (by have := hF.index; omega) hF.ents Z1.out.1 ?_
    intro f9 W9 d2 hb9
    simp only [List.foldl_cons, List.foldl_nil, d2]
    generalize f9 3 = y3
    generalize f9 4 = y4
    generalize f9 5 = y5
    generalize f9 6 = y6
    generalize f9 7 = y7
    generalize f9 8 = y8
    generalize f9 9 = y9
    generalize f9 10 = y10
    generalize f9 11 = y11
    generalize f9 12 = y12
    generalize f9 13 = y13
    generalize f9 14 = y14
    generalize f9 15 = y15
    generalize f9 16 = y16
    generalize f9 17 = y17
    generalize f9 18 = y18
    generalize f9 19 = y19
    generalize f9 20 = y20
    generalize f9 21 = y21
    generalize f9 22 = y22
    generalize f9 23 = y23
    generalize f9 24 = y24
    generalize f9 25 = y25
    generalize f9 26 = y26
    generalize f9 27 = y27
    generalize f9 28 = y28
    generalize f9 29 = y29
    generalize f9 30 = y30
    generalize f9 31 = y31
    clear d2
    simp only [List.setIfInBounds_toArray, List.set_cons_succ, List.set_cons_zero]
    have hbb := HH.out.trans (hb9.mono HH.out.size)
    clear hb9
    go_wp2
    go_ret
    exact ⟨by rw [HE.out]; rfl, hbb⟩
  | true =>
    cases h2 : decide (A.cap ≤ 8) with
    | false =>
      have HE := Kept.mk (show q = false by rw [HK.out, h1, h2]; simp)
      have HH := Kept.mk hB
      have CG' := Kept.mk CG
      have XS' := Kept.mk XS
      have XI' := Kept.mk XI
      have Z1 := Kept.mk (And.intro h1 (And.intro h2 trivial))
      clear HK hs hi hB CG XS XI hq hn hz h1 h2
      go_enter Tryz.func14, Tryz.ntmps14
      go_wp2
      refine rck1_region _ _ _ rfl w.heap.size n sc A.cap sa vi A.slots A.index z rfl CG'.out XS'.out XI'.out hF.slots (by have := hF.index; omega) hF.ents Z1.out.1 Z1.out.2.1 ?_
      intro f9 W9 d2 hb9
      simp only [List.foldl_cons, List.foldl_nil, d2]
      generalize f9 3 = y3
      generalize f9 4 = y4
      generalize f9 5 = y5
      generalize f9 6 = y6
      generalize f9 7 = y7
      generalize f9 8 = y8
      generalize f9 9 = y9
      generalize f9 10 = y10
      generalize f9 11 = y11
      generalize f9 12 = y12
      generalize f9 13 = y13
      generalize f9 14 = y14
      generalize f9 15 = y15
      generalize f9 16 = y16
      generalize f9 17 = y17
      generalize f9 18 = y18
      generalize f9 19 = y19
      generalize f9 20 = y20
      generalize f9 21 = y21
      generalize f9 22 = y22
      generalize f9 23 = y23
      generalize f9 24 = y24
      generalize f9 25 = y25
      generalize f9 26 = y26
      generalize f9 27 = y27
      generalize f9 28 = y28
      generalize f9 29 = y29
      generalize f9 30 = y30
      generalize f9 31 = y31
      clear d2
      simp only [List.setIfInBounds_toArray, List.set_cons_succ, List.set_cons_zero]
      have hbb := HH.out.trans (hb9.mono HH.out.size)
      clear hb9
      go_wp2
      go_ret
      exact ⟨by rw [HE.out]; rfl, hbb⟩
    | true =>
      cases h3 : decide ((n : Int) ≤ A.cap) with
      | false =>
        have HE := Kept.mk (show q = false by rw [HK.out, h1, h2, h3]; simp)
        have HH := Kept.mk hB
        have CG' := Kept.mk CG
        have XS' := Kept.mk XS
        have XI' := Kept.mk XI
        have Z1 := Kept.mk (And.intro h1 (And.intro h2 (And.intro h3 trivial)))
        clear HK hs hi hB CG XS XI hq hn hz h1 h2 h3
        go_enter Tryz.func14, Tryz.ntmps14
        go_wp2
        refine rck2_region _ _ _ rfl w.heap.size n sc A.cap sa vi A.slots A.index z rfl CG'.out XS'.out XI'.out hF.slots (by have := hF.index; omega) hF.ents Z1.out.1 Z1.out.2.1 Z1.out.2.2.1 ?_
        intro f9 W9 d2 hb9
        simp only [List.foldl_cons, List.foldl_nil, d2]
        generalize f9 3 = y3
        generalize f9 4 = y4
        generalize f9 5 = y5
        generalize f9 6 = y6
        generalize f9 7 = y7
        generalize f9 8 = y8
        generalize f9 9 = y9
        generalize f9 10 = y10
        generalize f9 11 = y11
        generalize f9 12 = y12
        generalize f9 13 = y13
        generalize f9 14 = y14
        generalize f9 15 = y15
        generalize f9 16 = y16
        generalize f9 17 = y17
        generalize f9 18 = y18
        generalize f9 19 = y19
        generalize f9 20 = y20
        generalize f9 21 = y21
        generalize f9 22 = y22
        generalize f9 23 = y23
        generalize f9 24 = y24
        generalize f9 25 = y25
        generalize f9 26 = y26
        generalize f9 27 = y27
        generalize f9 28 = y28
        generalize f9 29 = y29
        generalize f9 30 = y30
        generalize f9 31 = y31
        clear d2
        simp only [List.setIfInBounds_toArray, List.set_cons_succ, List.set_cons_zero]
        have hbb := HH.out.trans (hb9.mono HH.out.size)
        clear hb9
        go_wp2
        go_ret
        exact ⟨by rw [HE.out]; rfl, hbb⟩
      | true =>
        cases h4 : slotsB A.slots with
        | false =>
          have HE := Kept.mk (show q = false by rw [HK.out, h1, h2, h3, h4]; simp)
          have HH := Kept.mk hB
          have CG' := Kept.mk CG
          have XS' := Kept.mk XS
          have XI' := Kept.mk XI
          have Z1 := Kept.mk (And.intro h1 (And.intro h2 (And.intro h3 (And.intro h4 trivial))))
          clear HK hs hi hB CG XS XI hq hn hz h1 h2 h3 h4
          go_enter Tryz.func14, Tryz.ntmps14
          go_wp2
          refine rck3_region _ _ _ rfl w.heap.size n sc A.cap sa vi A.slots A.index z rfl CG'.out XS'.out XI'.out hF.slots (by have := hF.index; omega) hF.ents Z1.out.1 Z1.out.2.1 Z1.out.2.2.1 Z1.out.2.2.2.1 ?_
          intro f9 W9 d2 hb9
          simp only [List.foldl_cons, List.foldl_nil, d2]
          generalize f9 3 = y3
          generalize f9 4 = y4
          generalize f9 5 = y5
          generalize f9 6 = y6
          generalize f9 7 = y7
          generalize f9 8 = y8
          generalize f9 9 = y9
          generalize f9 10 = y10
          generalize f9 11 = y11
          generalize f9 12 = y12
          generalize f9 13 = y13
          generalize f9 14 = y14
          generalize f9 15 = y15
          generalize f9 16 = y16
          generalize f9 17 = y17
          generalize f9 18 = y18
          generalize f9 19 = y19
          generalize f9 20 = y20
          generalize f9 21 = y21
          generalize f9 22 = y22
          generalize f9 23 = y23
          generalize f9 24 = y24
          generalize f9 25 = y25
          generalize f9 26 = y26
          generalize f9 27 = y27
          generalize f9 28 = y28
          generalize f9 29 = y29
          generalize f9 30 = y30
          generalize f9 31 = y31
          clear d2
          simp only [List.setIfInBounds_toArray, List.set_cons_succ, List.set_cons_zero]
          have hbb := HH.out.trans (hb9.mono HH.out.size)
          clear hb9
          go_wp2
          go_ret
          exact ⟨by rw [HE.out]; rfl, hbb⟩
        | true =>
          have HE := Kept.mk (show q = z by rw [HK.out, h1, h2, h3, h4, hz]; simp)
          have HH := Kept.mk hB
          have CG' := Kept.mk CG
          have XS' := Kept.mk XS
          have XI' := Kept.mk XI
          have Z1 := Kept.mk (And.intro h1 (And.intro h2 (And.intro h3 (And.intro h4 hz))))
          clear HK hs hi hB CG XS XI hq hn h1 h2 h3 h4 hz
          go_enter Tryz.func14, Tryz.ntmps14
          go_wp2
          refine rck4_region _ _ _ rfl w.heap.size n sc A.cap sa vi A.slots A.index z rfl CG'.out XS'.out XI'.out hF.slots (by have := hF.index; omega) hF.ents Z1.out.1 Z1.out.2.1 Z1.out.2.2.1 Z1.out.2.2.2.1 Z1.out.2.2.2.2 ?_
          intro f9 W9 d2 hb9
          simp only [List.foldl_cons, List.foldl_nil, d2]
          generalize f9 3 = y3
          generalize f9 4 = y4
          generalize f9 5 = y5
          generalize f9 6 = y6
          generalize f9 7 = y7
          generalize f9 8 = y8
          generalize f9 9 = y9
          generalize f9 10 = y10
          generalize f9 11 = y11
          generalize f9 12 = y12
          generalize f9 13 = y13
          generalize f9 14 = y14
          generalize f9 15 = y15
          generalize f9 16 = y16
          generalize f9 17 = y17
          generalize f9 18 = y18
          generalize f9 19 = y19
          generalize f9 20 = y20
          generalize f9 21 = y21
          generalize f9 22 = y22
          generalize f9 23 = y23
          generalize f9 24 = y24
          generalize f9 25 = y25
          generalize f9 26 = y26
          generalize f9 27 = y27
          generalize f9 28 = y28
          generalize f9 29 = y29
          generalize f9 30 = y30
          generalize f9 31 = y31
          clear d2
          simp only [List.setIfInBounds_toArray, List.set_cons_succ, List.set_cons_zero]
          have hbb := HH.out.trans (hb9.mono HH.out.size)
          clear hb9
          go_wp2
          go_ret
          exact ⟨by rw [HE.out]; rfl, hbb⟩
end Go.Proofs.YtmbnhlhanckkiaaGreat
end
section
namespace Go.Proofs.YtmbnhlhanckkiaaGreat
open Go.RowKit
set_option linter.unusedVariables false
set_option linter.unusedSimpArgs false
attribute [local irreducible] setN

theorem resame_val (X Y : En) (z : Bool) (v u : Value) (w : World) (hv : isEn X v w) (hu : isEn Y u w) (hX : FitE X) (hY : FitE Y) (hz : decide (X = Y) = z) : Calls Tryz.prog 44 #[v, u] w fun e w' => ∃ x, e = .returned x ∧ isVal (.bool z) x w' ∧ Below w.heap.size w w' :=
  (resame_any X Y v u w hv hu hX.val hY.val).mono (by rintro e w' ⟨rfl, h⟩; exact ⟨_, rfl, by rw [hz]; rfl, h⟩)
noncomputable def rallOps : Array Oper := regionOf Tryz.f16 6
set_option maxRecDepth 100000 in
set_option maxHeartbeats 2000000 in
theorem rall_region (Q : Exit → Act → World → Prop) (a0 : Act) (w0 : World) (hsz : a0.tmps.size = 27) (k n bs os cs bt ot ct : Nat) (z : Bool) (X Y : En) (xp xm yp ym : Value) (e5 : a0.tmps.getD 5 undef = .int .i64 (k : Int)) (e0 : a0.tmps.getD 0 undef = .slice (some ⟨bs, os, none⟩) n cs) (e1 : a0.tmps.getD 1 undef = .slice (some ⟨bt, ot, none⟩) n ct) (hk : k < n) (hbs : bs < w0.heap.size) (hbt : bt < w0.heap.size) (hxc : ∀ (j : Nat) (x : Value), [.string ⟨X.key.toArray⟩, .int .i64 X.val.kind, .int .i64 X.val.time, .int .i64 X.val.node, .bool X.val.dead, .string ⟨X.val.text.toArray⟩, xp, xm, .int .u64 (X.val.flags.toNat : Int)][j]? = some x → w0.cell? ⟨bs, os + k * 9 + j, none⟩ = some x) (hyc : ∀ (j : Nat) (x : Value), [.string ⟨Y.key.toArray⟩, .int .i64 Y.val.kind, .int .i64 Y.val.time, .int .i64 Y.val.node, .bool Y.val.dead, .string ⟨Y.val.text.toArray⟩, yp, ym, .int .u64 (Y.val.flags.toNat : Int)][j]? = some x → w0.cell? ⟨bt, ot + k * 9 + j, none⟩ = some x) (hxp : isCells (X.val.plus.map intC) xp w0) (hxm : isCells (X.val.minus.map intC) xm w0) (hyp : isCells (Y.val.plus.map intC) yp w0) (hym : isCells (Y.val.minus.map intC) ym w0) (fX : FitE X) (fY : FitE Y) (hz : decide (X = Y) = z)
    (hQ : ∀ (g : Nat → Value) (w : World), g 26 = .bool !z → Below w0.heap.size w0 w → Q .normal { tmps := [17, 18, 19, 20, 21, 22, 23, 24, 25, 26].foldl (fun t s => t.setIfInBounds s (g s)) a0.tmps, defers := a0.defers } w) :
    (Code.region 6 rallOps true).wp Tryz.prog Q a0 w0 := by
  refine wp_region_flow mixed (by rw [hsz]; kernel_rfl) ?_
  rw [show rallOps.size = 10 by kernel_rfl]
  refine ⟨isVal (.slice (some ⟨bs, os, none⟩) n cs), step_move (.tmp 0) (by kernel_rfl) (wanted_none (by kernel_rfl)) (stable_val _) (knows_old 0 (.slice (some ⟨bs, os, none⟩) n cs) (by kernel_rfl) e0), ?_⟩
  refine ⟨isVal (.int .i64 (k : Int)), step_move (.tmp 5) (by kernel_rfl) (wanted_none (by kernel_rfl)) (stable_val _) (knows_old 5 (.int .i64 (k : Int)) (by kernel_rfl) e5), ?_⟩
  refine ⟨isVal (.pointer (some ⟨bs, os + k * 9, none⟩)), step_placeE 22 42 (.tmp 17) (.tmp 18) bs (os) (n) (cs) (k) (os + k * 9) (by kernel_rfl) (wanted_none (by kernel_rfl)) (knows_new (V := isVal (.slice (some ⟨bs, os, none⟩) n cs)) 17 0 (by kernel_rfl) (by kernel_rfl) (by kernel_rfl)) (knows_new (V := isVal (.int .i64 (k : Int))) 18 1 (by kernel_rfl) (by kernel_rfl) (by kernel_rfl)) Tryz.underlying22 (by kernel_rfl) (⟨hk, rfl⟩), ?_⟩
  refine ⟨isVal (.agg #[.string ⟨X.key.toArray⟩, .int .i64 X.val.kind, .int .i64 X.val.time, .int .i64 X.val.node, .bool X.val.dead, .string ⟨X.val.text.toArray⟩, xp, xm, .int .u64 (X.val.flags.toNat : Int)]), step_loadA 42 (.tmp 19) (bs) (os + k * 9) [.string ⟨X.key.toArray⟩, .int .i64 X.val.kind, .int .i64 X.val.time, .int .i64 X.val.node, .bool X.val.dead, .string ⟨X.val.text.toArray⟩, xp, xm, .int .u64 (X.val.flags.toNat : Int)] (by kernel_rfl) (wanted_none (by kernel_rfl)) (knows_new (V := isVal (.pointer (some ⟨bs, os + k * 9, none⟩))) 19 2 (by kernel_rfl) (by kernel_rfl) (by kernel_rfl)) size_en agg_en (⟨hbs, hxc⟩), ?_⟩
  refine ⟨isVal (.slice (some ⟨bt, ot, none⟩) n ct), step_move (.tmp 1) (by kernel_rfl) (wanted_none (by kernel_rfl)) (stable_val _) (knows_old 1 (.slice (some ⟨bt, ot, none⟩) n ct) (by kernel_rfl) e1), ?_⟩
  refine ⟨isVal (.int .i64 (k : Int)), step_move (.tmp 5) (by kernel_rfl) (wanted_none (by kernel_rfl)) (stable_val _) (knows_old 5 (.int .i64 (k : Int)) (by kernel_rfl) e5), ?_⟩
  refine ⟨isVal (.pointer (some ⟨bt, ot + k * 9, none⟩)), step_placeE 22 42 (.tmp 21) (.tmp 22) bt (ot) (n) (ct) (k) (ot + k * 9) (by kernel_rfl) (wanted_none (by kernel_rfl)) (knows_new (V := isVal (.slice (some ⟨bt, ot, none⟩) n ct)) 21 4 (by kernel_rfl) (by kernel_rfl) (by kernel_rfl)) (knows_new (V := isVal (.int .i64 (k : Int))) 22 5 (by kernel_rfl) (by kernel_rfl) (by kernel_rfl)) Tryz.underlying22 (by kernel_rfl) (⟨hk, rfl⟩), ?_⟩
  refine ⟨isVal (.agg #[.string ⟨Y.key.toArray⟩, .int .i64 Y.val.kind, .int .i64 Y.val.time, .int .i64 Y.val.node, .bool Y.val.dead, .string ⟨Y.val.text.toArray⟩, yp, ym, .int .u64 (Y.val.flags.toNat : Int)]), step_loadA 42 (.tmp 23) (bt) (ot + k * 9) [.string ⟨Y.key.toArray⟩, .int .i64 Y.val.kind, .int .i64 Y.val.time, .int .i64 Y.val.node, .bool Y.val.dead, .string ⟨Y.val.text.toArray⟩, yp, ym, .int .u64 (Y.val.flags.toNat : Int)] (by kernel_rfl) (wanted_none (by kernel_rfl)) (knows_new (V := isVal (.pointer (some ⟨bt, ot + k * 9, none⟩))) 23 6 (by kernel_rfl) (by kernel_rfl) (by kernel_rfl)) size_en agg_en (⟨hbt, hyc⟩), ?_⟩
  refine ⟨isVal (.bool z), step_call 44 #[.tmp 20, .tmp 24] #[42, 42] #[.agg #[.string ⟨X.key.toArray⟩, .int .i64 X.val.kind, .int .i64 X.val.time, .int .i64 X.val.node, .bool X.val.dead, .string ⟨X.val.text.toArray⟩, xp, xm, .int .u64 (X.val.flags.toNat : Int)], .agg #[.string ⟨Y.key.toArray⟩, .int .i64 Y.val.kind, .int .i64 Y.val.time, .int .i64 Y.val.node, .bool Y.val.dead, .string ⟨Y.val.text.toArray⟩, yp, ym, .int .u64 (Y.val.flags.toNat : Int)]] (by kernel_rfl) (wanted_none (by kernel_rfl)) (stable_val _) (args2 (.tmp 20) (.tmp 24) (.agg #[.string ⟨X.key.toArray⟩, .int .i64 X.val.kind, .int .i64 X.val.time, .int .i64 X.val.node, .bool X.val.dead, .string ⟨X.val.text.toArray⟩, xp, xm, .int .u64 (X.val.flags.toNat : Int)]) (.agg #[.string ⟨Y.key.toArray⟩, .int .i64 Y.val.kind, .int .i64 Y.val.time, .int .i64 Y.val.node, .bool Y.val.dead, .string ⟨Y.val.text.toArray⟩, yp, ym, .int .u64 (Y.val.flags.toNat : Int)]) (knows_new (V := isVal (.agg #[.string ⟨X.key.toArray⟩, .int .i64 X.val.kind, .int .i64 X.val.time, .int .i64 X.val.node, .bool X.val.dead, .string ⟨X.val.text.toArray⟩, xp, xm, .int .u64 (X.val.flags.toNat : Int)])) 20 3 (by kernel_rfl) (by kernel_rfl) (by kernel_rfl)) (knows_new (V := isVal (.agg #[.string ⟨Y.key.toArray⟩, .int .i64 Y.val.kind, .int .i64 Y.val.time, .int .i64 Y.val.node, .bool Y.val.dead, .string ⟨Y.val.text.toArray⟩, yp, ym, .int .u64 (Y.val.flags.toNat : Int)])) 24 7 (by kernel_rfl) (by kernel_rfl) (by kernel_rfl))) (enters_of Tryz.func44 (by kernel_rfl) rfl) (by intro w' hb; exact resame_val X Y z _ _ w' (en_mk hxp hxm hb) (en_mk hyp hym hb) fX fY hz), ?_⟩
  refine ⟨isVal (.bool !z), step_un .not 4 (.tmp 25) (.bool z) (.bool !z) (by kernel_rfl) (wanted_none (by kernel_rfl)) (knows_new (V := isVal (.bool z)) 25 8 (by kernel_rfl) (by kernel_rfl) (by kernel_rfl)) (fun _ => rfl), ?_⟩
  intro a w hkp hb hd
  rw [kept_of hkp [some 17, some 18, some 19, some 20, some 21, some 22, some 23, some 24, some 25, some 26] [17, 18, 19, 20, 21, 22, 23, 24, 25, 26] (by kernel_rfl) (by decide)]
  have d26 := fdone_of (hd 9 (by rw [show rallOps.size = 10 by kernel_rfl]; decide)) (t := 26) (V := isVal (.bool !z)) (by kernel_rfl) (by kernel_rfl)
  exact hQ (fun s => a.tmps.getD s undef) w d26 hb
set_option maxRecDepth 100000 in
set_option maxHeartbeats 2000000 in
theorem refAll_any (l m : List En) (v u : Value) (w : World) (hv : isEns l v w) (hu : isEns m u w) (hl : l.length ≤ 1000) (hm : m.length ≤ 1000) (fl : ∀ e ∈ l, FitE e) (fm : ∀ e ∈ m, FitE e) : Calls Tryz.prog 16 #[v, u] w fun e w' => e = .returned (.bool (decide (l = m))) ∧ Below w.heap.size w w' := by
  obtain ⟨va, vc, rfl⟩ := hv.len
  obtain ⟨ua, uc, rfl⟩ := hu.len
  by_cases hlen : l.length = m.length
  · have HV := Kept.mk hv
    have HU := Kept.mk hu
    have FL := Kept.mk fl
    have FM := Kept.mk fm
    clear hv hu fl fm
    generalize hn : l.length = n at *
    generalize hmn : m.length = n2 at *
    subst hlen
    have HN := Kept.mk (And.intro hn hmn)
    clear hn hmn
    go_enter Tryz.func16, Tryz.ntmps16
    go_wp2
    go_loopw [5] (fun i wr => ∃ k : Nat, k ≤ n ∧ i = .int .i64 (k : Int) ∧ Kept (Below w.heap.size w wr) ∧ Kept (∀ j, j < k → l[j]? = m[j]?)) (fun i _ => n - (intOf i).toNat)
    case atStart => exact ⟨0, Nat.zero_le _, rfl, ⟨Below.refl _ _⟩, ⟨fun j h => absurd h (Nat.not_lt_zero _)⟩⟩
    case round =>
      obtain ⟨k, hk, rfl, B, A⟩ := hrel
      by_cases hlt : k < n
      · have hlt' : (k : Int) < (n : Int) := by omega
        obtain ⟨X, hX⟩ : ∃ X, l[k]? = some X := ⟨_, List.getElem?_eq_getElem (by have := HN.out.1; omega)⟩
        obtain ⟨Y, hY⟩ : ∃ Y, m[k]? = some Y := ⟨_, List.getElem?_eq_getElem (by have := HN.out.2; omega)⟩
        obtain ⟨bs, os, cs, hvs, hbs, xp, xm, hxc, hxp, hxm⟩ := HV.out.get hX
        injection hvs with h1 hz1 h2
        clear hz1
        subst h1 h2
        obtain ⟨bt, ot, ct, hvt, hbt, yp, ym, hyc, hyp, hym⟩ := HU.out.get hY
        injection hvt with h1 hz1 h2
        clear hz1
        subst h1 h2
        have FX := Kept.mk (FL.out X (List.mem_of_getElem? hX))
        have FY := Kept.mk (FM.out Y (List.mem_of_getElem? hY))
        have HXY := Kept.mk (And.intro hX hY)
        have HXC := Kept.mk hxc
        have HYC := Kept.mk hyc
        obtain ⟨z, hz⟩ : ∃ z, decide (X = Y) = z := ⟨_, rfl⟩
        have HZ := Kept.mk hz
        have hsw := B.out.size
        clear hX hY hz hxc hyc
        go_wp2
        refine rall_region _ _ _ rfl k n bs os vc bt ot uc z X Y xp xm yp ym rfl rfl rfl hlt (by omega) (by omega) (fun j x hx => (B.out.cell (p := ⟨bs, os + k * 9 + j, none⟩) hbs).trans (HXC.out j x hx)) (fun j x hx => (B.out.cell (p := ⟨bt, ot + k * 9 + j, none⟩) hbt).trans (HYC.out j x hx)) (stable_cells _ _ _ _ hxp B.out) (stable_cells _ _ _ _ hxm B.out) (stable_cells _ _ _ _ hyp B.out) (stable_cells _ _ _ _ hym B.out) FX.out FY.out HZ.out ?_
        intro f9 W9 d26 hb9
        simp only [List.foldl_cons, List.foldl_nil, d26]
        generalize f9 17 = y17
        generalize f9 18 = y18
        generalize f9 19 = y19
        generalize f9 20 = y20
        generalize f9 21 = y21
        generalize f9 22 = y22
        generalize f9 23 = y23
        generalize f9 24 = y24
        generalize f9 25 = y25
        clear d26
        simp only [List.setIfInBounds_toArray, List.set_cons_succ, List.set_cons_zero]
        replace B := Kept.mk (B.out.trans (hb9.mono hsw))
        clear hb9
        cases z with
        | true =>
          have HQ := Kept.mk (of_decide_eq_true HZ.out)
          go_wp2
          go_roundw
          case rel =>
            refine ⟨k + 1, by omega, by go_num, B, ⟨fun j hj => ?_⟩⟩
            by_cases e : j = k
            · subst e; rw [HXY.out.1, HXY.out.2, HQ.out]
            · exact A.out j (by omega)
          case measure => simp [intOf]; omega
        | false =>
          have HE := Kept.mk (show decide (l = m) = false from decide_eq_false (fun e => by
            have := HXY.out.1; rw [e, HXY.out.2] at this; injection this with this
            exact (of_decide_eq_false HZ.out) this.symm))
          go_wp2
          go_ret
          exact ⟨by rw [HE.out]; rfl, B.out⟩
      · have hlt' : ¬ (k : Int) < (n : Int) := by omega
        have HE := Kept.mk (show decide (l = m) = true from decide_eq_true (List.ext_getElem? (fun j => by
          by_cases hj : j < k
          · exact A.out j hj
          · rw [List.getElem?_eq_none (by have := HN.out.1; omega), List.getElem?_eq_none (by have := HN.out.2; omega)])))
        go_wp2
        go_ret
        exact ⟨by rw [HE.out]; rfl, B.out⟩
  · have HE := Kept.mk (show decide (l = m) = false from decide_eq_false (fun e => hlen (by rw [e])))
    clear hv hu fl fm
    generalize l.length = n at *
    generalize m.length = n2 at *
    have hl1 : ((n : Int) == (n2 : Int)) = false := by simp; omega
    have hl2 : ((n : Int) != (n2 : Int)) = true := by simp; omega
    go_enter Tryz.func16, Tryz.ntmps16
    go_wp2
    go_ret
    exact ⟨by rw [HE.out]; rfl, Below.refl _ _⟩
end Go.Proofs.YtmbnhlhanckkiaaGreat
end
section
namespace Go.Proofs.YtmbnhlhanckkiaaGreat
open Go.RowKit
set_option linter.unusedVariables false
set_option linter.unusedSimpArgs false
attribute [local irreducible] setN

def srcP (ps : RowE) : VP := fun v w => SrcE v ps w
theorem SrcE.keepE {u : Value} {ps : RowE} {w w' : World} (h : SrcE u ps w) (hb : Below w.heap.size w w') : SrcE u ps w' := by
  rcases h with h | ⟨a, c, e, hc⟩
  · exact .inl h
  · exact .inr ⟨a, c, e, fun j x hx => (hb.cell (World.block_lt_of_cell? w _ (hc j x hx))).trans (hc j x hx)⟩
theorem stable_src (ps : RowE) : Stable (srcP ps) := fun v w w' h hb => SrcE.keepE h hb
theorem src_oneE (X : En) (xp xm : Value) (w : World) : SrcE (.slice (some ⟨w.heap.size, 0, none⟩) 1 1) [(X, xp, xm)] (w.alloc (.cells #[.string ⟨X.key.toArray⟩, .int .i64 X.val.kind, .int .i64 X.val.time, .int .i64 X.val.node, .bool X.val.dead, .string ⟨X.val.text.toArray⟩, xp, xm, .int .u64 (X.val.flags.toNat : Int)] 42)) := by
  refine .inr ⟨⟨w.heap.size, 0, none⟩, 1, rfl, fun j x hx => ?_⟩
  rw [add_at, Nat.zero_add, World.cell?_alloc_new]
  simpa [flatE, enL] using hx
section
variable {ops : Array Oper} {base : World} {a0 : Act} {Q : Exit → Act → World → Prop} {kn : Nat → VP} {i : Nat} {V : VP}
theorem step_src1 (X : En) (xp xm : Value) (x : Operand) (hop : (ops[i]?).map (·.op) = some (.buildSlice 22 1 #[(0, x)])) (hw : Wanted ops a0 kn i) (h0 : Knows ops a0 kn i x (isVal (.agg #[.string ⟨X.key.toArray⟩, .int .i64 X.val.kind, .int .i64 X.val.time, .int .i64 X.val.node, .bool X.val.dead, .string ⟨X.val.text.toArray⟩, xp, xm, .int .u64 (X.val.flags.toNat : Int)]))) : FStep Tryz.prog ops base a0 Q kn i (srcP [(X, xp, xm)]) :=
  step_mk (stable_src _) hw fun o ho a w hk hb hd => by
    have e0 : a.eval x = .agg #[.string ⟨X.key.toArray⟩, .int .i64 X.val.kind, .int .i64 X.val.time, .int .i64 X.val.node, .bool X.val.dead, .string ⟨X.val.text.toArray⟩, xp, xm, .int .u64 (X.val.flags.toNat : Int)] := h0 a w hk hd
    obtain ⟨ie, hie, hz, hsz⟩ : ∃ ie, Tryz.prog.info? 42 = some ie ∧ ie.zero = some (.agg #[.string ⟨#[]⟩, .int .i64 0, .int .i64 0, .int .i64 0, .bool false, .string ⟨#[]⟩, .slice none 0 0, .slice none 0 0, .int .u64 0]) ∧ ie.size = 9 := by
      have := Tryz.infoEn
      obtain ⟨ie, h1, h2⟩ := Option.map_eq_some_iff.1 this
      simp only [Prod.mk.injEq] at h2
      exact ⟨ie, h1, h2.1, h2.2⟩
    have hf : Instr.fill (fun i => some (i * ie.size, ie.size)) ((Array.range (1 * ie.size)).map ((Value.agg #[.string ⟨#[]⟩, .int .i64 0, .int .i64 0, .int .i64 0, .bool false, .string ⟨#[]⟩, .slice none 0 0, .slice none 0 0, .int .u64 0]).cells[· % (Value.agg #[.string ⟨#[]⟩, .int .i64 0, .int .i64 0, .int .i64 0, .bool false, .string ⟨#[]⟩, .slice none 0 0, .slice none 0 0, .int .u64 0]).cells.size]!)) ((#[(0, x)] : Array (Nat × Operand)).map fun (i, x) => (i, a.eval x)).toList = some #[.string ⟨X.key.toArray⟩, .int .i64 X.val.kind, .int .i64 X.val.time, .int .i64 X.val.node, .bool X.val.dead, .string ⟨X.val.text.toArray⟩, xp, xm, .int .u64 (X.val.flags.toNat : Int)] := by
      have e1 : ((#[(0, x)] : Array (Nat × Operand)).map fun (i, x) => (i, a.eval x)).toList = [(0, .agg #[.string ⟨X.key.toArray⟩, .int .i64 X.val.kind, .int .i64 X.val.time, .int .i64 X.val.node, .bool X.val.dead, .string ⟨X.val.text.toArray⟩, xp, xm, .int .u64 (X.val.flags.toNat : Int)])] := by simp [e0]
      rw [e1, hsz]
      exact fill_en X xp xm _ (by simp)
    refine wp_buildSlice 22 42 1 _ (op_of hop ho) _ ie (.agg #[.string ⟨#[]⟩, .int .i64 0, .int .i64 0, .int .i64 0, .bool false, .string ⟨#[]⟩, .slice none 0 0, .slice none 0 0, .int .u64 0]) Tryz.underlying22 hie hz (by rw [hsz]; omega) (by rw [hsz]; omega) hf ?_
    exact ⟨_, rfl, src_oneE X xp xm w, lit_below w _⟩
end
noncomputable def rallAOps : Array Oper := regionOf Tryz.f18 7
set_option maxRecDepth 100000 in
set_option maxHeartbeats 2000000 in
theorem rallA_region (Q : Exit → Act → World → Prop) (a0 : Act) (w0 : World) (hsz : a0.tmps.size = 28) (B : Nat) (v0 : Value) (ps : RowE) (g bs os cs n bi oi ci m k q : Nat) (c : Int) (X : En) (xp xm : Value) (e3 : a0.tmps.getD 3 undef = v0) (e1 : a0.tmps.getD 1 undef = .pointer (some ⟨g, 0, none⟩)) (e4 : a0.tmps.getD 4 undef = .int .i64 (k : Int)) (HG : CellsN w0 g [.int .i64 c, .slice (some ⟨bs, os, none⟩) n cs, .slice (some ⟨bi, oi, none⟩) m ci]) (hbi : bi < w0.heap.size) (hkm : k < m) (hq : w0.cell? ⟨bi, oi + k, none⟩ = some (.int .i64 (q : Int))) (hqn : q < n) (hbs : bs < w0.heap.size) (hxc : ∀ (jj : Nat) (x : Value), [.string ⟨X.key.toArray⟩, .int .i64 X.val.kind, .int .i64 X.val.time, .int .i64 X.val.node, .bool X.val.dead, .string ⟨X.val.text.toArray⟩, xp, xm, .int .u64 (X.val.flags.toNat : Int)][jj]? = some x → w0.cell? ⟨bs, os + q * 9 + jj, none⟩ = some x) (hO : OutV B v0 ps w0) (hr2 : RowsOk [(X, xp, xm)] w0) (hoff : ∀ q ∈ [(X, xp, xm)], ∀ b, v0.ownBlock = some b → OffQ b q) (hn : ps.length ≤ 900) (hB : B ≤ w0.heap.size)
    (hQ : ∀ (f : Nat → Value) (w1 : World), f 3 = f 26 → OutV B (f 26) (ps ++ [(X, xp, xm)]) w1 → Below B w0 w1 → Q .normal { tmps := [15, 16, 17, 18, 19, 20, 21, 22, 23, 24, 25, 26, 3].foldl (fun t s => t.setIfInBounds s (f s)) a0.tmps, defers := a0.defers } w1) :
    (Code.region 7 rallAOps true).wp Tryz.prog Q a0 w0 := by
  refine wp_region_relC grows_pre 11 mixed (by rw [hsz]; kernel_rfl) (by kernel_rfl) ?_
  rw [show rallAOps.size - 11 = 2 by kernel_rfl]
  refine ⟨isVal v0, RStep.old 3 v0 (by kernel_rfl) (by kernel_rfl) (by kernel_rfl) e3, ?_⟩
  refine ⟨isVal (.pointer (some ⟨g, 1, none⟩)), RStep.of grows_pre (stable_val _) (by kernel_rfl) (by intro w hbw; exact step_field 25 (.tmp 1) 1 ⟨g, 0, none⟩ ⟨g, 1, none⟩ (by kernel_rfl) (wanted_none (by kernel_rfl)) (knows_old 1 (.pointer (some ⟨g, 0, none⟩)) (by kernel_rfl) e1) (f_ar_0_1 (g))), ?_⟩
  refine ⟨isVal (.slice (some ⟨bs, os, none⟩) n cs), RStep.of grows_pre (stable_val _) (by kernel_rfl) (by intro w hbw; exact step_read 22 (.tmp 16) ⟨g, 1, none⟩ (.slice (some ⟨bs, os, none⟩) n cs) (by kernel_rfl) (wanted_none (by kernel_rfl)) (knows_new (V := isVal (.pointer (some ⟨g, 1, none⟩))) 16 1 (by kernel_rfl) (by kernel_rfl) (by kernel_rfl)) (((hbw.cell (p := ⟨g, 1, none⟩) HG.1).trans (HG.2 1 _ rfl))) ((Nat.lt_of_lt_of_le HG.1 hbw.size)) (agg_noS)), ?_⟩
  refine ⟨isVal (.pointer (some ⟨g, 2, none⟩)), RStep.of grows_pre (stable_val _) (by kernel_rfl) (by intro w hbw; exact step_field 25 (.tmp 1) 2 ⟨g, 0, none⟩ ⟨g, 2, none⟩ (by kernel_rfl) (wanted_none (by kernel_rfl)) (knows_old 1 (.pointer (some ⟨g, 0, none⟩)) (by kernel_rfl) e1) (f_ar_0_2 (g))), ?_⟩
  refine ⟨isVal (.slice (some ⟨bi, oi, none⟩) m ci), RStep.of grows_pre (stable_val _) (by kernel_rfl) (by intro w hbw; exact step_read 23 (.tmp 18) ⟨g, 2, none⟩ (.slice (some ⟨bi, oi, none⟩) m ci) (by kernel_rfl) (wanted_none (by kernel_rfl)) (knows_new (V := isVal (.pointer (some ⟨g, 2, none⟩))) 18 3 (by kernel_rfl) (by kernel_rfl) (by kernel_rfl)) (((hbw.cell (p := ⟨g, 2, none⟩) HG.1).trans (HG.2 2 _ rfl))) ((Nat.lt_of_lt_of_le HG.1 hbw.size)) (agg_noI)), ?_⟩
  refine ⟨isVal (.int .i64 (k : Int)), RStep.of grows_pre (stable_val _) (by kernel_rfl) (by intro w hbw; exact step_move (.tmp 4) (by kernel_rfl) (wanted_none (by kernel_rfl)) (stable_val _) (knows_old 4 (.int .i64 (k : Int)) (by kernel_rfl) e4)), ?_⟩
  refine ⟨isVal (.pointer (some ⟨bi, oi + k, none⟩)), RStep.of grows_pre (stable_val _) (by kernel_rfl) (by intro w hbw; exact step_place 23 3 (.tmp 19) (.tmp 20) bi (oi) (m) (ci) (k) (by kernel_rfl) (wanted_none (by kernel_rfl)) (knows_new (V := isVal (.slice (some ⟨bi, oi, none⟩) m ci)) 19 4 (by kernel_rfl) (by kernel_rfl) (by kernel_rfl)) (knows_new (V := isVal (.int .i64 (k : Int))) 20 5 (by kernel_rfl) (by kernel_rfl) (by kernel_rfl)) Tryz.underlying23 (by kernel_rfl) (hkm)), ?_⟩
  refine ⟨isVal (.int .i64 (q : Int)), RStep.of grows_pre (stable_val _) (by kernel_rfl) (by intro w hbw; exact step_read 3 (.tmp 21) ⟨bi, oi + k, none⟩ (.int .i64 (q : Int)) (by kernel_rfl) (wanted_none (by kernel_rfl)) (knows_new (V := isVal (.pointer (some ⟨bi, oi + k, none⟩))) 21 6 (by kernel_rfl) (by kernel_rfl) (by kernel_rfl)) (((hbw.cell (p := ⟨bi, oi + k, none⟩) hbi).trans hq)) ((Nat.lt_of_lt_of_le hbi hbw.size)) (agg_noZ)), ?_⟩
  refine ⟨isVal (.pointer (some ⟨bs, os + q * 9, none⟩)), RStep.of grows_pre (stable_val _) (by kernel_rfl) (by intro w hbw; exact step_placeE 22 42 (.tmp 17) (.tmp 22) bs (os) (n) (cs) (q) (os + q * 9) (by kernel_rfl) (wanted_none (by kernel_rfl)) (knows_new (V := isVal (.slice (some ⟨bs, os, none⟩) n cs)) 17 2 (by kernel_rfl) (by kernel_rfl) (by kernel_rfl)) (knows_new (V := isVal (.int .i64 (q : Int))) 22 7 (by kernel_rfl) (by kernel_rfl) (by kernel_rfl)) Tryz.underlying22 (by kernel_rfl) (⟨hqn, rfl⟩)), ?_⟩
  refine ⟨isVal (.agg #[.string ⟨X.key.toArray⟩, .int .i64 X.val.kind, .int .i64 X.val.time, .int .i64 X.val.node, .bool X.val.dead, .string ⟨X.val.text.toArray⟩, xp, xm, .int .u64 (X.val.flags.toNat : Int)]), RStep.of grows_pre (stable_val _) (by kernel_rfl) (by intro w hbw; exact step_loadA 42 (.tmp 23) (bs) (os + q * 9) [.string ⟨X.key.toArray⟩, .int .i64 X.val.kind, .int .i64 X.val.time, .int .i64 X.val.node, .bool X.val.dead, .string ⟨X.val.text.toArray⟩, xp, xm, .int .u64 (X.val.flags.toNat : Int)] (by kernel_rfl) (wanted_none (by kernel_rfl)) (knows_new (V := isVal (.pointer (some ⟨bs, os + q * 9, none⟩))) 23 8 (by kernel_rfl) (by kernel_rfl) (by kernel_rfl)) size_en agg_en (⟨Nat.lt_of_lt_of_le hbs hbw.size, fun j x hx => (hbw.cell (p := ⟨bs, os + q * 9 + j, none⟩) hbs).trans (hxc j x hx)⟩)), ?_⟩
  refine ⟨srcP [(X, xp, xm)], RStep.of grows_pre (stable_src _) (by kernel_rfl) (by intro w hbw; exact step_src1 X xp xm (.tmp 24) (by kernel_rfl) (wanted_none (by kernel_rfl)) (knows_new (V := isVal (.agg #[.string ⟨X.key.toArray⟩, .int .i64 X.val.kind, .int .i64 X.val.time, .int .i64 X.val.node, .bool X.val.dead, .string ⟨X.val.text.toArray⟩, xp, xm, .int .u64 (X.val.flags.toNat : Int)])) 24 9 (by kernel_rfl) (by kernel_rfl) (by kernel_rfl))), ?_⟩
  intro a w hk0 hb0 hd
  have hb : Below w0.heap.size w0 w := hb0
  have d15 : a.eval (.tmp 15) = v0 := fdone_of (rdone_f (hd 0 (by decide))) (t := 15) (V := isVal v0) (by kernel_rfl) (by kernel_rfl)
  have d25 : SrcE (a.eval (.tmp 25)) [(X, xp, xm)] w := fdone_of (rdone_f (hd 10 (by decide))) (t := 25) (V := srcP [(X, xp, xm)]) (by kernel_rfl) (by kernel_rfl)
  have h26 : 26 < a.tmps.size := by rw [hk0.2.1, hsz]; decide
  refine tail_op (fun _ _ => True) (OP := .call { callee := .builtin .append, args := #[.tmp 15, .tmp 25], argTypes := #[22, 22] }) (by kernel_rfl) (fun o ho e => ?_)
  have hdst : o.dst = some 26 := by have : (rallAOps[11]?).map (·.dst) = some (some 26) := by kernel_rfl
                                    rw [ho] at this; simpa using this
  obtain ⟨v', w1, hrun, ho1, hgr⟩ := run_append_ens (hO.keep hb) d25 (fun q hq => ⟨stable_cells _ _ _ _ (hr2 q hq).1 hb, stable_cells _ _ _ _ (hr2 q hq).2 hb⟩) hoff (by simp; omega) (Nat.le_trans hB hb.size) o.type
  unfold Oper.wp execOp
  rw [e]
  simp only [resolve, Sem.run_bind, Sem.run_pure, Result.andThen_ok, invoke, builtin, List.map_toArray, List.map_cons, List.map_nil, d15, hrun, Oper.upon, hdst]
  have hB1 : Below B w0 w1 := (hb.mono hB).trans ((Below.refl B w).grown hgr (Nat.le_trans hB hb.size) (fun j hj => (hO.own.lt j hj).1))
  show Tail Tryz.prog rallAOps Q 1 12 (a.put (some 26) v') w1
  refine tail_op (fun _ _ => True) (OP := .assign (.tmp 26)) (by kernel_rfl) (fun o2 ho2 e2 => ?_)
  have hdst2 : o2.dst = some 3 := by have : (rallAOps[12]?).map (·.dst) = some (some 3) := by kernel_rfl
                                     rw [ho2] at this; simpa using this
  have e26 : (a.put (some 26) v').tmps.getD 26 undef = v' := getD_put_self h26
  unfold Oper.wp execOp
  rw [e2]
  simp only [Oper.upon, Sem.run_pure, hdst2]
  show Tail Tryz.prog rallAOps Q 0 13 (((a.put (some 26) v')).put (some 3) ((a.put (some 26) v').tmps.getD 26 undef)) w1
  rw [e26]
  have h3 : 3 < (a.put (some 26) v').tmps.size := by rw [size_put, hk0.2.1, hsz]; decide
  have f3 : ((a.put (some 26) v').put (some 3) v').tmps.getD 3 undef = v' := getD_put_self h3
  have f26 : ((a.put (some 26) v').put (some 3) v').tmps.getD 26 undef = v' := (getD_put (by decide)).trans e26
  show Q .normal ((a.put (some 26) v').put (some 3) v') w1
  have key := act_of (a := (a.put (some 26) v').put (some 3) v') (a0 := a0) (by rw [defers_put, defers_put]; exact hk0.1) (by rw [size_put, size_put]; exact hk0.2.1) [15, 16, 17, 18, 19, 20, 21, 22, 23, 24, 25, 26, 3] (fun t ht => by
    have n1 : t ≠ 3 := by rintro rfl; revert ht; decide
    have n2 : t ≠ 26 := by rintro rfl; revert ht; decide
    rw [getD_put n1, getD_put n2]
    refine hk0.2.2 t ?_
    have e13 : ((List.range 11).all fun i => (rallAOps[i]?).all fun o => o.dst != some t) = ([15, 16, 17, 18, 19, 20, 21, 22, 23, 24, 25].all fun d => some d != some t) := by kernel_rfl
    rw [e13, List.all_eq_true]
    intro d hd'
    simp only [bne_iff_ne, ne_eq, Option.some.injEq]
    rintro rfl
    rw [List.contains_eq_mem] at ht
    simp only [decide_eq_false_iff_not] at ht
    exact ht (by simp only [List.mem_cons, List.not_mem_nil, or_false] at hd' ⊢; omega))
  rw [key]
  refine hQ (fun s => ((a.put (some 26) v').put (some 3) v').tmps.getD s undef) w1 (f3.trans f26.symm) ?_ hB1
  show OutV B (((a.put (some 26) v').put (some 3) v').tmps.getD 26 undef) _ _
  rw [f26]
  exact ho1
def EnsPost (l : List En) (w : World) (e : Ending) (w' : World) : Prop := ∃ v', e = .returned v' ∧ isEns l v' w' ∧ Below w.heap.size w w'
theorem rcheckA_at (A : Ar) (r : Bool) (v : Value) (w : World) (hv : isAr A v w) (hF : FitA A) (hr : okA A = r) : Calls Tryz.prog 14 #[v] w fun e w' => e = .returned (.bool r) ∧ Below w.heap.size w w' := by subst hr; exact rcheckA_any A v w hv hF
set_option maxRecDepth 100000 in
set_option maxHeartbeats 2000000 in
theorem rallA_post (A : Ar) (v : Value) (w : World) (hv : isAr A v w) (hF : FitA A) : Calls Tryz.prog 18 #[v] w (EnsPost (allA A) w) := by
  obtain ⟨vs, vi, rfl, hs, hi⟩ := hv
  obtain ⟨HB, VA⟩ := abox w A vs vi hs hi w.heap.size rfl
  have CG := Kept.mk (cellsN_at w 25 [.int .i64 A.cap, vs, vi] w.heap.size rfl)
  have XA := Kept.mk (show isAr A (.agg #[.int .i64 A.cap, vs, vi]) (w.alloc (.cells #[.int .i64 A.cap, vs, vi] 25)) from stable_ar A _ _ _ ⟨vs, vi, rfl, hs, hi⟩ HB.out)
  have HS := Kept.mk hs
  have HI := Kept.mk hi
  have ka0 := CG.out.2 0 _ rfl
  have ka1 := CG.out.2 1 _ rfl
  have ka2 := CG.out.2 2 _ rfl
  clear VA hs hi
  cases hok : okA A with
  | false =>
    have HO := Kept.mk hok
    have HE := Kept.mk (show allA A = [] by unfold allA; rw [hok]; rfl)
    clear hok
    go_enter Tryz.func18, Tryz.ntmps18
    go_wp2_with fail
    refine (rcheckA_at A false _ _ XA.out hF HO.out).mono ?_
    rintro e W1 ⟨rfl, hb⟩
    replace HB := Kept.mk (HB.out.trans (hb.mono HB.out.size))
    clear hb XA CG ka0 ka1 ka2
    go_wp2
    go_ret
    exact ⟨_, rfl, by rw [HE.out]; exact .inl ⟨rfl, rfl⟩, HB.out⟩
  | true =>
    have HO := Kept.mk hok
    have OA := Kept.mk (okA_iff.1 hok)
    have HE := Kept.mk (show allA A = ordA A by unfold allA; rw [hok]; rfl)
    clear hok
    obtain ⟨ia, ci, ei⟩ := HI.out.len
    rw [List.length_map] at ei
    obtain ⟨sa, cs, es⟩ := HS.out.len
    subst ei es
    have f1 := hF.slots
    generalize hM : A.index.length = M at *
    have HM := Kept.mk hM
    generalize hN : A.slots.length = N at *
    have HN := Kept.mk hN
    have hMN : M = N := by rw [← hM, ← hN]; exact OA.out.len
    have HMN := Kept.mk hMN
    have hM8 : M ≤ 8 := by have h1 := OA.out.fits; have h2 := OA.out.room; omega
    clear hM hN hMN
    go_enter Tryz.func18, Tryz.ntmps18
    go_wp2_with fail
    refine (rcheckA_at A true _ _ XA.out hF HO.out).mono ?_
    rintro e W1 ⟨rfl, hb⟩
    replace HB := Kept.mk (HB.out.trans (hb.mono HB.out.size))
    replace CG := Kept.mk (CG.out.keep hb CG.out.1)
    clear hb XA ka0 ka1 ka2
    go_wp2
    go_loopw [3, 4] (fun OV IV WZ => ∃ (k : Nat) (ps : RowE), k ≤ M ∧ IV = .int .i64 (k : Int) ∧ Kept (OutV W1.heap.size OV ps WZ) ∧ Kept (ps.map (·.1) = (ordA A).take k) ∧ Kept (Below W1.heap.size W1 WZ)) (fun _ IV _ => M - (intOf IV).toNat)
    case atStart => exact ⟨0, [], Nat.zero_le _, rfl, ⟨outV_nil _ _⟩, ⟨rfl⟩, ⟨Below.refl _ _⟩⟩
    case round =>
      obtain ⟨k, ps, hk, rfl, OV, HPS, BZ⟩ := hrel
      have CG2 := Kept.mk (CG.out.keep BZ.out CG.out.1)
      have HB2 := Kept.mk (HB.out.trans (BZ.out.mono HB.out.size))
      have kb1 := CG2.out.2 1 _ rfl
      have kb2 := CG2.out.2 2 _ rfl
      have hpl : ps.length ≤ M := by have := congrArg List.length HPS.out; rw [List.length_map, List.length_take] at this; omega
      by_cases hlt : k < M
      · have hlt' : (k : Int) < (M : Int) := by omega
        obtain ⟨p, hp⟩ : ∃ p, A.index[k]? = some p := ⟨_, List.getElem?_eq_getElem (by rw [HM.out]; exact hlt)⟩
        have hpr := OA.out.rng p (List.mem_of_getElem? hp)
        rw [HN.out] at hpr
        obtain ⟨q, rfl⟩ : ∃ q : Nat, p = (q : Int) := ⟨p.toNat, by omega⟩
        have hqN : q < N := by omega
        obtain ⟨X, hX⟩ : ∃ X, A.slots[q]? = some X := ⟨_, List.getElem?_eq_getElem (by rw [HN.out]; exact hqN)⟩
        have HTK := Kept.mk (show (ordA A).take (k + 1) = (ordA A).take k ++ [X] by rw [List.take_add_one, ord_get hp hX]; rfl)
        obtain ⟨bs, os, cs', ea, hbs, xp, xm, hxc, hxp, hxm⟩ := HS.out.get hX
        injection ea with ea1 _ ea3
        subst ea1 ea3
        obtain ⟨bi, oi, ci', eb, hbi, hci⟩ := HI.out.some_ (by rw [List.length_map, HM.out]; omega)
        injection eb with eb1 eb2 eb3
        clear eb2
        subst eb1 eb3
        have hqc := hci k (intC (q : Int)) (by rw [List.getElem?_map, hp]; rfl)
        have HQ := Kept.mk hqc
        have HXC := Kept.mk hxc
        have ROW := Kept.mk (show RowsOk [(X, xp, xm)] w from fun q hq => by rw [List.mem_singleton] at hq; subst hq; exact ⟨hxp, hxm⟩)
        have hw1 := HB.out.size
        have hwz := HB2.out.size
        have hzz := BZ.out.size
        clear hp hX hxc hci hqc hxp hxm hpr kb1
        go_wp2
        refine rallA_region _ _ _ rfl W1.heap.size u3 ps w.heap.size bs os cs N bi oi ci M k q A.cap X xp xm rfl rfl rfl CG2.out (by omega) hlt ((HB2.out.cell (p := ⟨bi, oi + k, none⟩) hbi).trans HQ.out) hqN (by omega) (fun jj x hx => (HB2.out.cell (p := ⟨bs, os + q * 9 + jj, none⟩) hbs).trans (HXC.out jj x hx)) OV.out (fun q hq => ⟨stable_cells _ _ _ _ (ROW.out q hq).1 HB2.out, stable_cells _ _ _ _ (ROW.out q hq).2 HB2.out⟩) (fun q hq b hbo => off_old ROW.out (by have := (OV.out.own.lt b hbo).1; omega) q hq) (by omega) BZ.out.size ?_
        intro f9 W9 d3 ho hb9
        simp only [List.foldl_cons, List.foldl_nil, d3]
        have OV9 := Kept.mk ho
        have BZ9 := Kept.mk (BZ.out.trans hb9)
        clear ho hb9 d3
        generalize f9 26 = y26 at OV9 ⊢
        generalize f9 15 = y15
        generalize f9 16 = y16
        generalize f9 17 = y17
        generalize f9 18 = y18
        generalize f9 19 = y19
        generalize f9 20 = y20
        generalize f9 21 = y21
        generalize f9 22 = y22
        generalize f9 23 = y23
        generalize f9 24 = y24
        generalize f9 25 = y25
        simp only [List.setIfInBounds_toArray, List.set_cons_succ, List.set_cons_zero]
        clear f9 CG2 kb2
        go_wp2
        go_roundw
        case rel => exact ⟨k + 1, ps ++ [(X, xp, xm)], by omega, by go_num, OV9, ⟨by rw [List.map_append, HPS.out, HTK.out]; rfl⟩, BZ9⟩
        case measure => simp [intOf]; omega
      · have hlt' : ¬ (k : Int) < (M : Int) := by omega
        have HEN := Kept.mk (show isEns (allA A) u3 wr by rw [HE.out, show ordA A = ps.map (·.1) by rw [HPS.out, List.take_of_length_le (by rw [ord_length OA.out, HN.out, ← HMN.out]; omega)]]; exact OV.out.ens)
        go_wp2
        go_ret
        exact ⟨_, rfl, HEN.out, HB2.out⟩
set_option maxRecDepth 100000 in
set_option maxHeartbeats 2000000 in
theorem rfind_any (A : Ar) (kind : Int) (key : List UInt8) (v : Value) (w : World) (hv : isAr A v w) (hF : FitA A) : Calls Tryz.prog 15 #[v, .int .i64 kind, .string ⟨key.toArray⟩] w fun e w' => e = .returned (.int .i64 (findI A (nameE kind key))) ∧ Below w.heap.size w w' := by
  obtain ⟨vs, vi, rfl, hs, hi⟩ := hv
  obtain ⟨HB, VA⟩ := abox w A vs vi hs hi w.heap.size rfl
  have CG := Kept.mk (cellsN_at w 25 [.int .i64 A.cap, vs, vi] w.heap.size rfl)
  have XA := Kept.mk (show isAr A (.agg #[.int .i64 A.cap, vs, vi]) (w.alloc (.cells #[.int .i64 A.cap, vs, vi] 25)) from stable_ar A _ _ _ ⟨vs, vi, rfl, hs, hi⟩ HB.out)
  have HS := Kept.mk hs
  have HI := Kept.mk hi
  have ka0 := CG.out.2 0 _ rfl
  have ka1 := CG.out.2 1 _ rfl
  have ka2 := CG.out.2 2 _ rfl
  clear VA hs hi
  obtain ⟨p, hp⟩ : ∃ p, findI A (nameE kind key) = p := ⟨_, rfl⟩
  rw [hp]
  have HP := Kept.mk hp
  clear hp
  cases hok : okA A with
  | false =>
    have HO := Kept.mk hok
    have HE := Kept.mk (show p = -1 by rw [← HP.out]; exact find_bad hok _)
    clear hok
    go_enter Tryz.func15, Tryz.ntmps15
    go_wp2_with fail
    refine (rcheckA_at A false _ _ XA.out hF HO.out).mono ?_
    rintro e W1 ⟨rfl, hb⟩
    replace HB := Kept.mk (HB.out.trans (hb.mono HB.out.size))
    clear hb XA CG ka0 ka1 ka2
    go_wp2
    go_ret
    exact ⟨by rw [HE.out]; rfl, HB.out⟩
  | true =>
    have HO := Kept.mk hok
    have OA := Kept.mk (okA_iff.1 hok)
    clear hok
    obtain ⟨sa, cs, es⟩ := HS.out.len
    subst es
    have f1 := hF.slots
    generalize hN : A.slots.length = N at *
    have HN := Kept.mk hN
    clear hN
    go_enter Tryz.func15, Tryz.ntmps15
    go_wp2_with fail
    refine (rcheckA_at A true _ _ XA.out hF HO.out).mono ?_
    rintro e W1 ⟨rfl, hb⟩
    replace HB := Kept.mk (HB.out.trans (hb.mono HB.out.size))
    replace CG := Kept.mk (CG.out.keep hb CG.out.1)
    have kb1 := CG.out.2 1 _ rfl
    clear hb XA ka0 ka1 ka2
    go_wp2
    go_loop [7] (fun IV => ∃ k : Nat, k ≤ N ∧ IV = .int .i64 (k : Int) ∧ Kept (∀ j E, j < k → A.slots[j]? = some E → nameB E (nameE kind key) = false)) (fun IV => N - (intOf IV).toNat)
    case atStart => exact ⟨0, Nat.zero_le _, rfl, ⟨fun j E h => absurd h (Nat.not_lt_zero _)⟩⟩
    case round =>
      obtain ⟨k, hk, rfl, AJ⟩ := hrel
      by_cases hlt : k < N
      · have hlt' : (k : Int) < (N : Int) := by omega
        obtain ⟨E, hE⟩ : ∃ E, A.slots[k]? = some E := ⟨_, List.getElem?_eq_getElem (by rw [HN.out]; exact hlt)⟩
        have HX := Kept.mk hE
        obtain ⟨bs, os, cs', ea, hbs, xp, xm, hxc, hxp, hxm⟩ := HS.out.get hE
        injection ea with ea1 _ ea3
        subst ea1 ea3
        have kx0 : W1.cell? ⟨bs, os + k * 9, none⟩ = _ := (HB.out.cell (p := ⟨bs, os + k * 9 + 0, none⟩) hbs).trans (hxc 0 _ rfl)
        have kx1 : W1.cell? ⟨bs, os + k * 9 + 1, none⟩ = _ := (HB.out.cell (p := ⟨bs, os + k * 9 + 1, none⟩) hbs).trans (hxc 1 _ rfl)
        have HNM := Kept.mk (show nameB E (nameE kind key) = ((E.val.kind == kind) && (E.key == key)) by unfold nameB nameE; rw [Bool.eq_iff_iff]; simp)
        clear hE hxc hxp hxm
        have no : nameB E (nameE kind key) = false → ∀ j E', j < k + 1 → A.slots[j]? = some E' → nameB E' (nameE kind key) = false := fun hf j E' hj he => by
          by_cases e : j = k
          · subst e; rw [HX.out] at he; injection he with he; rw [← he]; exact hf
          · exact AJ.out j E' (by omega) he
        have NO := Kept.mk no
        clear no
        cases h1 : (E.val.kind == kind) with
        | false =>
          have HF := Kept.mk (NO.out (by rw [HNM.out, h1]; rfl))
          go_wp2
          go_round
          case rel => exact ⟨k + 1, by omega, by go_num, HF⟩
          case measure => simp [intOf]; omega
        | true =>
          cases h2 : (E.key == key) with
          | false =>
            have HF := Kept.mk (NO.out (by rw [HNM.out, h2, Bool.and_false]))
            go_wp2
            go_round
            case rel => exact ⟨k + 1, by omega, by go_num, HF⟩
            case measure => simp [intOf]; omega
          | true =>
            have HF := Kept.mk (show p = (k : Int) by rw [← HP.out]; exact find_ref OA.out _ HX.out (by rw [HNM.out, h1, h2]; rfl))
            go_wp2
            go_ret
            exact ⟨by rw [HF.out]; rfl, HB.out⟩
      · have hlt' : ¬ (k : Int) < (N : Int) := by omega
        have HF := Kept.mk (show p = -1 by
          rw [← HP.out]; refine find_ref_no OA.out _ (fun e he => ?_)
          obtain ⟨j, hj⟩ := List.getElem?_of_mem he
          exact AJ.out j e (by have := (List.getElem?_eq_some_iff.1 hj).1; rw [HN.out] at this; omega) hj)
        go_wp2
        go_ret
        exact ⟨by rw [HF.out]; rfl, HB.out⟩
set_option maxRecDepth 100000 in
set_option maxHeartbeats 2000000 in
theorem rsameA_any (A C : Ar) (v u : Value) (w : World) (hv : isAr A v w) (hu : isAr C u w) (hA : FitA A) (hC : FitA C) : Calls Tryz.prog 21 #[v, u] w fun e w' => e = .returned (.bool (decide (A = C))) ∧ Below w.heap.size w w' := by
  obtain ⟨vs, vi, rfl, hs, hi⟩ := hv
  obtain ⟨us, ui, rfl, ks, ki⟩ := hu
  obtain ⟨hB, Va⟩ := abox w A vs vi hs hi w.heap.size rfl
  obtain ⟨hBn, Vc⟩ := abox (w.alloc (.cells #[.int .i64 A.cap, vs, vi] 25)) C us ui (stable_ens _ _ _ _ ks hB.out) (stable_cells _ _ _ _ ki hB.out) (w.heap.size + 1) (by simp)
  replace Va := Kept.mk (Va.out.keep hBn.out)
  replace hB := Kept.mk (hB.out.trans (hBn.out.mono hB.out.size))
  clear hBn hs hi ks ki
  have HD := Kept.mk (ar_eq A C)
  obtain ⟨a1, a2, _, sa, _, ka0, ka1, ka2⟩ := Va.out.open_
  obtain ⟨c1, c2, _, sc, _, kc0, kc1, kc2⟩ := Vc.out.open_
  have SA := Kept.mk sa
  have SC := Kept.mk sc
  clear sa sc
  go_enter Tryz.func21, Tryz.ntmps21
  by_cases h1 : A.cap = C.cap
  · rw [decide_eq_true h1, Bool.true_and] at HD
    have h1' : (A.cap == C.cap) = true := by simpa using h1
    clear h1
    go_wp2_with fail
    refine (refAll_any A.slots C.slots _ _ _ SA.out SC.out hA.slots hC.slots hA.ents hC.ents).mono ?_
    rintro e W1 ⟨rfl, hb⟩
    replace hB := Kept.mk (hB.out.trans (hb.mono hB.out.size))
    replace Va := Kept.mk (Va.out.keep hb)
    replace Vc := Kept.mk (Vc.out.keep hb)
    clear hb ka0 ka1 ka2 kc0 kc1 kc2 SA SC
    cases h2 : decide (A.slots = C.slots) with
    | true =>
      rw [h2, Bool.true_and] at HD
      obtain ⟨_, _, _, _, ia, ka0, ka1, ka2⟩ := Va.out.open_
      obtain ⟨_, _, _, _, ic, kc0, kc1, kc2⟩ := Vc.out.open_
      have IA := Kept.mk ia
      have IC := Kept.mk ic
      clear ia ic
      have f1 := hA.index
      have f2 := hC.index
      go_wp2_with fail
      refine (refInts_any A.index C.index _ _ _ IA.out IC.out (by omega) (by omega)).mono ?_
      rintro e W2 ⟨rfl, hb⟩
      replace hB := Kept.mk (hB.out.trans (hb.mono hB.out.size))
      clear hb
      cases h3 : decide (A.index = C.index) <;>
      · rw [h3] at HD
        go_wp2
        go_ret
        exact ⟨by rw [HD.out]; rfl, hB.out⟩
    | false =>
      rw [h2, Bool.false_and] at HD
      go_wp2
      go_ret
      exact ⟨by rw [HD.out]; rfl, hB.out⟩
  · rw [decide_eq_false h1, Bool.false_and] at HD
    have h1' : (A.cap == C.cap) = false := by simpa using h1
    go_wp2
    go_ret
    exact ⟨by rw [HD.out]; rfl, hB.out⟩
set_option maxRecDepth 100000 in
set_option maxHeartbeats 2000000 in
theorem rnewA_any (n : Int) (w : World) : Calls Tryz.prog 13 #[.int .i64 n] w fun e w' => ∃ v', e = .returned (.tuple #[v', .int .i64 (newAE n)]) ∧ isAr (newAF n) v' w' ∧ Below w.heap.size w w' := by
  have HR := Kept.mk (Blk.new w 25 [.int .i64 0, .slice none 0 0, .slice none 0 0] w.heap.size rfl)
  have hB := Kept.mk (lit_below w (.cells #[.int .i64 0, .slice none 0 0, .slice none 0 0] 25))
  by_cases h1 : n < 1
  · have hr : roomB n = false := by unfold roomB; rw [decide_eq_false (by omega)]; rfl
    have HO : Kept (Ones [.int .i64 0, .slice none 0 0, .slice none 0 0]) := ⟨⟨rfl, rfl, rfl, trivial⟩⟩
    have E1 := Kept.mk (show newAE n = 1 by unfold newAE; rw [hr]; rfl)
    have E2 := Kept.mk (show newAF n = zeroA by unfold newAF; rw [hr]; rfl)
    clear hr
    go_enter Tryz.func13, Tryz.ntmps13
    go_wp2_with (have hz0 := HO; refine wpList_storeN 25 rfl (.tmp 2) (.tmp 10) rfl w.heap.size [.int .i64 0, .slice none 0 0, .slice none 0 0] size_ar rfl rfl HR.out.cells rfl HR.out.free HO.out ?_; clear hz0 HO)
    rw [E1.out, E2.out]
    exact bodyPost_ret (resultsN2 rfl _ _ w.heap.size [.int .i64 0, .slice none 0 0, .slice none 0 0] (.int .i64 1) size_ar agg_ar rfl rfl (HR.out.all_ (l := [.int .i64 0, .slice none 0 0, .slice none 0 0]) rfl).cells) rfl ⟨_, rfl, ⟨.slice none 0 0, .slice none 0 0, rfl, .inl ⟨rfl, rfl⟩, .inl ⟨rfl, rfl⟩⟩, below_setN (Nat.le_refl _) _ 0 _ hB.out⟩
  · by_cases h2 : 8 < n
    · have hr : roomB n = false := by unfold roomB; rw [decide_eq_false (show ¬ n ≤ 8 by omega), Bool.and_false]
      have HO : Kept (Ones [.int .i64 0, .slice none 0 0, .slice none 0 0]) := ⟨⟨rfl, rfl, rfl, trivial⟩⟩
      have E1 := Kept.mk (show newAE n = 1 by unfold newAE; rw [hr]; rfl)
      have E2 := Kept.mk (show newAF n = zeroA by unfold newAF; rw [hr]; rfl)
      clear hr
      go_enter Tryz.func13, Tryz.ntmps13
      go_wp2_with (have hz0 := HO; refine wpList_storeN 25 rfl (.tmp 2) (.tmp 10) rfl w.heap.size [.int .i64 0, .slice none 0 0, .slice none 0 0] size_ar rfl rfl HR.out.cells rfl HR.out.free HO.out ?_; clear hz0 HO)
      rw [E1.out, E2.out]
      exact bodyPost_ret (resultsN2 rfl _ _ w.heap.size [.int .i64 0, .slice none 0 0, .slice none 0 0] (.int .i64 1) size_ar agg_ar rfl rfl (HR.out.all_ (l := [.int .i64 0, .slice none 0 0, .slice none 0 0]) rfl).cells) rfl ⟨_, rfl, ⟨.slice none 0 0, .slice none 0 0, rfl, .inl ⟨rfl, rfl⟩, .inl ⟨rfl, rfl⟩⟩, below_setN (Nat.le_refl _) _ 0 _ hB.out⟩

    · have hr : roomB n = true := by unfold roomB; rw [decide_eq_true (by omega), decide_eq_true (by omega)]; rfl
      have HO : Kept (Ones [.int .i64 n, .slice none 0 0, .slice none 0 0]) := ⟨⟨rfl, rfl, rfl, trivial⟩⟩
      have E1 := Kept.mk (show newAE n = 0 by unfold newAE; rw [hr]; rfl)
      have E2 := Kept.mk (show newAF n = ⟨n, [], []⟩ by unfold newAF; rw [hr]; rfl)
      clear hr
      go_enter Tryz.func13, Tryz.ntmps13
      go_wp2_with (have hz0 := HO; refine wpList_storeN 25 rfl (.tmp 2) (.tmp 12) rfl w.heap.size [.int .i64 n, .slice none 0 0, .slice none 0 0] size_ar rfl rfl HR.out.cells rfl HR.out.free HO.out ?_; clear hz0 HO)
      rw [E1.out, E2.out]
      exact bodyPost_ret (resultsN2 rfl _ _ w.heap.size [.int .i64 n, .slice none 0 0, .slice none 0 0] (.int .i64 0) size_ar agg_ar rfl rfl (HR.out.all_ (l := [.int .i64 n, .slice none 0 0, .slice none 0 0]) rfl).cells) rfl ⟨_, rfl, ⟨.slice none 0 0, .slice none 0 0, rfl, .inl ⟨rfl, rfl⟩, .inl ⟨rfl, rfl⟩⟩, below_setN (Nat.le_refl _) _ 0 _ hB.out⟩

end Go.Proofs.YtmbnhlhanckkiaaGreat
end
section
namespace Go.Proofs.YtmbnhlhanckkiaaGreat
open Go.RowKit
set_option linter.unusedVariables false
set_option linter.unusedSimpArgs false
attribute [local irreducible] setN

set_option maxRecDepth 100000 in
set_option maxHeartbeats 2000000 in
theorem rchunk_any (A : Ar) (at_ n : Int) (v : Value) (w : World) (hv : isAr A v w) (hF : FitA A) : Calls Tryz.prog 20 #[v, .int .i64 at_, .int .i64 n] w (EnsPost (chunkA A at_ n) w) := by
  obtain ⟨vs, vi, rfl, hs, hi⟩ := hv
  obtain ⟨HB, VA⟩ := abox w A vs vi hs hi w.heap.size rfl
  have CG := Kept.mk (cellsN_at w 25 [.int .i64 A.cap, vs, vi] w.heap.size rfl)
  have XA := Kept.mk (show isAr A (.agg #[.int .i64 A.cap, vs, vi]) (w.alloc (.cells #[.int .i64 A.cap, vs, vi] 25)) from stable_ar A _ _ _ ⟨vs, vi, rfl, hs, hi⟩ HB.out)
  have HS := Kept.mk hs
  have ka0 := CG.out.2 0 _ rfl
  have ka1 := CG.out.2 1 _ rfl
  have ka2 := CG.out.2 2 _ rfl
  clear VA hs hi
  cases hok : okA A with
  | false =>
    have HO := Kept.mk hok
    have HE := Kept.mk (show chunkA A at_ n = [] by unfold chunkA; rw [hok]; by_cases h : at_ < 0 <;> simp [h])
    clear hok
    go_enter Tryz.func20, Tryz.ntmps20
    go_wp2_with fail
    refine (rcheckA_at A false _ _ XA.out hF HO.out).mono ?_
    rintro e W1 ⟨rfl, hb⟩
    replace HB := Kept.mk (HB.out.trans (hb.mono HB.out.size))
    clear hb XA CG ka0 ka1 ka2
    go_wp2
    go_ret
    exact ⟨_, rfl, by rw [HE.out]; exact .inl ⟨rfl, rfl⟩, HB.out⟩
  | true =>
    have HO := Kept.mk hok
    have HE := Kept.mk (show ¬ at_ < 0 → chunkA A at_ n = (A.slots.drop at_.toNat).take n.toNat by intro h; unfold chunkA; rw [if_neg h, if_pos hok])
    have HE0 := Kept.mk (show at_ < 0 → chunkA A at_ n = [] by intro h; unfold chunkA; rw [if_pos h])
    clear hok
    obtain ⟨sa, cs, es⟩ := HS.out.len
    subst es
    have f1 := hF.slots
    generalize hN : A.slots.length = N at *
    have HN := Kept.mk hN
    clear hN
    by_cases h0 : at_ < 0
    · have HZ := Kept.mk (HE0.out h0)
      go_enter Tryz.func20, Tryz.ntmps20
      go_wp2_with fail
      refine (rcheckA_at A true _ _ XA.out hF HO.out).mono ?_
      rintro e W1 ⟨rfl, hb⟩
      replace HB := Kept.mk (HB.out.trans (hb.mono HB.out.size))
      clear hb XA CG ka0 ka1 ka2
      go_wp2
      go_ret
      exact ⟨_, rfl, by rw [HZ.out]; exact .inl ⟨rfl, rfl⟩, HB.out⟩
    · have HT := Kept.mk (HE.out h0)
      obtain ⟨q, rfl⟩ : ∃ q : Nat, at_ = (q : Int) := ⟨at_.toNat, by omega⟩
      go_enter Tryz.func20, Tryz.ntmps20
      go_wp2_with fail
      refine (rcheckA_at A true _ _ XA.out hF HO.out).mono ?_
      rintro e W1 ⟨rfl, hb⟩
      replace HB := Kept.mk (HB.out.trans (hb.mono HB.out.size))
      replace CG := Kept.mk (CG.out.keep hb CG.out.1)
      clear hb XA ka0 ka1 ka2
      go_wp2
      go_loopw [7, 8] (fun OV IV WZ => ∃ (k : Nat) (ps : RowE), (k = 0 ∨ q + k ≤ N) ∧ IV = .int .i64 ((q + k : Nat) : Int) ∧ Kept (OutV W1.heap.size OV ps WZ) ∧ Kept (ps.map (·.1) = (A.slots.drop q).take k) ∧ (k : Int) ≤ max n 0 ∧ ps.length = k ∧ Kept (Below W1.heap.size W1 WZ)) (fun _ IV _ => N - (intOf IV).toNat)
      case atStart => exact ⟨0, [], .inl rfl, rfl, ⟨outV_nil _ _⟩, ⟨rfl⟩, by omega, rfl, ⟨Below.refl _ _⟩⟩
      case round =>
        obtain ⟨k, ps, hk, rfl, OV, HPS, hkn, hpl, BZ⟩ := hrel
        have HPL := Kept.mk hpl
        have CG2 := Kept.mk (CG.out.keep BZ.out CG.out.1)
        have HB2 := Kept.mk (HB.out.trans (BZ.out.mono HB.out.size))
        have kb1 := CG2.out.2 1 _ rfl
        clear hpl
        have fin : (¬ q + k < N ∨ n.toNat = k) → isEns (chunkA A (q : Int) n) u7 wr := fun h => by
          rw [HT.out, show (A.slots.drop (q : Int).toNat).take n.toNat = ps.map (·.1) from ?_]
          · exact OV.out.ens
          · rw [HPS.out, show (q : Int).toNat = q from rfl]
            rcases h with h | h
            · have hl : (A.slots.drop q).length ≤ k := by rw [List.length_drop, HN.out]; omega
              rw [List.take_of_length_le hl]
              exact List.take_of_length_le (by omega)
            · rw [h]
        have FIN := Kept.mk fin
        clear fin
        by_cases hlt : q + k < N
        · have hlt' : ((q + k : Nat) : Int) < (N : Int) := by omega
          by_cases hn : (k : Int) < n
          · have hn' : ((q + k : Nat) : Int) - (q : Int) < n := by omega
            obtain ⟨X, hX⟩ : ∃ X, A.slots[q + k]? = some X := ⟨_, List.getElem?_eq_getElem (by rw [HN.out]; exact hlt)⟩
            have HTK := Kept.mk (show (A.slots.drop q).take (k + 1) = (A.slots.drop q).take k ++ [X] by rw [List.take_add_one, List.getElem?_drop, hX]; rfl)
            obtain ⟨bs, os, cs', ea, hbs, xp, xm, hxc, hxp, hxm⟩ := HS.out.get hX
            injection ea with ea1 ea2 ea3
            clear ea2
            subst ea1 ea3
            have HXP := Kept.mk hxp
            have HXMM := Kept.mk hxm
            have kx0 : wr.cell? ⟨bs, os + (q + k) * 9, none⟩ = _ := (HB2.out.cell (p := ⟨bs, os + (q + k) * 9 + 0, none⟩) hbs).trans (hxc 0 _ rfl)
            have kx1 : wr.cell? ⟨bs, os + (q + k) * 9 + 1, none⟩ = _ := (HB2.out.cell (p := ⟨bs, os + (q + k) * 9 + 1, none⟩) hbs).trans (hxc 1 _ rfl)
            have kx2 : wr.cell? ⟨bs, os + (q + k) * 9 + 2, none⟩ = _ := (HB2.out.cell (p := ⟨bs, os + (q + k) * 9 + 2, none⟩) hbs).trans (hxc 2 _ rfl)
            have kx3 : wr.cell? ⟨bs, os + (q + k) * 9 + 3, none⟩ = _ := (HB2.out.cell (p := ⟨bs, os + (q + k) * 9 + 3, none⟩) hbs).trans (hxc 3 _ rfl)
            have kx4 : wr.cell? ⟨bs, os + (q + k) * 9 + 4, none⟩ = _ := (HB2.out.cell (p := ⟨bs, os + (q + k) * 9 + 4, none⟩) hbs).trans (hxc 4 _ rfl)
            have kx5 : wr.cell? ⟨bs, os + (q + k) * 9 + 5, none⟩ = _ := (HB2.out.cell (p := ⟨bs, os + (q + k) * 9 + 5, none⟩) hbs).trans (hxc 5 _ rfl)
            have kx6 : wr.cell? ⟨bs, os + (q + k) * 9 + 6, none⟩ = _ := (HB2.out.cell (p := ⟨bs, os + (q + k) * 9 + 6, none⟩) hbs).trans (hxc 6 _ rfl)
            have kx7 : wr.cell? ⟨bs, os + (q + k) * 9 + 7, none⟩ = _ := (HB2.out.cell (p := ⟨bs, os + (q + k) * 9 + 7, none⟩) hbs).trans (hxc 7 _ rfl)
            have kx8 : wr.cell? ⟨bs, os + (q + k) * 9 + 8, none⟩ = _ := (HB2.out.cell (p := ⟨bs, os + (q + k) * 9 + 8, none⟩) hbs).trans (hxc 8 _ rfl)
            clear hxc hxp hxm hX
            have ROW := Kept.mk (show RowsOk [(X, xp, xm)] w from fun q hq => by rw [List.mem_singleton] at hq; subst hq; exact ⟨HXP.out, HXMM.out⟩)
            have hww := HB.out.size
            have HOF := Kept.mk (show ∀ q ∈ [(X, xp, xm)], ∀ b, u7.ownBlock = some b → OffQ b q from fun q hq b hbo => off_old ROW.out (by have := (OV.out.own.lt b hbo).1; omega) q hq)
            have OV1 := Kept.mk (OV.out.keep (lit_below wr (.cells #[.string ⟨X.key.toArray⟩, .int .i64 X.val.kind, .int .i64 X.val.time, .int .i64 X.val.node, .bool X.val.dead, .string ⟨X.val.text.toArray⟩, xp, xm, .int .u64 (X.val.flags.toNat : Int)] 42)))
            have BZ1 := Kept.mk (BZ.out.trans ((lit_below wr (.cells #[.string ⟨X.key.toArray⟩, .int .i64 X.val.kind, .int .i64 X.val.time, .int .i64 X.val.node, .bool X.val.dead, .string ⟨X.val.text.toArray⟩, xp, xm, .int .u64 (X.val.flags.toNat : Int)] 42)).mono BZ.out.size))
            have SRC := Kept.mk (src_oneE X xp xm wr)
            have HB3 := Kept.mk (HB.out.trans (BZ1.out.mono HB.out.size))
            have ROW1 := Kept.mk (show RowsOk [(X, xp, xm)] (wr.alloc (.cells #[.string ⟨X.key.toArray⟩, .int .i64 X.val.kind, .int .i64 X.val.time, .int .i64 X.val.node, .bool X.val.dead, .string ⟨X.val.text.toArray⟩, xp, xm, .int .u64 (X.val.flags.toNat : Int)] 42)) from fun q hq => ⟨stable_cells _ _ _ _ (ROW.out q hq).1 HB3.out, stable_cells _ _ _ _ (ROW.out q hq).2 HB3.out⟩)
            have hpk : ps.length + [(X, xp, xm)].length ≤ 1000 := by have := HPL.out; simp; omega
            have HPK := Kept.mk hpk
            clear hpk
            go_wp2_with (at_builtin; refine wpList_append_ens rfl (.tmp 31) (.tmp 37) rfl W1.heap.size u7 ps rfl OV1.out _ [(X, xp, xm)] rfl SRC.out ROW1.out HOF.out HPK.out BZ1.out.size ?_; intro v2 W2 ho2 hg2; have OV2 := Kept.mk ho2; have BZ2 := Kept.mk (grown_below OV1.out hg2 BZ1.out (Nat.le_refl _)); clear ho2 hg2 kx0 kx1 kx2 kx3 kx4 kx5 kx6 kx7 kx8)
            go_roundw
            case rel => exact ⟨k + 1, ps ++ [(X, xp, xm)], .inr (by omega), by go_num, OV2, ⟨by rw [List.map_append, HPS.out, HTK.out]; rfl⟩, by omega, by rw [List.length_append, HPL.out]; rfl, BZ2⟩
            case measure => simp [intOf]; omega
          · have hn' : ¬ ((q + k : Nat) : Int) - (q : Int) < n := by omega
            have HEN := Kept.mk (FIN.out (.inr (by omega)))
            go_wp2
            go_ret
            exact ⟨_, rfl, HEN.out, HB2.out⟩
        · have hlt' : ¬ ((q + k : Nat) : Int) < (N : Int) := by omega
          have HEN := Kept.mk (FIN.out (.inl hlt))
          go_wp2
          go_ret
          exact ⟨_, rfl, HEN.out, HB2.out⟩
end Go.Proofs.YtmbnhlhanckkiaaGreat
end
section
namespace Go.Proofs.YtmbnhlhanckkiaaGreat
open Go.RowKit
set_option linter.unusedVariables false
set_option linter.unusedSimpArgs false

/-- The sum of what f tells of the first n places. -/
def sumTo (f : Nat → Int) : Nat → Int
  | 0 => 0
  | n + 1 => sumTo f n + f n
/-- What one of two has: the numbers of those places that are its own. -/
def half (own : Bool) (m : Nat → Bool) (f : Nat → Int) : Nat → Int := fun j => if m j = own then f j else 0
def cntV (f g : Nat → Int) : Va := ⟨2, 0, 0, false, [], (List.range 8).map f, (List.range 8).map g, 0⟩
end Go.Proofs.YtmbnhlhanckkiaaGreat
end
section
namespace Go.Proofs.YtmbnhlhanckkiaaGreat
open Go.RowKit
set_option linter.unusedVariables false
set_option linter.unusedSimpArgs false
attribute [local irreducible] setN

set_option maxRecDepth 20000 in
set_option maxHeartbeats 2000000 in
theorem rbelow_no (A B : Va) (v u : Value) (w : World) (hv : isVa A v w) (hu : isVa B u w) (hA : Fit A) (hC : Fit B) (he : (joinE A B == 0) = false) :
    Calls Tryz.prog 61 #[v, u] w fun e w' => e = .returned (.bool (belowB A B)) ∧ Below w.heap.size w w' := by
  have hv0 := hv
  have hu0 := hu
  obtain ⟨pa, ma, rfl, hpa, hma⟩ := hv
  obtain ⟨pb, mb, rfl, hpb, hmb⟩ := hu
  obtain ⟨hB, Va⟩ := vbox w A pa ma hpa hma (w.heap.size) (by simp)
  obtain ⟨hBn, Vb⟩ := vbox (w.alloc (.cells #[.int .i64 A.kind, .int .i64 A.time, .int .i64 A.node, .bool A.dead, .string ⟨A.text.toArray⟩, pa, ma, .int .u64 (A.flags.toNat : Int)] 40)) B pb mb (stable_cells _ _ _ _ hpb hB.out) (stable_cells _ _ _ _ hmb hB.out) (w.heap.size + 1) (by simp)
  replace Va := Kept.mk (Va.out.keep hBn.out)
  replace hB := Kept.mk (hB.out.trans (hBn.out.mono hB.out.size))
  clear hBn
  clear hpa hma hpb hmb
  have HS := Kept.mk (show belowB A B = ((joinE A B == 0) && decide (B = joinF A B)) by unfold belowB; rw [show decide (B = joinF A B) = decide (joinF A B = B) by rw [decide_eq_decide]; exact ⟨Eq.symm, Eq.symm⟩]; cases h : (joinE A B == 0) <;> simp at h <;> simp [h])
  rw [he] at HS
  have HA := Kept.mk (va_grow hv0 hB.out)
  have HU := Kept.mk (va_grow hu0 hB.out)
  clear hv0 hu0
  go_enter Tryz.func61, Tryz.ntmps61
  go_wp2_with fail
  generalize (w.alloc (.cells #[.int .i64 A.kind, .int .i64 A.time, .int .i64 A.node, .bool A.dead, .string ⟨A.text.toArray⟩, pa, ma, .int .u64 (A.flags.toNat : Int)] 40)).alloc (.cells #[.int .i64 B.kind, .int .i64 B.time, .int .i64 B.node, .bool B.dead, .string ⟨B.text.toArray⟩, pb, mb, .int .u64 (B.flags.toNat : Int)] 40) = W0 at *
  ((with_reducible refine (rjoin_any A B _ _ _ HA.out HU.out hA hC).mono ?_); rintro e U ⟨v', rfl, ⟨p', m', rfl, hp', hm'⟩, hb1⟩)
  obtain ⟨K1, K2, K3, K4, K5⟩ := vnew U (joinF A B) p' m' hp' hm' U.heap.size rfl
  clear hp' hm'
  replace hB := Kept.mk (hB.out.trans ((hb1).mono hB.out.size))
  replace Va := Kept.mk (Va.out.keep (hb1))
  replace Vb := Kept.mk (Vb.out.keep (hb1))
  clear hb1
  go_wp2_with (have hz0 := K1; refine wpList_storeN 40 rfl (.tmp 5) (.tmp 11) rfl U.heap.size [.int .i64 (joinF A B).kind, .int .i64 (joinF A B).time, .int .i64 (joinF A B).node, .bool (joinF A B).dead, .string ⟨(joinF A B).text.toArray⟩, p', m', .int .u64 ((joinF A B).flags.toNat : Int)] size_va rfl rfl K1.out rfl K2.out K5.out ?_; replace hB := Kept.mk (hB.out.trans ((K3.out).mono hB.out.size)); replace Va := Kept.mk (Va.out.keep (K3.out)); replace Vb := Kept.mk (Vb.out.keep (K3.out)); have Vj := Kept.mk K4.out.var; clear hz0 K1 K2 K3 K4 K5; generalize setN (U.alloc (.cells #[.int .i64 0, .int .i64 0, .int .i64 0, .bool false, .string ⟨#[]⟩, .slice none 0 0, .slice none 0 0, .int .u64 0] 40)) U.heap.size 0 [.int .i64 (joinF A B).kind, .int .i64 (joinF A B).time, .int .i64 (joinF A B).node, .bool (joinF A B).dead, .string ⟨(joinF A B).text.toArray⟩, p', m', .int .u64 ((joinF A B).flags.toNat : Int)] = W1 at *; generalize U.heap.size = gj at *)
  go_ret
  exact ⟨by rw [HS.out]; rfl, hB.out⟩
set_option maxRecDepth 20000 in
set_option maxHeartbeats 2000000 in
theorem rbelow_yes (A B : Va) (v u : Value) (w : World) (hv : isVa A v w) (hu : isVa B u w) (hA : Fit A) (hC : Fit B) (he : (joinE A B == 0) = true) :
    Calls Tryz.prog 61 #[v, u] w fun e w' => e = .returned (.bool (belowB A B)) ∧ Below w.heap.size w w' := by
  have hv0 := hv
  have hu0 := hu
  obtain ⟨pa, ma, rfl, hpa, hma⟩ := hv
  obtain ⟨pb, mb, rfl, hpb, hmb⟩ := hu
  obtain ⟨hB, Va⟩ := vbox w A pa ma hpa hma (w.heap.size) (by simp)
  obtain ⟨hBn, Vb⟩ := vbox (w.alloc (.cells #[.int .i64 A.kind, .int .i64 A.time, .int .i64 A.node, .bool A.dead, .string ⟨A.text.toArray⟩, pa, ma, .int .u64 (A.flags.toNat : Int)] 40)) B pb mb (stable_cells _ _ _ _ hpb hB.out) (stable_cells _ _ _ _ hmb hB.out) (w.heap.size + 1) (by simp)
  replace Va := Kept.mk (Va.out.keep hBn.out)
  replace hB := Kept.mk (hB.out.trans (hBn.out.mono hB.out.size))
  clear hBn
  clear hpa hma hpb hmb
  have HS := Kept.mk (show belowB A B = ((joinE A B == 0) && decide (B = joinF A B)) by unfold belowB; rw [show decide (B = joinF A B) = decide (joinF A B = B) by rw [decide_eq_decide]; exact ⟨Eq.symm, Eq.symm⟩]; cases h : (joinE A B == 0) <;> simp at h <;> simp [h])
  rw [he] at HS
  have HA := Kept.mk (va_grow hv0 hB.out)
  have HU := Kept.mk (va_grow hu0 hB.out)
  clear hv0 hu0
  go_enter Tryz.func61, Tryz.ntmps61
  go_wp2_with fail
  generalize (w.alloc (.cells #[.int .i64 A.kind, .int .i64 A.time, .int .i64 A.node, .bool A.dead, .string ⟨A.text.toArray⟩, pa, ma, .int .u64 (A.flags.toNat : Int)] 40)).alloc (.cells #[.int .i64 B.kind, .int .i64 B.time, .int .i64 B.node, .bool B.dead, .string ⟨B.text.toArray⟩, pb, mb, .int .u64 (B.flags.toNat : Int)] 40) = W0 at *
  ((with_reducible refine (rjoin_any A B _ _ _ HA.out HU.out hA hC).mono ?_); rintro e U ⟨v', rfl, ⟨p', m', rfl, hp', hm'⟩, hb1⟩)
  obtain ⟨K1, K2, K3, K4, K5⟩ := vnew U (joinF A B) p' m' hp' hm' U.heap.size rfl
  clear hp' hm'
  replace hB := Kept.mk (hB.out.trans ((hb1).mono hB.out.size))
  replace Va := Kept.mk (Va.out.keep (hb1))
  replace Vb := Kept.mk (Vb.out.keep (hb1))
  clear hb1
  go_wp2_with (have hz0 := K1; refine wpList_storeN 40 rfl (.tmp 5) (.tmp 11) rfl U.heap.size [.int .i64 (joinF A B).kind, .int .i64 (joinF A B).time, .int .i64 (joinF A B).node, .bool (joinF A B).dead, .string ⟨(joinF A B).text.toArray⟩, p', m', .int .u64 ((joinF A B).flags.toNat : Int)] size_va rfl rfl K1.out rfl K2.out K5.out ?_; replace hB := Kept.mk (hB.out.trans ((K3.out).mono hB.out.size)); replace Va := Kept.mk (Va.out.keep (K3.out)); replace Vb := Kept.mk (Vb.out.keep (K3.out)); have Vj := Kept.mk K4.out.var; clear hz0 K1 K2 K3 K4 K5; generalize setN (U.alloc (.cells #[.int .i64 0, .int .i64 0, .int .i64 0, .bool false, .string ⟨#[]⟩, .slice none 0 0, .slice none 0 0, .int .u64 0] 40)) U.heap.size 0 [.int .i64 (joinF A B).kind, .int .i64 (joinF A B).time, .int .i64 (joinF A B).node, .bool (joinF A B).dead, .string ⟨(joinF A B).text.toArray⟩, p', m', .int .u64 ((joinF A B).flags.toNat : Int)] = W1 at *; generalize U.heap.size = gj at *; obtain ⟨qj, rj, xj, -, -, kj0, kj1, kj2, kj3, kj4, kj5, kj6, kj7⟩ := Vj.out.open_; have Xj := Kept.mk xj; clear xj; obtain ⟨qb, rb, xb, -, -, kb0, kb1, kb2, kb3, kb4, kb5, kb6, kb7⟩ := Vb.out.open_; have Xb := Kept.mk xb; clear xb)
  ((with_reducible refine (rsame_any B (joinF A B) _ _ _ Xb.out Xj.out hC (fit_join hA hC)).mono ?_); rintro e W2 ⟨rfl, hb1⟩)
  clear Xj kj0 kj1 kj2 kj3 kj4 kj5 kj6 kj7
  clear Xb kb0 kb1 kb2 kb3 kb4 kb5 kb6 kb7
  replace hB := Kept.mk (hB.out.trans ((hb1).mono hB.out.size))
  replace Va := Kept.mk (Va.out.keep (hb1))
  replace Vb := Kept.mk (Vb.out.keep (hb1))
  replace Vj := Kept.mk (Vj.out.keep (hb1))
  clear hb1
  obtain ⟨z, hz⟩ : ∃ z, z = decide (B = joinF A B) := ⟨_, rfl⟩
  rw [← hz] at HS ⊢
  clear hz
  go_wp2
  go_ret
  exact ⟨by rw [HS.out]; rfl, hB.out⟩
theorem rbelow_any (A B : Va) (v u : Value) (w : World) (hv : isVa A v w) (hu : isVa B u w) (hA : Fit A) (hC : Fit B) :
    Calls Tryz.prog 61 #[v, u] w fun e w' => e = .returned (.bool (belowB A B)) ∧ Below w.heap.size w w' := by
  cases h : (joinE A B == 0) with
  | false => exact rbelow_no A B v u w hv hu hA hC h
  | true => exact rbelow_yes A B v u w hv hu hA hC h
end Go.Proofs.YtmbnhlhanckkiaaGreat
end
section
namespace Go.Proofs.YtmbnhlhanckkiaaGreat
open Go.RowKit
set_option linter.unusedVariables false
set_option linter.unusedSimpArgs false
attribute [local irreducible] setN

theorem fs_en_0 (g o : Nat) (w : World) : (Instr.fieldAt 42 (.pointer (some ⟨g, o, none⟩)) 0).run Tryz.prog w = .ok (.pointer (some ⟨g, o, none⟩)) w := by simp [Instr.fieldAt, run_underlying Tryz.underlying42, Instr.sureAddr, fieldPlace, Addr.add]
theorem fs_en_1 (g o : Nat) (w : World) : (Instr.fieldAt 42 (.pointer (some ⟨g, o, none⟩)) 1).run Tryz.prog w = .ok (.pointer (some ⟨g, o + 1, none⟩)) w := by simp [Instr.fieldAt, run_underlying Tryz.underlying42, Instr.sureAddr, fieldPlace, Addr.add]
theorem fs_va_0 (g o : Nat) (w : World) : (Instr.fieldAt 40 (.pointer (some ⟨g, o, none⟩)) 0).run Tryz.prog w = .ok (.pointer (some ⟨g, o, none⟩)) w := by simp [Instr.fieldAt, run_underlying Tryz.underlying40, Instr.sureAddr, fieldPlace, Addr.add]
theorem rfind_val (C : Ar) (X : En) (p : Int) (v : Value) (w : World) (hv : isAr C v w) (hF : FitA C) (hp : findI C X = p) : Calls Tryz.prog 15 #[v, .int .i64 X.val.kind, .string ⟨X.key.toArray⟩] w fun e w' => ∃ x, e = .returned x ∧ isVal (.int .i64 p) x w' ∧ Below w.heap.size w w' :=
  (rfind_any C X.val.kind X.key v w hv hF).mono (by rintro e w' ⟨rfl, h⟩; exact ⟨_, rfl, by rw [find_nameE, hp]; rfl, h⟩)
theorem rbelow_val (A B : Va) (z : Bool) (v u : Value) (w : World) (hv : isVa A v w) (hu : isVa B u w) (hA : Fit A) (hB : Fit B) (hz : belowB A B = z) : Calls Tryz.prog 61 #[v, u] w fun e w' => ∃ x, e = .returned x ∧ isVal (.bool z) x w' ∧ Below w.heap.size w w' :=
  (rbelow_any A B v u w hv hu hA hB).mono (by rintro e w' ⟨rfl, h⟩; exact ⟨_, rfl, by rw [hz]; rfl, h⟩)
theorem below_val {X Y : En} (hX : okE X = true) (hY : okE Y = true) (hn : nameB X Y = true) : belowE X Y = belowB X.val Y.val := by
  have h0 : joinEE X Y = 0 := by unfold joinEE; rw [hX, hY, hn]; rfl
  have h1 := (joinE_val h0).1
  unfold belowE belowB
  rw [joinEF_some h0, decide_eq_true h1, Bool.true_and]
  have hk := (name_iff.1 hn).2
  obtain ⟨yk, yv⟩ := Y
  simp only at hk ⊢
  rw [Bool.eq_iff_iff, decide_eq_true_eq, decide_eq_true_eq, En.mk.injEq]
  exact ⟨fun h => h.2, fun h => ⟨hk, h⟩⟩
theorem find_at {C : Ar} (h : OkA C) {X : En} (hp : findI C X ≠ -1) : ∃ (q : Nat) (Y : En), findI C X = (q : Int) ∧ q < C.slots.length ∧ C.slots[q]? = some Y ∧ nameB X Y = true ∧ inB C X = belowE X Y := by
  cases hh : hitB (ordA C) X with
  | false => exact absurd (find_no h hh) hp
  | true =>
    obtain ⟨p1, _, _, p4⟩ := place_spec h hh
    have e := find_hit h hh
    have hs := slotAt_nat C.slots (placeI C X) p1
    refine ⟨(placeI C X).toNat, _, by rw [e]; omega, by omega, hs, name_symm p4, ?_⟩
    unfold inB
    rw [if_neg hp, e]
noncomputable def rbl6Ops : Array Oper := regionOf Tryz.f22 6
set_option maxRecDepth 100000 in
set_option maxHeartbeats 2000000 in
theorem rbl6_region (Q : Exit → Act → World → Prop) (a0 : Act) (w0 : World) (hsz : a0.tmps.size = 55) (g h k n bs os cs : Nat) (za p : Int) (va vt rt : Value) (C : Ar) (X : En) (e2 : a0.tmps.getD 2 undef = .pointer (some ⟨g, 0, none⟩)) (e3 : a0.tmps.getD 3 undef = .pointer (some ⟨h, 0, none⟩)) (e5 : a0.tmps.getD 5 undef = .int .i64 (k : Int)) (HG : CellsN w0 g [.int .i64 za, .slice (some ⟨bs, os, none⟩) n cs, va]) (HH : CellsN w0 h [.int .i64 C.cap, vt, rt]) (XC : isAr C (.agg #[.int .i64 C.cap, vt, rt]) w0) (fC : FitA C) (hk : k < n) (hbs : bs < w0.heap.size) (hx0 : w0.cell? ⟨bs, os + k * 9, none⟩ = some (.string ⟨X.key.toArray⟩)) (hx1 : w0.cell? ⟨bs, os + k * 9 + 1, none⟩ = some (.int .i64 X.val.kind)) (hp : findI C X = p)
    (hQ : ∀ (g : Nat → Value) (w : World), g 6 = .int .i64 p → Below w0.heap.size w0 w → Q .normal { tmps := [22, 23, 24, 25, 26, 27, 28, 29, 30, 31, 32, 33, 34, 35, 36, 6].foldl (fun t s => t.setIfInBounds s (g s)) a0.tmps, defers := a0.defers } w) :
    (Code.region 6 rbl6Ops true).wp Tryz.prog Q a0 w0 := by
  refine wp_region_flow mixed (by rw [hsz]; kernel_rfl) ?_
  rw [show rbl6Ops.size = 16 by kernel_rfl]
  refine ⟨isVal (.agg #[.int .i64 C.cap, vt, rt]), step_loadA 25 (.tmp 3) (h) (0) [.int .i64 C.cap, vt, rt] (by kernel_rfl) (wanted_none (by kernel_rfl)) (knows_old 3 (.pointer (some ⟨h, 0, none⟩)) (by kernel_rfl) e3) size_ar agg_ar (⟨HH.1, fun jj x hx => by rw [Nat.zero_add]; exact HH.2 jj x hx⟩), ?_⟩
  refine ⟨isVal (.pointer (some ⟨g, 1, none⟩)), step_field 25 (.tmp 2) 1 ⟨g, 0, none⟩ ⟨g, 1, none⟩ (by kernel_rfl) (wanted_none (by kernel_rfl)) (knows_old 2 (.pointer (some ⟨g, 0, none⟩)) (by kernel_rfl) e2) (f_ar_0_1 (g)), ?_⟩
  refine ⟨isVal (.slice (some ⟨bs, os, none⟩) n cs), step_read 22 (.tmp 23) ⟨g, 1, none⟩ (.slice (some ⟨bs, os, none⟩) n cs) (by kernel_rfl) (wanted_none (by kernel_rfl)) (knows_new (V := isVal (.pointer (some ⟨g, 1, none⟩))) 23 1 (by kernel_rfl) (by kernel_rfl) (by kernel_rfl)) (HG.2 1 _ rfl) (HG.1) (agg_noS), ?_⟩
  refine ⟨isVal (.int .i64 (k : Int)), step_move (.tmp 5) (by kernel_rfl) (wanted_none (by kernel_rfl)) (stable_val _) (knows_old 5 (.int .i64 (k : Int)) (by kernel_rfl) e5), ?_⟩
  refine ⟨isVal (.pointer (some ⟨bs, os + k * 9, none⟩)), step_placeE 22 42 (.tmp 24) (.tmp 25) bs (os) (n) (cs) (k) (os + k * 9) (by kernel_rfl) (wanted_none (by kernel_rfl)) (knows_new (V := isVal (.slice (some ⟨bs, os, none⟩) n cs)) 24 2 (by kernel_rfl) (by kernel_rfl) (by kernel_rfl)) (knows_new (V := isVal (.int .i64 (k : Int))) 25 3 (by kernel_rfl) (by kernel_rfl) (by kernel_rfl)) Tryz.underlying22 (by kernel_rfl) (⟨hk, rfl⟩), ?_⟩
  refine ⟨isVal (.pointer (some ⟨bs, os + k * 9 + 1, none⟩)), step_field 42 (.tmp 26) 1 ⟨bs, os + k * 9, none⟩ ⟨bs, os + k * 9 + 1, none⟩ (by kernel_rfl) (wanted_none (by kernel_rfl)) (knows_new (V := isVal (.pointer (some ⟨bs, os + k * 9, none⟩))) 26 4 (by kernel_rfl) (by kernel_rfl) (by kernel_rfl)) (fs_en_1 (bs) (os + k * 9)), ?_⟩
  refine ⟨isVal (.pointer (some ⟨bs, os + k * 9 + 1, none⟩)), step_field 40 (.tmp 27) 0 ⟨bs, os + k * 9 + 1, none⟩ ⟨bs, os + k * 9 + 1, none⟩ (by kernel_rfl) (wanted_none (by kernel_rfl)) (knows_new (V := isVal (.pointer (some ⟨bs, os + k * 9 + 1, none⟩))) 27 5 (by kernel_rfl) (by kernel_rfl) (by kernel_rfl)) (fs_va_0 (bs) (os + k * 9 + 1)), ?_⟩
  refine ⟨isVal (.int .i64 X.val.kind), step_read 3 (.tmp 28) ⟨bs, os + k * 9 + 1, none⟩ (.int .i64 X.val.kind) (by kernel_rfl) (wanted_none (by kernel_rfl)) (knows_new (V := isVal (.pointer (some ⟨bs, os + k * 9 + 1, none⟩))) 28 6 (by kernel_rfl) (by kernel_rfl) (by kernel_rfl)) (hx1) (hbs) (agg_noZ), ?_⟩
  refine ⟨isVal (.pointer (some ⟨g, 1, none⟩)), step_field 25 (.tmp 2) 1 ⟨g, 0, none⟩ ⟨g, 1, none⟩ (by kernel_rfl) (wanted_none (by kernel_rfl)) (knows_old 2 (.pointer (some ⟨g, 0, none⟩)) (by kernel_rfl) e2) (f_ar_0_1 (g)), ?_⟩
  refine ⟨isVal (.slice (some ⟨bs, os, none⟩) n cs), step_read 22 (.tmp 30) ⟨g, 1, none⟩ (.slice (some ⟨bs, os, none⟩) n cs) (by kernel_rfl) (wanted_none (by kernel_rfl)) (knows_new (V := isVal (.pointer (some ⟨g, 1, none⟩))) 30 8 (by kernel_rfl) (by kernel_rfl) (by kernel_rfl)) (HG.2 1 _ rfl) (HG.1) (agg_noS), ?_⟩
  refine ⟨isVal (.int .i64 (k : Int)), step_move (.tmp 5) (by kernel_rfl) (wanted_none (by kernel_rfl)) (stable_val _) (knows_old 5 (.int .i64 (k : Int)) (by kernel_rfl) e5), ?_⟩
  refine ⟨isVal (.pointer (some ⟨bs, os + k * 9, none⟩)), step_placeE 22 42 (.tmp 31) (.tmp 32) bs (os) (n) (cs) (k) (os + k * 9) (by kernel_rfl) (wanted_none (by kernel_rfl)) (knows_new (V := isVal (.slice (some ⟨bs, os, none⟩) n cs)) 31 9 (by kernel_rfl) (by kernel_rfl) (by kernel_rfl)) (knows_new (V := isVal (.int .i64 (k : Int))) 32 10 (by kernel_rfl) (by kernel_rfl) (by kernel_rfl)) Tryz.underlying22 (by kernel_rfl) (⟨hk, rfl⟩), ?_⟩
  refine ⟨isVal (.pointer (some ⟨bs, os + k * 9, none⟩)), step_field 42 (.tmp 33) 0 ⟨bs, os + k * 9, none⟩ ⟨bs, os + k * 9, none⟩ (by kernel_rfl) (wanted_none (by kernel_rfl)) (knows_new (V := isVal (.pointer (some ⟨bs, os + k * 9, none⟩))) 33 11 (by kernel_rfl) (by kernel_rfl) (by kernel_rfl)) (fs_en_0 (bs) (os + k * 9)), ?_⟩
  refine ⟨isVal (.string ⟨X.key.toArray⟩), step_read 9 (.tmp 34) ⟨bs, os + k * 9, none⟩ (.string ⟨X.key.toArray⟩) (by kernel_rfl) (wanted_none (by kernel_rfl)) (knows_new (V := isVal (.pointer (some ⟨bs, os + k * 9, none⟩))) 34 12 (by kernel_rfl) (by kernel_rfl) (by kernel_rfl)) (hx0) (hbs) (agg_noT), ?_⟩
  refine ⟨isVal (.int .i64 p), step_call 15 #[.tmp 22, .tmp 29, .tmp 35] #[25, 3, 9] #[.agg #[.int .i64 C.cap, vt, rt], .int .i64 X.val.kind, .string ⟨X.key.toArray⟩] (by kernel_rfl) (wanted_none (by kernel_rfl)) (stable_val _) (args3 (.tmp 22) (.tmp 29) (.tmp 35) (.agg #[.int .i64 C.cap, vt, rt]) (.int .i64 X.val.kind) (.string ⟨X.key.toArray⟩) (knows_new (V := isVal (.agg #[.int .i64 C.cap, vt, rt])) 22 0 (by kernel_rfl) (by kernel_rfl) (by kernel_rfl)) (knows_new (V := isVal (.int .i64 X.val.kind)) 29 7 (by kernel_rfl) (by kernel_rfl) (by kernel_rfl)) (knows_new (V := isVal (.string ⟨X.key.toArray⟩)) 35 13 (by kernel_rfl) (by kernel_rfl) (by kernel_rfl))) (enters_of Tryz.func15 (by kernel_rfl) rfl) (by intro w' hb; exact rfind_val C X p _ w' (stable_ar C _ _ _ XC hb) fC hp), ?_⟩
  refine ⟨isVal (.int .i64 p), step_assign (.tmp 36) (by kernel_rfl) (wanted_none (by kernel_rfl)) (stable_val _) (knows_new (V := isVal (.int .i64 p)) 36 14 (by kernel_rfl) (by kernel_rfl) (by kernel_rfl)), ?_⟩
  intro a w hkp hb hd
  rw [kept_of hkp [some 22, some 23, some 24, some 25, some 26, some 27, some 28, some 29, some 30, some 31, some 32, some 33, some 34, some 35, some 36, some 6] [22, 23, 24, 25, 26, 27, 28, 29, 30, 31, 32, 33, 34, 35, 36, 6] (by kernel_rfl) (by decide)]
  have d6 := fdone_of (hd 15 (by rw [show rbl6Ops.size = 16 by kernel_rfl]; decide)) (t := 6) (V := isVal (.int .i64 p)) (by kernel_rfl) (by kernel_rfl)
  exact hQ (fun s => a.tmps.getD s undef) w d6 hb
noncomputable def rbl7Ops : Array Oper := regionOf Tryz.f22 7
set_option maxRecDepth 100000 in
set_option maxHeartbeats 2000000 in
theorem rbl7_region (Q : Exit → Act → World → Prop) (a0 : Act) (w0 : World) (hsz : a0.tmps.size = 55) (g h k r n m bs os cs bt ot ct : Nat) (za zc : Int) (va rt xp xm yp ym : Value) (X Y : En) (z : Bool) (e2 : a0.tmps.getD 2 undef = .pointer (some ⟨g, 0, none⟩)) (e3 : a0.tmps.getD 3 undef = .pointer (some ⟨h, 0, none⟩)) (e5 : a0.tmps.getD 5 undef = .int .i64 (k : Int)) (e6 : a0.tmps.getD 6 undef = .int .i64 (r : Int)) (HG : CellsN w0 g [.int .i64 za, .slice (some ⟨bs, os, none⟩) n cs, va]) (HH : CellsN w0 h [.int .i64 zc, .slice (some ⟨bt, ot, none⟩) m ct, rt]) (hk : k < n) (hr : r < m) (hbs : bs < w0.heap.size) (hbt : bt < w0.heap.size) (hxv : ∀ (j : Nat) (x : Value), [.int .i64 X.val.kind, .int .i64 X.val.time, .int .i64 X.val.node, .bool X.val.dead, .string ⟨X.val.text.toArray⟩, xp, xm, .int .u64 (X.val.flags.toNat : Int)][j]? = some x → w0.cell? ⟨bs, os + k * 9 + 1 + j, none⟩ = some x) (hyv : ∀ (j : Nat) (x : Value), [.int .i64 Y.val.kind, .int .i64 Y.val.time, .int .i64 Y.val.node, .bool Y.val.dead, .string ⟨Y.val.text.toArray⟩, yp, ym, .int .u64 (Y.val.flags.toNat : Int)][j]? = some x → w0.cell? ⟨bt, ot + r * 9 + 1 + j, none⟩ = some x) (hxp : isCells (X.val.plus.map intC) xp w0) (hxm : isCells (X.val.minus.map intC) xm w0) (hyp : isCells (Y.val.plus.map intC) yp w0) (hym : isCells (Y.val.minus.map intC) ym w0) (fX : Fit X.val) (fY : Fit Y.val) (hz : belowB X.val Y.val = z)
    (hQ : ∀ (g : Nat → Value) (w : World), g 54 = .bool !z → Below w0.heap.size w0 w → Q .normal { tmps := [37, 38, 39, 40, 41, 42, 43, 44, 45, 46, 47, 48, 49, 50, 51, 52, 53, 54].foldl (fun t s => t.setIfInBounds s (g s)) a0.tmps, defers := a0.defers } w) :
    (Code.region 7 rbl7Ops true).wp Tryz.prog Q a0 w0 := by
  refine wp_region_flow mixed (by rw [hsz]; kernel_rfl) ?_
  rw [show rbl7Ops.size = 18 by kernel_rfl]
  refine ⟨isVal (.int .i64 (r : Int)), step_move (.tmp 6) (by kernel_rfl) (wanted_none (by kernel_rfl)) (stable_val _) (knows_old 6 (.int .i64 (r : Int)) (by kernel_rfl) e6), ?_⟩
  refine ⟨isVal (.bool false), step_bin .lss 3 3 (.tmp 37) (.const (.int .i64 0)) (.int .i64 (r : Int)) (.int .i64 0) (.bool false) (by kernel_rfl) (wanted_none (by kernel_rfl)) (knows_new (V := isVal (.int .i64 (r : Int))) 37 0 (by kernel_rfl) (by kernel_rfl) (by kernel_rfl)) (knows_const _) (fun _ => rfl) (lss_int _ _ _ _ _ (by simp)), ?_⟩
  refine ⟨isVal (.bool false), step_move (.tmp 38) (by kernel_rfl) (wanted_none (by kernel_rfl)) (stable_val _) (knows_new (V := isVal (.bool false)) 38 1 (by kernel_rfl) (by kernel_rfl) (by kernel_rfl)), ?_⟩
  refine ⟨isVal (.pointer (some ⟨g, 1, none⟩)), step_field 25 (.tmp 2) 1 ⟨g, 0, none⟩ ⟨g, 1, none⟩ (by kernel_rfl) (wanted_some 2 39 false (by kernel_rfl) (by kernel_rfl) (by kernel_rfl) (by kernel_rfl)) (knows_old 2 (.pointer (some ⟨g, 0, none⟩)) (by kernel_rfl) e2) (f_ar_0_1 (g)), ?_⟩
  refine ⟨isVal (.slice (some ⟨bs, os, none⟩) n cs), step_read 22 (.tmp 40) ⟨g, 1, none⟩ (.slice (some ⟨bs, os, none⟩) n cs) (by kernel_rfl) (wanted_some 2 39 false (by kernel_rfl) (by kernel_rfl) (by kernel_rfl) (by kernel_rfl)) (knows_new (V := isVal (.pointer (some ⟨g, 1, none⟩))) 40 3 (by kernel_rfl) (by kernel_rfl) (by kernel_rfl)) (HG.2 1 _ rfl) (HG.1) (agg_noS), ?_⟩
  refine ⟨isVal (.int .i64 (k : Int)), step_move (.tmp 5) (by kernel_rfl) (wanted_some 2 39 false (by kernel_rfl) (by kernel_rfl) (by kernel_rfl) (by kernel_rfl)) (stable_val _) (knows_old 5 (.int .i64 (k : Int)) (by kernel_rfl) e5), ?_⟩
  refine ⟨isVal (.pointer (some ⟨bs, os + k * 9, none⟩)), step_placeE 22 42 (.tmp 41) (.tmp 42) bs (os) (n) (cs) (k) (os + k * 9) (by kernel_rfl) (wanted_some 2 39 false (by kernel_rfl) (by kernel_rfl) (by kernel_rfl) (by kernel_rfl)) (knows_new (V := isVal (.slice (some ⟨bs, os, none⟩) n cs)) 41 4 (by kernel_rfl) (by kernel_rfl) (by kernel_rfl)) (knows_new (V := isVal (.int .i64 (k : Int))) 42 5 (by kernel_rfl) (by kernel_rfl) (by kernel_rfl)) Tryz.underlying22 (by kernel_rfl) (⟨hk, rfl⟩), ?_⟩
  refine ⟨isVal (.pointer (some ⟨bs, os + k * 9 + 1, none⟩)), step_field 42 (.tmp 43) 1 ⟨bs, os + k * 9, none⟩ ⟨bs, os + k * 9 + 1, none⟩ (by kernel_rfl) (wanted_some 2 39 false (by kernel_rfl) (by kernel_rfl) (by kernel_rfl) (by kernel_rfl)) (knows_new (V := isVal (.pointer (some ⟨bs, os + k * 9, none⟩))) 43 6 (by kernel_rfl) (by kernel_rfl) (by kernel_rfl)) (fs_en_1 (bs) (os + k * 9)), ?_⟩
  refine ⟨isVal (.agg #[.int .i64 X.val.kind, .int .i64 X.val.time, .int .i64 X.val.node, .bool X.val.dead, .string ⟨X.val.text.toArray⟩, xp, xm, .int .u64 (X.val.flags.toNat : Int)]), step_loadA 40 (.tmp 44) (bs) (os + k * 9 + 1) [.int .i64 X.val.kind, .int .i64 X.val.time, .int .i64 X.val.node, .bool X.val.dead, .string ⟨X.val.text.toArray⟩, xp, xm, .int .u64 (X.val.flags.toNat : Int)] (by kernel_rfl) (wanted_some 2 39 false (by kernel_rfl) (by kernel_rfl) (by kernel_rfl) (by kernel_rfl)) (knows_new (V := isVal (.pointer (some ⟨bs, os + k * 9 + 1, none⟩))) 44 7 (by kernel_rfl) (by kernel_rfl) (by kernel_rfl)) size_va agg_va (⟨hbs, hxv⟩), ?_⟩
  refine ⟨isVal (.pointer (some ⟨h, 1, none⟩)), step_field 25 (.tmp 3) 1 ⟨h, 0, none⟩ ⟨h, 1, none⟩ (by kernel_rfl) (wanted_some 2 39 false (by kernel_rfl) (by kernel_rfl) (by kernel_rfl) (by kernel_rfl)) (knows_old 3 (.pointer (some ⟨h, 0, none⟩)) (by kernel_rfl) e3) (f_ar_0_1 (h)), ?_⟩
  refine ⟨isVal (.slice (some ⟨bt, ot, none⟩) m ct), step_read 22 (.tmp 46) ⟨h, 1, none⟩ (.slice (some ⟨bt, ot, none⟩) m ct) (by kernel_rfl) (wanted_some 2 39 false (by kernel_rfl) (by kernel_rfl) (by kernel_rfl) (by kernel_rfl)) (knows_new (V := isVal (.pointer (some ⟨h, 1, none⟩))) 46 9 (by kernel_rfl) (by kernel_rfl) (by kernel_rfl)) (HH.2 1 _ rfl) (HH.1) (agg_noS), ?_⟩
  refine ⟨isVal (.int .i64 (r : Int)), step_move (.tmp 6) (by kernel_rfl) (wanted_some 2 39 false (by kernel_rfl) (by kernel_rfl) (by kernel_rfl) (by kernel_rfl)) (stable_val _) (knows_old 6 (.int .i64 (r : Int)) (by kernel_rfl) e6), ?_⟩
  refine ⟨isVal (.pointer (some ⟨bt, ot + r * 9, none⟩)), step_placeE 22 42 (.tmp 47) (.tmp 48) bt (ot) (m) (ct) (r) (ot + r * 9) (by kernel_rfl) (wanted_some 2 39 false (by kernel_rfl) (by kernel_rfl) (by kernel_rfl) (by kernel_rfl)) (knows_new (V := isVal (.slice (some ⟨bt, ot, none⟩) m ct)) 47 10 (by kernel_rfl) (by kernel_rfl) (by kernel_rfl)) (knows_new (V := isVal (.int .i64 (r : Int))) 48 11 (by kernel_rfl) (by kernel_rfl) (by kernel_rfl)) Tryz.underlying22 (by kernel_rfl) (⟨hr, rfl⟩), ?_⟩
  refine ⟨isVal (.pointer (some ⟨bt, ot + r * 9 + 1, none⟩)), step_field 42 (.tmp 49) 1 ⟨bt, ot + r * 9, none⟩ ⟨bt, ot + r * 9 + 1, none⟩ (by kernel_rfl) (wanted_some 2 39 false (by kernel_rfl) (by kernel_rfl) (by kernel_rfl) (by kernel_rfl)) (knows_new (V := isVal (.pointer (some ⟨bt, ot + r * 9, none⟩))) 49 12 (by kernel_rfl) (by kernel_rfl) (by kernel_rfl)) (fs_en_1 (bt) (ot + r * 9)), ?_⟩
  refine ⟨isVal (.agg #[.int .i64 Y.val.kind, .int .i64 Y.val.time, .int .i64 Y.val.node, .bool Y.val.dead, .string ⟨Y.val.text.toArray⟩, yp, ym, .int .u64 (Y.val.flags.toNat : Int)]), step_loadA 40 (.tmp 50) (bt) (ot + r * 9 + 1) [.int .i64 Y.val.kind, .int .i64 Y.val.time, .int .i64 Y.val.node, .bool Y.val.dead, .string ⟨Y.val.text.toArray⟩, yp, ym, .int .u64 (Y.val.flags.toNat : Int)] (by kernel_rfl) (wanted_some 2 39 false (by kernel_rfl) (by kernel_rfl) (by kernel_rfl) (by kernel_rfl)) (knows_new (V := isVal (.pointer (some ⟨bt, ot + r * 9 + 1, none⟩))) 50 13 (by kernel_rfl) (by kernel_rfl) (by kernel_rfl)) size_va agg_va (⟨hbt, hyv⟩), ?_⟩
  refine ⟨isVal (.bool z), step_call 61 #[.tmp 45, .tmp 51] #[40, 40] #[.agg #[.int .i64 X.val.kind, .int .i64 X.val.time, .int .i64 X.val.node, .bool X.val.dead, .string ⟨X.val.text.toArray⟩, xp, xm, .int .u64 (X.val.flags.toNat : Int)], .agg #[.int .i64 Y.val.kind, .int .i64 Y.val.time, .int .i64 Y.val.node, .bool Y.val.dead, .string ⟨Y.val.text.toArray⟩, yp, ym, .int .u64 (Y.val.flags.toNat : Int)]] (by kernel_rfl) (wanted_some 2 39 false (by kernel_rfl) (by kernel_rfl) (by kernel_rfl) (by kernel_rfl)) (stable_val _) (args2 (.tmp 45) (.tmp 51) (.agg #[.int .i64 X.val.kind, .int .i64 X.val.time, .int .i64 X.val.node, .bool X.val.dead, .string ⟨X.val.text.toArray⟩, xp, xm, .int .u64 (X.val.flags.toNat : Int)]) (.agg #[.int .i64 Y.val.kind, .int .i64 Y.val.time, .int .i64 Y.val.node, .bool Y.val.dead, .string ⟨Y.val.text.toArray⟩, yp, ym, .int .u64 (Y.val.flags.toNat : Int)]) (knows_new (V := isVal (.agg #[.int .i64 X.val.kind, .int .i64 X.val.time, .int .i64 X.val.node, .bool X.val.dead, .string ⟨X.val.text.toArray⟩, xp, xm, .int .u64 (X.val.flags.toNat : Int)])) 45 8 (by kernel_rfl) (by kernel_rfl) (by kernel_rfl)) (knows_new (V := isVal (.agg #[.int .i64 Y.val.kind, .int .i64 Y.val.time, .int .i64 Y.val.node, .bool Y.val.dead, .string ⟨Y.val.text.toArray⟩, yp, ym, .int .u64 (Y.val.flags.toNat : Int)])) 51 14 (by kernel_rfl) (by kernel_rfl) (by kernel_rfl))) (enters_of Tryz.func61 (by kernel_rfl) rfl) (by intro w' hb; exact rbelow_val X.val Y.val z _ _ w' (va_mk (stable_cells _ _ _ _ hxp hb) (stable_cells _ _ _ _ hxm hb)) (va_mk (stable_cells _ _ _ _ hyp hb) (stable_cells _ _ _ _ hym hb)) fX fY hz), ?_⟩
  refine ⟨isVal (.bool !z), step_un .not 4 (.tmp 52) (.bool z) (.bool !z) (by kernel_rfl) (wanted_some 2 39 false (by kernel_rfl) (by kernel_rfl) (by kernel_rfl) (by kernel_rfl)) (knows_new (V := isVal (.bool z)) 52 15 (by kernel_rfl) (by kernel_rfl) (by kernel_rfl)) (fun _ => rfl), ?_⟩
  refine ⟨isVal (.bool !z), step_pick (.tmp 39) (.const (.bool true)) (.tmp 53) false (by kernel_rfl) (wanted_none (by kernel_rfl)) (stable_val _) (knows_new (V := isVal (.bool false)) 39 2 (by kernel_rfl) (by kernel_rfl) (by kernel_rfl)) (knows_new (V := isVal (.bool !z)) 53 16 (by kernel_rfl) (by kernel_rfl) (by kernel_rfl)), ?_⟩
  intro a w hkp hb hd
  rw [kept_of hkp [some 37, some 38, some 39, some 40, some 41, some 42, some 43, some 44, some 45, some 46, some 47, some 48, some 49, some 50, some 51, some 52, some 53, some 54] [37, 38, 39, 40, 41, 42, 43, 44, 45, 46, 47, 48, 49, 50, 51, 52, 53, 54] (by kernel_rfl) (by decide)]
  have d54 := fdone_of (hd 17 (by rw [show rbl7Ops.size = 18 by kernel_rfl]; decide)) (t := 54) (V := isVal (.bool !z)) (by kernel_rfl) (by kernel_rfl)
  exact hQ (fun s => a.tmps.getD s undef) w d54 hb
noncomputable def rblnOps : Array Oper := regionOf Tryz.f22 7
set_option maxRecDepth 100000 in
set_option maxHeartbeats 2000000 in
theorem rbln_region (Q : Exit → Act → World → Prop) (a0 : Act) (w0 : World) (hsz : a0.tmps.size = 55) (g h k : Nat) (e2 : a0.tmps.getD 2 undef = .pointer (some ⟨g, 0, none⟩)) (e3 : a0.tmps.getD 3 undef = .pointer (some ⟨h, 0, none⟩)) (e5 : a0.tmps.getD 5 undef = .int .i64 (k : Int)) (e6 : a0.tmps.getD 6 undef = .int .i64 (-1))
    (hQ : ∀ (g : Nat → Value) (w : World), g 54 = .bool true → Below w0.heap.size w0 w → Q .normal { tmps := [37, 38, 39, 40, 41, 42, 43, 44, 45, 46, 47, 48, 49, 50, 51, 52, 53, 54].foldl (fun t s => t.setIfInBounds s (g s)) a0.tmps, defers := a0.defers } w) :
    (Code.region 7 rblnOps true).wp Tryz.prog Q a0 w0 := by
  refine wp_region_flow mixed (by rw [hsz]; kernel_rfl) ?_
  rw [show rblnOps.size = 18 by kernel_rfl]
  refine ⟨isVal (.int .i64 (-1)), step_move (.tmp 6) (by kernel_rfl) (wanted_none (by kernel_rfl)) (stable_val _) (knows_old 6 (.int .i64 (-1)) (by kernel_rfl) e6), ?_⟩
  refine ⟨isVal (.bool true), step_bin .lss 3 3 (.tmp 37) (.const (.int .i64 0)) (.int .i64 (-1)) (.int .i64 0) (.bool true) (by kernel_rfl) (wanted_none (by kernel_rfl)) (knows_new (V := isVal (.int .i64 (-1))) 37 0 (by kernel_rfl) (by kernel_rfl) (by kernel_rfl)) (knows_const _) (fun _ => rfl) (lss_int _ _ _ _ _ (by decide)), ?_⟩
  refine ⟨isVal (.bool true), step_move (.tmp 38) (by kernel_rfl) (wanted_none (by kernel_rfl)) (stable_val _) (knows_new (V := isVal (.bool true)) 38 1 (by kernel_rfl) (by kernel_rfl) (by kernel_rfl)), ?_⟩
  refine ⟨_, step_skip 2 39 false true (by kernel_rfl) (by kernel_rfl) (by kernel_rfl) (by kernel_rfl) rfl, ?_⟩
  refine ⟨_, step_skip 2 39 false true (by kernel_rfl) (by kernel_rfl) (by kernel_rfl) (by kernel_rfl) rfl, ?_⟩
  refine ⟨_, step_skip 2 39 false true (by kernel_rfl) (by kernel_rfl) (by kernel_rfl) (by kernel_rfl) rfl, ?_⟩
  refine ⟨_, step_skip 2 39 false true (by kernel_rfl) (by kernel_rfl) (by kernel_rfl) (by kernel_rfl) rfl, ?_⟩
  refine ⟨_, step_skip 2 39 false true (by kernel_rfl) (by kernel_rfl) (by kernel_rfl) (by kernel_rfl) rfl, ?_⟩
  refine ⟨_, step_skip 2 39 false true (by kernel_rfl) (by kernel_rfl) (by kernel_rfl) (by kernel_rfl) rfl, ?_⟩
  refine ⟨_, step_skip 2 39 false true (by kernel_rfl) (by kernel_rfl) (by kernel_rfl) (by kernel_rfl) rfl, ?_⟩
  refine ⟨_, step_skip 2 39 false true (by kernel_rfl) (by kernel_rfl) (by kernel_rfl) (by kernel_rfl) rfl, ?_⟩
  refine ⟨_, step_skip 2 39 false true (by kernel_rfl) (by kernel_rfl) (by kernel_rfl) (by kernel_rfl) rfl, ?_⟩
  refine ⟨_, step_skip 2 39 false true (by kernel_rfl) (by kernel_rfl) (by kernel_rfl) (by kernel_rfl) rfl, ?_⟩
  refine ⟨_, step_skip 2 39 false true (by kernel_rfl) (by kernel_rfl) (by kernel_rfl) (by kernel_rfl) rfl, ?_⟩
  refine ⟨_, step_skip 2 39 false true (by kernel_rfl) (by kernel_rfl) (by kernel_rfl) (by kernel_rfl) rfl, ?_⟩
  refine ⟨_, step_skip 2 39 false true (by kernel_rfl) (by kernel_rfl) (by kernel_rfl) (by kernel_rfl) rfl, ?_⟩
  refine ⟨_, step_skip 2 39 false true (by kernel_rfl) (by kernel_rfl) (by kernel_rfl) (by kernel_rfl) rfl, ?_⟩
  refine ⟨isVal (.bool true), step_pick (.tmp 39) (.const (.bool true)) (.tmp 53) true (by kernel_rfl) (wanted_none (by kernel_rfl)) (stable_val _) (knows_new (V := isVal (.bool true)) 39 2 (by kernel_rfl) (by kernel_rfl) (by kernel_rfl)) (knows_const _), ?_⟩
  intro a w hkp hb hd
  rw [kept_of hkp [some 37, some 38, some 39, some 40, some 41, some 42, some 43, some 44, some 45, some 46, some 47, some 48, some 49, some 50, some 51, some 52, some 53, some 54] [37, 38, 39, 40, 41, 42, 43, 44, 45, 46, 47, 48, 49, 50, 51, 52, 53, 54] (by kernel_rfl) (by decide)]
  have d54 := fdone_of (hd 17 (by rw [show rblnOps.size = 18 by kernel_rfl]; decide)) (t := 54) (V := isVal (.bool true)) (by kernel_rfl) (by kernel_rfl)
  exact hQ (fun s => a.tmps.getD s undef) w d54 hb
end Go.Proofs.YtmbnhlhanckkiaaGreat
end
section
namespace Go.Proofs.YtmbnhlhanckkiaaGreat
open Go.RowKit
set_option linter.unusedVariables false
set_option linter.unusedSimpArgs false
attribute [local irreducible] setN

set_option maxRecDepth 100000 in
set_option maxHeartbeats 2000000 in
theorem rbelowA_any (A C : Ar) (v u : Value) (w : World) (hv : isAr A v w) (hu : isAr C u w) (hA : FitA A) (hC : FitA C) : Calls Tryz.prog 22 #[v, u] w fun e w' => e = .returned (.bool (belowA A C)) ∧ Below w.heap.size w w' := by
  obtain ⟨pa, ma, rfl, hpa, hma⟩ := hv
  obtain ⟨pb, mb, rfl, hpb, hmb⟩ := hu
  obtain ⟨hB, Va⟩ := abox w A pa ma hpa hma (w.heap.size) (by simp)
  obtain ⟨hBn, Vb⟩ := abox (w.alloc (.cells #[.int .i64 A.cap, pa, ma] 25)) C pb mb (stable_ens _ _ _ _ hpb hB.out) (stable_cells _ _ _ _ hmb hB.out) (w.heap.size + 1) (by simp)
  replace Va := Kept.mk (Va.out.keep hBn.out)
  replace hB := Kept.mk (hB.out.trans (hBn.out.mono hB.out.size))
  clear hBn
  clear hpa hma hpb hmb
  obtain ⟨qa, ra, xa, sa, ia, ka0, ka1, ka2⟩ := Va.out.open_
  have Xa := Kept.mk xa
  have Sa := Kept.mk sa
  have Ia := Kept.mk ia
  clear xa sa ia
  go_enter Tryz.func22, Tryz.ntmps22
  go_wp2_with fail
  cases h1 : okA A with
  | false =>
    have H9 := Kept.mk h1
    have HE := Kept.mk (show belowA A C = false by unfold belowA; rw [h1]; first | rfl | simp)
    clear h1
    ((with_reducible refine (rcheckA_at A false _ _ Xa.out hA H9.out).mono ?_); rintro e W1 ⟨rfl, hb1⟩)
    clear Xa Sa Ia ka0 ka1 ka2
    replace hB := Kept.mk (hB.out.trans ((hb1).mono hB.out.size))
    replace Va := Kept.mk (Va.out.keep (hb1))
    replace Vb := Kept.mk (Vb.out.keep (hb1))
    clear hb1
    go_wp2
    go_ret
    exact ⟨by rw [HE.out]; rfl, hB.out⟩
  | true =>
    have H1 := Kept.mk h1
    clear h1
    ((with_reducible refine (rcheckA_at A true _ _ Xa.out hA H1.out).mono ?_); rintro e W1 ⟨rfl, hb1⟩)
    clear Xa Sa Ia ka0 ka1 ka2
    replace hB := Kept.mk (hB.out.trans ((hb1).mono hB.out.size))
    replace Va := Kept.mk (Va.out.keep (hb1))
    replace Vb := Kept.mk (Vb.out.keep (hb1))
    clear hb1
    obtain ⟨qb, rb, xb, sb, ib, kb0, kb1, kb2⟩ := Vb.out.open_
    have Xb := Kept.mk xb
    have Sb := Kept.mk sb
    have Ib := Kept.mk ib
    clear xb sb ib
    go_wp2_with fail
    cases h2 : okA C with
    | false =>
      have H9 := Kept.mk h2
      have HE := Kept.mk (show belowA A C = false by unfold belowA; rw [h2]; first | rfl | simp)
      clear h2
      ((with_reducible refine (rcheckA_at C false _ _ Xb.out hC H9.out).mono ?_); rintro e W2 ⟨rfl, hb1⟩)
      clear Xb Sb Ib kb0 kb1 kb2
      replace hB := Kept.mk (hB.out.trans ((hb1).mono hB.out.size))
      replace Va := Kept.mk (Va.out.keep (hb1))
      replace Vb := Kept.mk (Vb.out.keep (hb1))
      clear hb1
      go_wp2
      go_ret
      exact ⟨by rw [HE.out]; rfl, hB.out⟩
    | true =>
      have H2 := Kept.mk h2
      clear h2
      ((with_reducible refine (rcheckA_at C true _ _ Xb.out hC H2.out).mono ?_); rintro e W2 ⟨rfl, hb1⟩)
      clear Xb Sb Ib kb0 kb1 kb2
      replace hB := Kept.mk (hB.out.trans ((hb1).mono hB.out.size))
      replace Va := Kept.mk (Va.out.keep (hb1))
      replace Vb := Kept.mk (Vb.out.keep (hb1))
      clear hb1
      go_wp2
      have HE := Kept.mk (show belowA A C = A.slots.all (inB C) by unfold belowA; rw [H1.out, H2.out, Bool.true_and, Bool.true_and])
      have f1 := hA.slots
      have OC := Kept.mk (okA_iff.1 H2.out)
      have OA := Kept.mk (okA_iff.1 H1.out)
      have hB4 := hB
      have Va4 := Va
      have Vb4 := Vb
      clear hB Va Vb
      go_loopw [5] (fun IV WZ => ∃ k : Nat, k ≤ A.slots.length ∧ IV = .int .i64 (k : Int) ∧ Kept (∀ j E, j < k → A.slots[j]? = some E → inB C E = true) ∧ Kept (Below W2.heap.size W2 WZ)) (fun IV _ => A.slots.length - (intOf IV).toNat)
      case atStart => exact ⟨0, Nat.zero_le _, rfl, ⟨fun j E h => absurd h (Nat.not_lt_zero _)⟩, ⟨Below.refl _ _⟩⟩
      case round =>
        obtain ⟨k, hk, rfl, AJ, BZ⟩ := hrel
        have hB := Kept.mk (hB4.out.trans (BZ.out.mono hB4.out.size))
        obtain ⟨qa, ra, ca, sa, ia⟩ := (Va4.out.keep BZ.out)
        obtain ⟨qb, rb, cb, sb, ib⟩ := (Vb4.out.keep BZ.out)
        obtain ⟨pa, na, rfl⟩ := sa.len
        have HCA := Kept.mk ca
        have HSA := Kept.mk sa
        have HCB := Kept.mk cb
        have HSB := Kept.mk sb
        have XC := Kept.mk (show isAr C (.agg #[.int .i64 C.cap, qb, rb]) wr from ⟨_, _, rfl, sb, ib⟩)
        have ka1 := ca.2 1 _ rfl
        clear ca sa ia cb sb ib
        by_cases hlt : k < A.slots.length
        · skip
          have hlt' : (k : Int) < (A.slots.length : Int) := by omega
          obtain ⟨X, hX⟩ : ∃ X, A.slots[k]? = some X := ⟨_, List.getElem?_eq_getElem hlt⟩
          obtain ⟨bs, os, cs', ea, hbs, xp, xm, hxc, hxp, hxm⟩ := HSA.out.get hX
          injection ea with ea1 ea2 ea3
          clear ea2
          subst ea1 ea3
          have HXM := Kept.mk hX
          have HXC := Kept.mk hxc
          have HXP := Kept.mk hxp
          have HXN := Kept.mk hxm
          have FX := Kept.mk (show FitE X from ok_fit' (OA.out.ents X (List.mem_of_getElem? hX)))
          have OX := Kept.mk (OA.out.ents X (List.mem_of_getElem? hX))
          have HF := Kept.mk (show inB C X = false → belowA A C = false from fun h => by rw [HE.out, List.all_eq_false]; exact ⟨X, List.mem_of_getElem? HXM.out, by rw [h]; decide⟩)
          clear hX hxc hxp hxm
          go_wp2
          clear ka1
          obtain ⟨p, hp⟩ : ∃ p, findI C X = p := ⟨_, rfl⟩
          have HP := Kept.mk hp
          clear hp
          refine rbl6_region _ _ _ rfl w.heap.size (w.heap.size + 1) k A.slots.length bs os _ _ p _ _ _ C X rfl rfl rfl HCA.out HCB.out XC.out hC hlt hbs (HXC.out 0 _ rfl) (HXC.out 1 _ rfl) HP.out ?_
          intro f9 W9 d6 hb9
          simp only [List.foldl_cons, List.foldl_nil, d6]
          generalize f9 22 = y22
          generalize f9 23 = y23
          generalize f9 24 = y24
          generalize f9 25 = y25
          generalize f9 26 = y26
          generalize f9 27 = y27
          generalize f9 28 = y28
          generalize f9 29 = y29
          generalize f9 30 = y30
          generalize f9 31 = y31
          generalize f9 32 = y32
          generalize f9 33 = y33
          generalize f9 34 = y34
          generalize f9 35 = y35
          generalize f9 36 = y36
          clear d6
          simp only [List.setIfInBounds_toArray, List.set_cons_succ, List.set_cons_zero]
          have HB9 := Kept.mk hb9
          replace hB := Kept.mk (hB.out.trans (hb9.mono hB.out.size))
          have BZ9 := Kept.mk (BZ.out.trans (hb9.mono BZ.out.size))
          have HS9 := Kept.mk hb9.size
          clear hb9
          go_wp2
          by_cases hpn : p = -1
          · skip
            subst hpn
            have HR := Kept.mk (HF.out (by unfold inB; rw [if_pos HP.out]))
            refine rbln_region _ _ _ rfl w.heap.size (w.heap.size + 1) k rfl rfl rfl rfl ?_
            intro f8 W8 d54 hb8
            simp only [List.foldl_cons, List.foldl_nil, d54]
            generalize f8 37 = y37
            generalize f8 38 = y38
            generalize f8 39 = y39
            generalize f8 40 = y40
            generalize f8 41 = y41
            generalize f8 42 = y42
            generalize f8 43 = y43
            generalize f8 44 = y44
            generalize f8 45 = y45
            generalize f8 46 = y46
            generalize f8 47 = y47
            generalize f8 48 = y48
            generalize f8 49 = y49
            generalize f8 50 = y50
            generalize f8 51 = y51
            generalize f8 52 = y52
            generalize f8 53 = y53
            clear d54
            simp only [List.setIfInBounds_toArray, List.set_cons_succ, List.set_cons_zero]
            replace hB := Kept.mk (hB.out.trans (hb8.mono hB.out.size))
            clear hb8
            go_wp2
            go_ret
            exact ⟨by rw [HR.out]; rfl, hB.out⟩
          · skip
            obtain ⟨t, Y, et, ht, hY, hn, hin⟩ := find_at OC.out (X := X) (by rw [HP.out]; exact hpn)
            have e9 : p = (t : Int) := HP.out.symm.trans et
            subst e9
            obtain ⟨bt, ot, ct', eb, hbt, yp, ym, hyc, hyp, hym⟩ := HSB.out.get hY
            have OY := Kept.mk (OC.out.ents Y (List.mem_of_getElem? hY))
            have FY := Kept.mk (show FitE Y from ok_fit' OY.out)
            obtain ⟨z, hz⟩ : ∃ z, belowB X.val Y.val = z := ⟨_, rfl⟩
            have HZ := Kept.mk hz
            have HIN := Kept.mk (show inB C X = z by rw [hin, below_val OX.out OY.out hn]; exact hz)
            have HYC := Kept.mk hyc
            have HYP := Kept.mk hyp
            have HYN := Kept.mk hym
            subst eb
            clear hY hn hin hz hyc hyp hym et hpn
            refine rbl7_region _ _ _ rfl w.heap.size (w.heap.size + 1) k t A.slots.length C.slots.length bs os _ bt ot _ _ _ _ _ xp xm yp ym X Y z rfl rfl rfl rfl (HCA.out.keep HB9.out HCA.out.1) (HCB.out.keep HB9.out HCB.out.1) hlt ht (Nat.lt_of_lt_of_le hbs HS9.out) (Nat.lt_of_lt_of_le hbt HS9.out) (fun j x hx => ?_) (fun j x hx => ?_) (stable_cells _ _ _ _ HXP.out HB9.out) (stable_cells _ _ _ _ HXN.out HB9.out) (stable_cells _ _ _ _ HYP.out HB9.out) (stable_cells _ _ _ _ HYN.out HB9.out) FX.out.val FY.out.val HZ.out ?_
            · exact (HB9.out.cell (p := ⟨bs, os + k * 9 + 1 + j, none⟩) hbs).trans (by rw [Nat.add_assoc (os + k * 9) 1 j, Nat.add_comm 1 j]; exact HXC.out (j + 1) x hx)
            · exact (HB9.out.cell (p := ⟨bt, ot + t * 9 + 1 + j, none⟩) hbt).trans (by rw [Nat.add_assoc (ot + t * 9) 1 j, Nat.add_comm 1 j]; exact HYC.out (j + 1) x hx)
            intro f8 W8 d54 hb8
            simp only [List.foldl_cons, List.foldl_nil, d54]
            generalize f8 37 = y37
            generalize f8 38 = y38
            generalize f8 39 = y39
            generalize f8 40 = y40
            generalize f8 41 = y41
            generalize f8 42 = y42
            generalize f8 43 = y43
            generalize f8 44 = y44
            generalize f8 45 = y45
            generalize f8 46 = y46
            generalize f8 47 = y47
            generalize f8 48 = y48
            generalize f8 49 = y49
            generalize f8 50 = y50
            generalize f8 51 = y51
            generalize f8 52 = y52
            generalize f8 53 = y53
            clear d54
            simp only [List.setIfInBounds_toArray, List.set_cons_succ, List.set_cons_zero]
            replace hB := Kept.mk (hB.out.trans (hb8.mono hB.out.size))
            have BZ8 := Kept.mk (BZ9.out.trans (hb8.mono BZ9.out.size))
            clear hb8
            cases z with
            | false =>
              have HR := Kept.mk (HF.out HIN.out)
              simp only [Bool.not_false]
              go_wp2
              go_ret
              exact ⟨by rw [HR.out]; rfl, hB.out⟩
            | true =>
              have HJ := Kept.mk (show ∀ j E, j < k + 1 → A.slots[j]? = some E → inB C E = true from fun j E hj hE => by
                by_cases e : j = k
                · subst e; rw [HXM.out] at hE; injection hE with hE; rw [← hE]; exact HIN.out
                · exact AJ.out j E (by omega) hE)
              simp only [Bool.not_true]
              go_wp2
              go_roundw
              case rel => exact ⟨k + 1, by omega, by go_num, HJ, BZ8⟩
              case measure => simp [intOf]; omega
        · skip
          have hlt' : ¬ (k : Int) < (A.slots.length : Int) := by omega
          have HR := Kept.mk (show belowA A C = true by rw [HE.out, List.all_eq_true]; intro e he; obtain ⟨j, hj⟩ := List.getElem?_of_mem he; exact AJ.out j e (by have := (List.getElem?_eq_some_iff.1 hj).1; omega) hj)
          go_wp2
          go_ret
          exact ⟨by rw [HR.out]; rfl, hB.out⟩
set_option maxRecDepth 100000 in
set_option maxHeartbeats 2000000 in
theorem ralike_any (A C : Ar) (v u : Value) (w : World) (hv : isAr A v w) (hu : isAr C u w) (hA : FitA A) (hC : FitA C) : Calls Tryz.prog 23 #[v, u] w fun e w' => e = .returned (.bool (alikeA A C)) ∧ Below w.heap.size w w' := by
  obtain ⟨vs, vi, rfl, hs, hi⟩ := hv
  obtain ⟨us, ui, rfl, ks, ki⟩ := hu
  obtain ⟨hB, Va⟩ := abox w A vs vi hs hi w.heap.size rfl
  obtain ⟨hBn, Vc⟩ := abox (w.alloc (.cells #[.int .i64 A.cap, vs, vi] 25)) C us ui (stable_ens _ _ _ _ ks hB.out) (stable_cells _ _ _ _ ki hB.out) (w.heap.size + 1) (by simp)
  replace Va := Kept.mk (Va.out.keep hBn.out)
  replace hB := Kept.mk (hB.out.trans (hBn.out.mono hB.out.size))
  clear hBn hs hi ks ki
  have HD := Kept.mk (show alikeA A C = (belowA A C && belowA C A) from rfl)
  obtain ⟨a1, a2, xa, _, _, ka0, ka1, ka2⟩ := Va.out.open_
  obtain ⟨c1, c2, xc, _, _, kc0, kc1, kc2⟩ := Vc.out.open_
  have XA := Kept.mk xa
  have XC := Kept.mk xc
  clear xa xc
  go_enter Tryz.func23, Tryz.ntmps23
  go_wp2_with fail
  refine (rbelowA_any A C _ _ _ XA.out XC.out hA hC).mono ?_
  rintro e W1 ⟨rfl, hb⟩
  replace hB := Kept.mk (hB.out.trans (hb.mono hB.out.size))
  replace Va := Kept.mk (Va.out.keep hb)
  replace Vc := Kept.mk (Vc.out.keep hb)
  clear hb ka0 ka1 ka2 kc0 kc1 kc2 XA XC
  cases h1 : belowA A C with
  | false =>
    rw [h1, Bool.false_and] at HD
    go_wp2
    go_ret
    exact ⟨by rw [HD.out]; rfl, hB.out⟩
  | true =>
    rw [h1, Bool.true_and] at HD
    obtain ⟨_, _, xa, _, _, ka0, ka1, ka2⟩ := Va.out.open_
    obtain ⟨_, _, xc, _, _, kc0, kc1, kc2⟩ := Vc.out.open_
    have XA := Kept.mk xa
    have XC := Kept.mk xc
    clear xa xc
    go_wp2_with fail
    refine (rbelowA_any C A _ _ _ XC.out XA.out hC hA).mono ?_
    rintro e W2 ⟨rfl, hb⟩
    replace hB := Kept.mk (hB.out.trans (hb.mono hB.out.size))
    clear hb ka0 ka1 ka2 kc0 kc1 kc2 XA XC
    cases h2 : belowA C A <;>
    · rw [h2] at HD
      go_wp2
      go_ret
      exact ⟨by rw [HD.out]; rfl, hB.out⟩
end Go.Proofs.YtmbnhlhanckkiaaGreat
end
section
namespace Go.Proofs.YtmbnhlhanckkiaaGreat
open Go.RowKit
set_option linter.unusedVariables false
set_option linter.unusedSimpArgs false
attribute [local irreducible] setN

theorem all_pred (A : Ar) (l : List En) (v : Value) (w : World) (hv : isAr A v w) (hF : FitA A) (hl : allA A = l) : Calls Tryz.prog 17 #[v] w fun e w' => ∃ x, e = .returned x ∧ isEns l x w' ∧ Below w.heap.size w w' := ga_all A l v w hv hF hl
theorem chunk_pred (A : Ar) (p q : Int) (l : List En) (v : Value) (w : World) (hv : isAr A v w) (hF : FitA A) (hl : chunkA A p q = l) : Calls Tryz.prog 19 #[v, .int .i64 p, .int .i64 q] w fun e w' => ∃ x, e = .returned x ∧ isEns l x w' ∧ Below w.heap.size w w' := ga_chunk A p q l v w hv hF hl
theorem rall_pred (A : Ar) (l : List En) (v : Value) (w : World) (hv : isAr A v w) (hF : FitA A) (hl : allA A = l) : Calls Tryz.prog 18 #[v] w fun e w' => ∃ x, e = .returned x ∧ isEns l x w' ∧ Below w.heap.size w w' := by
  subst hl; exact rallA_post A v w hv hF
theorem rchunk_pred (A : Ar) (p q : Int) (l : List En) (v : Value) (w : World) (hv : isAr A v w) (hF : FitA A) (hl : chunkA A p q = l) : Calls Tryz.prog 20 #[v, .int .i64 p, .int .i64 q] w fun e w' => ∃ x, e = .returned x ∧ isEns l x w' ∧ Below w.heap.size w w' := by
  subst hl; exact rchunk_any A p q v w hv hF
theorem refAll_self (l : List En) (v u : Value) (w : World) (hv : isEns l v w) (hu : isEns l u w) (hl : l.length ≤ 1000) (fl : ∀ e ∈ l, FitE e) : Calls Tryz.prog 16 #[v, u] w fun e w' => e = .returned (.bool true) ∧ Below w.heap.size w w' := by
  have h := refAll_any l l v u w hv hu hl hl fl fl
  rwa [show decide (l = l) = true by simp] at h
theorem call_val {f : FuncId} {vs : Array Value} {w : World} {r : Value} (h : Calls Tryz.prog f vs w fun e w' => e = .returned r ∧ Below w.heap.size w w') : Calls Tryz.prog f vs w fun e w' => ∃ x, e = .returned x ∧ isVal r x w' ∧ Below w.heap.size w w' := h.mono (by rintro e w' ⟨rfl, hb⟩; exact ⟨_, rfl, rfl, hb⟩)
theorem allA_fit {A : Ar} (hF : FitA A) : (allA A).length ≤ 1000 ∧ ∀ e ∈ allA A, FitE e := by
  unfold allA
  by_cases h : okA A = true
  · rw [if_pos h]
    have o := okA_iff.1 h
    exact ⟨by rw [ord_length o]; exact hF.slots, fun e he => hF.ents e ((mem_ord o e).1 he)⟩
  · rw [if_neg h]; exact ⟨by decide, fun e he => by cases he⟩
theorem chunkA_fit {A : Ar} (hF : FitA A) (p q : Int) : (chunkA A p q).length ≤ 1000 ∧ ∀ e ∈ chunkA A p q, FitE e := by
  unfold chunkA
  by_cases h0 : p < 0
  · rw [if_pos h0]; exact ⟨by decide, fun e he => by cases he⟩
  · rw [if_neg h0]
    by_cases h : okA A = true
    · rw [if_pos h]
      exact ⟨by rw [List.length_take, List.length_drop]; have := hF.slots; omega, fun e he => hF.ents e (List.mem_of_mem_drop (List.mem_of_mem_take he))⟩
    · rw [if_neg h]; exact ⟨by decide, fun e he => by cases he⟩
theorem newA_fit (n : Int) : FitA (newAF n) := by
  unfold newAF
  by_cases h : roomB n = true
  · rw [if_pos h]; exact ⟨Nat.zero_le _, Nat.zero_le _, fun e he => by cases he⟩
  · rw [if_neg h]; exact ⟨Nat.zero_le _, Nat.zero_le _, fun e he => by cases he⟩
theorem new_at (n : Int) (G : Ar) (r : Int) (w : World) (hG : newAF n = G) (hr : newAE n = r) : Calls Tryz.prog 12 #[.int .i64 n] w fun e w' => ∃ v', e = .returned (.tuple #[v', .int .i64 r]) ∧ isAr G v' w' ∧ Below w.heap.size w w' := by subst hG hr; exact anew_any n w
theorem rnew_at (n : Int) (G : Ar) (r : Int) (w : World) (hG : newAF n = G) (hr : newAE n = r) : Calls Tryz.prog 13 #[.int .i64 n] w fun e w' => ∃ v', e = .returned (.tuple #[v', .int .i64 r]) ∧ isAr G v' w' ∧ Below w.heap.size w w' := by subst hG hr; exact rnewA_any n w
theorem findk_at (A : Ar) (kind : Int) (key : List UInt8) (p : Int) (v : Value) (w : World) (hv : isAr A v w) (hF : FitA A) (hp : findI A (nameE kind key) = p) : Calls Tryz.prog 25 #[v, .int .i64 kind, .string ⟨key.toArray⟩] w fun e w' => e = .returned (.int .i64 p) ∧ Below w.heap.size w w' := by subst hp; exact find_any A kind key v w hv hF
theorem rfindk_at (A : Ar) (kind : Int) (key : List UInt8) (p : Int) (v : Value) (w : World) (hv : isAr A v w) (hF : FitA A) (hp : findI A (nameE kind key) = p) : Calls Tryz.prog 15 #[v, .int .i64 kind, .string ⟨key.toArray⟩] w fun e w' => e = .returned (.int .i64 p) ∧ Below w.heap.size w w' := by subst hp; exact rfind_any A kind key v w hv hF
theorem rsame_at (A C : Ar) (r : Bool) (v u : Value) (w : World) (hv : isAr A v w) (hu : isAr C u w) (hA : FitA A) (hC : FitA C) (hr : decide (A = C) = r) : Calls Tryz.prog 21 #[v, u] w fun e w' => e = .returned (.bool r) ∧ Below w.heap.size w w' := by subst hr; exact rsameA_any A C v u w hv hu hA hC
theorem rbelow_at (A C : Ar) (r : Bool) (v u : Value) (w : World) (hv : isAr A v w) (hu : isAr C u w) (hA : FitA A) (hC : FitA C) (hr : belowA A C = r) : Calls Tryz.prog 22 #[v, u] w fun e w' => e = .returned (.bool r) ∧ Below w.heap.size w w' := by subst hr; exact rbelowA_any A C v u w hv hu hA hC
theorem ralike_at (A C : Ar) (r : Bool) (v u : Value) (w : World) (hv : isAr A v w) (hu : isAr C u w) (hA : FitA A) (hC : FitA C) (hr : alikeA A C = r) : Calls Tryz.prog 23 #[v, u] w fun e w' => e = .returned (.bool r) ∧ Below w.heap.size w w' := by subst hr; exact ralike_any A C v u w hv hu hA hC
noncomputable def atl1Ops : Array Oper := regionOf Tryz.f3 11
set_option maxRecDepth 100000 in
set_option maxHeartbeats 2000000 in
theorem atl1_region (Q : Exit → Act → World → Prop) (a0 : Act) (w0 : World) (hsz : a0.tmps.size = 135) (ga : Nat) (A : Ar) (L : List En) (sa ia : Value) (e5 : a0.tmps.getD 5 undef = .pointer (some ⟨ga, 0, none⟩)) (HA : CellsN w0 ga [.int .i64 A.cap, sa, ia]) (XA : isAr A (.agg #[.int .i64 A.cap, sa, ia]) w0) (fA : FitA A) (hL : allA A = L) (hLn : L.length ≤ 1000) (fL : ∀ e ∈ L, FitE e)
    (hQ : ∀ (g : Nat → Value) (w : World), g 19 = .bool true → Below w0.heap.size w0 w → Q .normal { tmps := [58, 59, 60, 61, 62, 19].foldl (fun t s => t.setIfInBounds s (g s)) a0.tmps, defers := a0.defers } w) :
    (Code.region 11 atl1Ops true).wp Tryz.prog Q a0 w0 := by
  refine wp_region_flow mixed (by rw [hsz]; kernel_rfl) ?_
  rw [show atl1Ops.size = 6 by kernel_rfl]
  refine ⟨isVal (.agg #[.int .i64 A.cap, sa, ia]), step_loadA 25 (.tmp 5) (ga) (0) [.int .i64 A.cap, sa, ia] (by kernel_rfl) (wanted_none (by kernel_rfl)) (knows_old 5 (.pointer (some ⟨ga, 0, none⟩)) (by kernel_rfl) e5) size_ar agg_ar (⟨HA.1, fun j x hx => by rw [Nat.zero_add]; exact HA.2 j x hx⟩), ?_⟩
  refine ⟨(isEns L), step_call 17 #[.tmp 58] #[25] #[.agg #[.int .i64 A.cap, sa, ia]] (by kernel_rfl) (wanted_none (by kernel_rfl)) (stable_ens _) (args1 (.tmp 58) (.agg #[.int .i64 A.cap, sa, ia]) (knows_new (V := isVal (.agg #[.int .i64 A.cap, sa, ia])) 58 0 (by kernel_rfl) (by kernel_rfl) (by kernel_rfl))) (enters_of Tryz.func17 (by kernel_rfl) rfl) (by intro w' hb; exact all_pred A L _ w' (stable_ar _ _ _ _ XA hb) fA hL), ?_⟩
  refine ⟨isVal (.agg #[.int .i64 A.cap, sa, ia]), step_loadA 25 (.tmp 5) (ga) (0) [.int .i64 A.cap, sa, ia] (by kernel_rfl) (wanted_none (by kernel_rfl)) (knows_old 5 (.pointer (some ⟨ga, 0, none⟩)) (by kernel_rfl) e5) size_ar agg_ar (⟨HA.1, fun j x hx => by rw [Nat.zero_add]; exact HA.2 j x hx⟩), ?_⟩
  refine ⟨(isEns L), step_call 18 #[.tmp 60] #[25] #[.agg #[.int .i64 A.cap, sa, ia]] (by kernel_rfl) (wanted_none (by kernel_rfl)) (stable_ens _) (args1 (.tmp 60) (.agg #[.int .i64 A.cap, sa, ia]) (knows_new (V := isVal (.agg #[.int .i64 A.cap, sa, ia])) 60 2 (by kernel_rfl) (by kernel_rfl) (by kernel_rfl))) (enters_of Tryz.func18 (by kernel_rfl) rfl) (by intro w' hb; exact rall_pred A L _ w' (stable_ar _ _ _ _ XA hb) fA hL), ?_⟩
  refine ⟨isVal (.bool true), step_callP 16 #[.tmp 59, .tmp 61] #[22, 22] (by kernel_rfl) (wanted_none (by kernel_rfl)) (stable_val _) (enters_of Tryz.func16 (by kernel_rfl) rfl) (fun vs w => ∃ u v, vs = #[u, v] ∧ isEns L u w ∧ isEns L v w) (pre2 (knows_new (V := (isEns L)) 59 1 (by kernel_rfl) (by kernel_rfl) (by kernel_rfl)) (knows_new (V := (isEns L)) 61 3 (by kernel_rfl) (by kernel_rfl) (by kernel_rfl))) (fun vs w' hb hp => by obtain ⟨u, v, rfl, h1, h2⟩ := hp; exact call_val (refAll_self L _ _ w' h1 h2 hLn fL)), ?_⟩
  refine ⟨isVal (.bool true), step_assign (.tmp 62) (by kernel_rfl) (wanted_none (by kernel_rfl)) (stable_val _) (knows_new (V := isVal (.bool true)) 62 4 (by kernel_rfl) (by kernel_rfl) (by kernel_rfl)), ?_⟩
  intro a w hkp hb hd
  rw [kept_of hkp [some 58, some 59, some 60, some 61, some 62, some 19] [58, 59, 60, 61, 62, 19] (by kernel_rfl) (by decide)]
  have d19 := fdone_of (hd 5 (by rw [show atl1Ops.size = 6 by kernel_rfl]; decide)) (t := 19) (V := isVal (.bool true)) (by kernel_rfl) (by kernel_rfl)
  exact hQ (fun s => a.tmps.getD s undef) w d19 hb
noncomputable def atl2Ops : Array Oper := regionOf Tryz.f3 12
set_option maxRecDepth 100000 in
set_option maxHeartbeats 2000000 in
theorem atl2_region (Q : Exit → Act → World → Prop) (a0 : Act) (w0 : World) (hsz : a0.tmps.size = 135) (ga : Nat) (A : Ar) (p q : Int) (L : List En) (sa ia : Value) (e5 : a0.tmps.getD 5 undef = .pointer (some ⟨ga, 0, none⟩)) (e2 : a0.tmps.getD 2 undef = .int .i64 p) (e3 : a0.tmps.getD 3 undef = .int .i64 q) (HA : CellsN w0 ga [.int .i64 A.cap, sa, ia]) (XA : isAr A (.agg #[.int .i64 A.cap, sa, ia]) w0) (fA : FitA A) (hL : chunkA A p q = L) (hLn : L.length ≤ 1000) (fL : ∀ e ∈ L, FitE e)
    (hQ : ∀ (g : Nat → Value) (w : World), g 20 = .bool true → Below w0.heap.size w0 w → Q .normal { tmps := [63, 64, 65, 66, 67, 68, 69, 70, 71, 20].foldl (fun t s => t.setIfInBounds s (g s)) a0.tmps, defers := a0.defers } w) :
    (Code.region 12 atl2Ops true).wp Tryz.prog Q a0 w0 := by
  refine wp_region_flow mixed (by rw [hsz]; kernel_rfl) ?_
  rw [show atl2Ops.size = 10 by kernel_rfl]
  refine ⟨isVal (.agg #[.int .i64 A.cap, sa, ia]), step_loadA 25 (.tmp 5) (ga) (0) [.int .i64 A.cap, sa, ia] (by kernel_rfl) (wanted_none (by kernel_rfl)) (knows_old 5 (.pointer (some ⟨ga, 0, none⟩)) (by kernel_rfl) e5) size_ar agg_ar (⟨HA.1, fun j x hx => by rw [Nat.zero_add]; exact HA.2 j x hx⟩), ?_⟩
  refine ⟨isVal (.int .i64 p), step_move (.tmp 2) (by kernel_rfl) (wanted_none (by kernel_rfl)) (stable_val _) (knows_old 2 (.int .i64 p) (by kernel_rfl) e2), ?_⟩
  refine ⟨isVal (.int .i64 q), step_move (.tmp 3) (by kernel_rfl) (wanted_none (by kernel_rfl)) (stable_val _) (knows_old 3 (.int .i64 q) (by kernel_rfl) e3), ?_⟩
  refine ⟨(isEns L), step_call 19 #[.tmp 63, .tmp 64, .tmp 65] #[25, 3, 3] #[.agg #[.int .i64 A.cap, sa, ia], .int .i64 p, .int .i64 q] (by kernel_rfl) (wanted_none (by kernel_rfl)) (stable_ens _) (args3 (.tmp 63) (.tmp 64) (.tmp 65) (.agg #[.int .i64 A.cap, sa, ia]) (.int .i64 p) (.int .i64 q) (knows_new (V := isVal (.agg #[.int .i64 A.cap, sa, ia])) 63 0 (by kernel_rfl) (by kernel_rfl) (by kernel_rfl)) (knows_new (V := isVal (.int .i64 p)) 64 1 (by kernel_rfl) (by kernel_rfl) (by kernel_rfl)) (knows_new (V := isVal (.int .i64 q)) 65 2 (by kernel_rfl) (by kernel_rfl) (by kernel_rfl))) (enters_of Tryz.func19 (by kernel_rfl) rfl) (by intro w' hb; exact chunk_pred A p q L _ w' (stable_ar _ _ _ _ XA hb) fA hL), ?_⟩
  refine ⟨isVal (.agg #[.int .i64 A.cap, sa, ia]), step_loadA 25 (.tmp 5) (ga) (0) [.int .i64 A.cap, sa, ia] (by kernel_rfl) (wanted_none (by kernel_rfl)) (knows_old 5 (.pointer (some ⟨ga, 0, none⟩)) (by kernel_rfl) e5) size_ar agg_ar (⟨HA.1, fun j x hx => by rw [Nat.zero_add]; exact HA.2 j x hx⟩), ?_⟩
  refine ⟨isVal (.int .i64 p), step_move (.tmp 2) (by kernel_rfl) (wanted_none (by kernel_rfl)) (stable_val _) (knows_old 2 (.int .i64 p) (by kernel_rfl) e2), ?_⟩
  refine ⟨isVal (.int .i64 q), step_move (.tmp 3) (by kernel_rfl) (wanted_none (by kernel_rfl)) (stable_val _) (knows_old 3 (.int .i64 q) (by kernel_rfl) e3), ?_⟩
  refine ⟨(isEns L), step_call 20 #[.tmp 67, .tmp 68, .tmp 69] #[25, 3, 3] #[.agg #[.int .i64 A.cap, sa, ia], .int .i64 p, .int .i64 q] (by kernel_rfl) (wanted_none (by kernel_rfl)) (stable_ens _) (args3 (.tmp 67) (.tmp 68) (.tmp 69) (.agg #[.int .i64 A.cap, sa, ia]) (.int .i64 p) (.int .i64 q) (knows_new (V := isVal (.agg #[.int .i64 A.cap, sa, ia])) 67 4 (by kernel_rfl) (by kernel_rfl) (by kernel_rfl)) (knows_new (V := isVal (.int .i64 p)) 68 5 (by kernel_rfl) (by kernel_rfl) (by kernel_rfl)) (knows_new (V := isVal (.int .i64 q)) 69 6 (by kernel_rfl) (by kernel_rfl) (by kernel_rfl))) (enters_of Tryz.func20 (by kernel_rfl) rfl) (by intro w' hb; exact rchunk_pred A p q L _ w' (stable_ar _ _ _ _ XA hb) fA hL), ?_⟩
  refine ⟨isVal (.bool true), step_callP 16 #[.tmp 66, .tmp 70] #[22, 22] (by kernel_rfl) (wanted_none (by kernel_rfl)) (stable_val _) (enters_of Tryz.func16 (by kernel_rfl) rfl) (fun vs w => ∃ u v, vs = #[u, v] ∧ isEns L u w ∧ isEns L v w) (pre2 (knows_new (V := (isEns L)) 66 3 (by kernel_rfl) (by kernel_rfl) (by kernel_rfl)) (knows_new (V := (isEns L)) 70 7 (by kernel_rfl) (by kernel_rfl) (by kernel_rfl))) (fun vs w' hb hp => by obtain ⟨u, v, rfl, h1, h2⟩ := hp; exact call_val (refAll_self L _ _ w' h1 h2 hLn fL)), ?_⟩
  refine ⟨isVal (.bool true), step_assign (.tmp 71) (by kernel_rfl) (wanted_none (by kernel_rfl)) (stable_val _) (knows_new (V := isVal (.bool true)) 71 8 (by kernel_rfl) (by kernel_rfl) (by kernel_rfl)), ?_⟩
  intro a w hkp hb hd
  rw [kept_of hkp [some 63, some 64, some 65, some 66, some 67, some 68, some 69, some 70, some 71, some 20] [63, 64, 65, 66, 67, 68, 69, 70, 71, 20] (by kernel_rfl) (by decide)]
  have d20 := fdone_of (hd 9 (by rw [show atl2Ops.size = 10 by kernel_rfl]; decide)) (t := 20) (V := isVal (.bool true)) (by kernel_rfl) (by kernel_rfl)
  exact hQ (fun s => a.tmps.getD s undef) w d20 hb
end Go.Proofs.YtmbnhlhanckkiaaGreat
end
