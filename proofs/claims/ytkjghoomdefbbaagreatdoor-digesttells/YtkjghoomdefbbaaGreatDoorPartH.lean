import Derived.Test.YtkjghoomdefbbaaGreatDoorPartG
import Derived.RegionTactic
import Derived.Test.YtkjghoomdefbbaaGreatDoorProg
import Derived.ProofKit
import Derived.OpenShut
import Derived.Laws.IdiomArrays
import Derived.ChangeSame
set_option maxRecDepth 100000
set_option maxHeartbeats 8000000
section
namespace Go.Proofs.YtkjghoomdefbbaaGreatDoor
open Go.RowKit
attribute [local irreducible] setN
theorem slots_snoc {m : List En} {x : En} : slotsB (m ++ [x]) = true ↔ slotsB m = true ∧ okE x = true ∧ ∀ y ∈ m, nameB x y = false := by
  unfold slotsB apartB
  simp only [Bool.and_eq_true, decide_eq_true_eq, List.all_append, List.all_cons, List.all_nil, Bool.and_true, List.pairwise_append, List.pairwise_cons, List.not_mem_nil, List.mem_singleton, List.Pairwise.nil]
  constructor
  · rintro ⟨⟨h1, h2⟩, h3, _, h4⟩; exact ⟨⟨h1, h3⟩, h2, fun y hy => h4 y hy x rfl⟩
  · rintro ⟨⟨h1, h3⟩, h2, h4⟩; exact ⟨⟨h1, h2⟩, h3, ⟨fun _ h => h.elim, trivial⟩, fun y hy b hb => by rw [hb]; exact h4 y hy⟩
theorem zwt {l : List En} {k : Nat} {x : En} (h : l[k]? = some x) (hx : okE x = false) : slotsB l = false := by
  unfold slotsB
  rw [show l.all okE = false by rw [List.all_eq_false]; exact ⟨x, List.mem_of_getElem? h, by rw [hx]; decide⟩]; rfl
theorem zsj {l : List En} {k j : Nat} {x y : En} (h : l[k]? = some x) (hj : l[j]? = some y) (hlt : j < k) (hn : nameB x y = true) : slotsB l = false := by
  unfold slotsB
  cases ha : apartB l with
  | false => simp
  | true => rw [zjk ha h hj hlt] at hn; cases hn
theorem zcf1 (E : En) (r : Bool) (v : Value) (w : World) (hv : isEn E v w) (hF : FitE E) (hr : okE E = r) : Calls Tryz.prog 65 #[v] w fun e w' => e = .returned (.bool r) ∧ Below w.heap.size w w' := by subst hr; exact zpt E v w hv hF
theorem zvd (l : List En) (v : Value) (w : World) (hv : isEns l v w) (hl : l.length ≤ 1000) (fl : ∀ e ∈ l, FitE e) : Calls Tryz.prog 62 #[v] w fun e w' => e = .returned (.bool (slotsB l)) ∧ Below w.heap.size w w' := by
  obtain ⟨va, vc, rfl⟩ := hv.len
  have HV := Kept.mk hv
  have FL := Kept.mk fl
  clear hv fl
  obtain ⟨S, hS⟩ : ∃ S, slotsB l = S := ⟨_, rfl⟩
  rw [hS]
  have HS := Kept.mk hS
  clear hS
  generalize hn : l.length = n at *
  have HN := Kept.mk hn
  clear hn
  go_enter Tryz.func62, Tryz.ntmps62
  go_wp2
  go_loopw [3] (fun IV WZ => ∃ k : Nat, k ≤ n ∧ IV = .int .i64 (k : Int) ∧ Kept (slotsB (l.take k) = true) ∧ Kept (Below w.heap.size w WZ)) (fun IV _ => n - (intOf IV).toNat)
  case atStart => exact ⟨0, Nat.zero_le _, rfl, ⟨by rw [List.take_zero]; rfl⟩, ⟨Below.refl _ _⟩⟩
  case round =>
    obtain ⟨k, hk, rfl, A, B⟩ := hrel
    by_cases hlt : k < n
    · have hlt' : (k : Int) < (n : Int) := by omega
      obtain ⟨X, hX⟩ : ∃ X, l[k]? = some X := ⟨_, List.getElem?_eq_getElem (by rw [HN.out]; exact hlt)⟩
      have HX := Kept.mk hX
      rcases HV.out.cases_ with ⟨_, _, _, hnil⟩ | ⟨bs, os, cs, ea, hbs, hall⟩
      · rw [hnil] at hX; simp at hX
      · injection ea with ea1 ea2 ea3
        subst ea1 ea3
        have HALL := Kept.mk hall
        obtain ⟨xp, xm, hxc, hxp, hxm⟩ := hall k X hX
        have HXC := Kept.mk hxc
        have HXP := Kept.mk hxp
        have HXM := Kept.mk hxm
        have FX := Kept.mk (FL.out X (List.mem_of_getElem? hX))
        have kx0 : wr.cell? ⟨bs, os + k * 9, none⟩ = _ := (B.out.cell (p := ⟨bs, os + k * 9 + 0, none⟩) hbs).trans (hxc 0 _ rfl)
        have kx1 : wr.cell? ⟨bs, os + k * 9 + 1, none⟩ = _ := (B.out.cell (p := ⟨bs, os + k * 9 + 1, none⟩) hbs).trans (hxc 1 _ rfl)
        have kx2 : wr.cell? ⟨bs, os + k * 9 + 2, none⟩ = _ := (B.out.cell (p := ⟨bs, os + k * 9 + 2, none⟩) hbs).trans (hxc 2 _ rfl)
        have kx3 : wr.cell? ⟨bs, os + k * 9 + 3, none⟩ = _ := (B.out.cell (p := ⟨bs, os + k * 9 + 3, none⟩) hbs).trans (hxc 3 _ rfl)
        have kx4 : wr.cell? ⟨bs, os + k * 9 + 4, none⟩ = _ := (B.out.cell (p := ⟨bs, os + k * 9 + 4, none⟩) hbs).trans (hxc 4 _ rfl)
        have kx5 : wr.cell? ⟨bs, os + k * 9 + 5, none⟩ = _ := (B.out.cell (p := ⟨bs, os + k * 9 + 5, none⟩) hbs).trans (hxc 5 _ rfl)
        have kx6 : wr.cell? ⟨bs, os + k * 9 + 6, none⟩ = _ := (B.out.cell (p := ⟨bs, os + k * 9 + 6, none⟩) hbs).trans (hxc 6 _ rfl)
        have kx7 : wr.cell? ⟨bs, os + k * 9 + 7, none⟩ = _ := (B.out.cell (p := ⟨bs, os + k * 9 + 7, none⟩) hbs).trans (hxc 7 _ rfl)
        have kx8 : wr.cell? ⟨bs, os + k * 9 + 8, none⟩ = _ := (B.out.cell (p := ⟨bs, os + k * 9 + 8, none⟩) hbs).trans (hxc 8 _ rfl)
        obtain ⟨c, hc⟩ : ∃ c, okE X = c := ⟨_, rfl⟩
        have HC := Kept.mk hc
        clear hX hall hxc hxp hxm ea2 hc
        go_wp2_with fail
        refine (zcf1 X c _ _ (zfo HXP.out HXM.out B.out) FX.out HC.out).mono ?_
        rintro e W1 ⟨rfl, hb⟩
        replace B := Kept.mk (B.out.trans (hb.mono B.out.size))
        clear hb kx0 kx1 kx2 kx3 kx4 kx5 kx6 kx7 kx8
        cases c with
        | false =>
          have HF := Kept.mk (show S = false by rw [← HS.out]; exact zwt HX.out HC.out)
          go_wp2
          go_ret
          exact ⟨by rw [HF.out]; rfl, B.out⟩
        | true =>
          go_wp2
          go_loopw [4] (fun JV WZ => ∃ j : Nat, j ≤ k ∧ JV = .int .i64 (j : Int) ∧ Kept (∀ m y, m < j → l[m]? = some y → nameB X y = false) ∧ Kept (Below w.heap.size w WZ)) (fun JV _ => k - (intOf JV).toNat)
          case atStart => exact ⟨0, Nat.zero_le _, rfl, ⟨fun m y h => absurd h (Nat.not_lt_zero _)⟩, B⟩
          case round =>
            clear B
            obtain ⟨j, hj, rfl, AJ, B⟩ := hrel
            by_cases hjk : j < k
            · have hjk' : (j : Int) < (k : Int) := by omega
              obtain ⟨Y, hY⟩ : ∃ Y, l[j]? = some Y := ⟨_, List.getElem?_eq_getElem (by rw [HN.out]; omega)⟩
              have HY := Kept.mk hY
              obtain ⟨yp, ym, hyc, hyp, hym⟩ := HALL.out j Y hY
              have HYC := Kept.mk hyc
              obtain ⟨z, hz⟩ : ∃ z, nameB X Y = z := ⟨_, rfl⟩
              have HZ := Kept.mk hz
              have hsw := B.out.size
              clear hY hyc hz
              go_wp2
              refine zqi _ _ _ rfl k j n bs os vc z X Y xp xm yp ym rfl rfl rfl hlt (by omega) (by omega) (fun jj x hx => (B.out.cell (p := ⟨bs, os + k * 9 + jj, none⟩) hbs).trans (HXC.out jj x hx)) (fun jj x hx => (B.out.cell (p := ⟨bs, os + j * 9 + jj, none⟩) hbs).trans (HYC.out jj x hx)) (zac _ _ _ _ HXP.out B.out) (zac _ _ _ _ HXM.out B.out) (zac _ _ _ _ hyp B.out) (zac _ _ _ _ hym B.out) HZ.out ?_
              intro f9 W9 d30 hb9
              simp only [List.foldl_cons, List.foldl_nil, d30]
              generalize f9 22 = y22
              generalize f9 23 = y23
              generalize f9 24 = y24
              generalize f9 25 = y25
              generalize f9 26 = y26
              generalize f9 27 = y27
              generalize f9 28 = y28
              generalize f9 29 = y29
              clear d30
              simp only [List.setIfInBounds_toArray, List.set_cons_succ, List.set_cons_zero]
              replace B := Kept.mk (B.out.trans (hb9.mono hsw))
              clear hb9 hyp hym HYC
              cases z with
              | true =>
                have HF := Kept.mk (show S = false by rw [← HS.out]; exact zsj HX.out HY.out hjk HZ.out)
                go_wp2
                go_ret
                exact ⟨by rw [HF.out]; rfl, B.out⟩
              | false =>
                go_wp2
                go_roundw
                case rel =>
                  refine ⟨j + 1, by omega, by go_num, ⟨fun m y hm hy => ?_⟩, B⟩
                  by_cases e : m = j
                  · subst e; rw [HY.out] at hy; injection hy with hy; rw [← hy]; exact HZ.out
                  · exact AJ.out m y (by omega) hy
                case measure => simp [intOf]; omega
            · have hjk' : ¬ (j : Int) < (k : Int) := by omega
              go_wp2
              go_roundw
              case rel =>
                refine ⟨k + 1, by omega, by go_num, ⟨?_⟩, B⟩
                rw [List.take_add_one, HX.out]
                refine slots_snoc.2 ⟨A.out, HC.out, fun y hy => ?_⟩
                obtain ⟨m, hm⟩ := List.getElem?_of_mem hy
                have hmk : m < k := by have := (List.getElem?_eq_some_iff.1 hm).1; rw [List.length_take] at this; omega
                rw [List.getElem?_take_of_lt hmk] at hm
                exact AJ.out m y (by omega) hm
              case measure => simp [intOf]; omega
    · have hlt' : ¬ (k : Int) < (n : Int) := by omega
      have HF := Kept.mk (show S = true by rw [← HS.out, ← A.out, List.take_of_length_le (by rw [HN.out]; omega)])
      go_wp2
      go_ret
      exact ⟨by rw [HF.out]; rfl, B.out⟩
theorem zsg {f : FuncId} {vs : Array Value} {w : World} {r : Value} (h : Calls Tryz.prog f vs w fun e w' => e = .returned r ∧ Below w.heap.size w w') : Calls Tryz.prog f vs w fun e w' => ∃ x, e = .returned x ∧ isVal r x w' ∧ Below w.heap.size w w' := h.mono (by rintro e w' ⟨rfl, hb⟩; exact ⟨_, rfl, rfl, hb⟩)
theorem zpz (l : List En) (r : Bool) (v : Value) (w : World) (hv : isEns l v w) (hl : l.length ≤ 1000) (fl : ∀ e ∈ l, FitE e) (hr : slotsB l = r) : Calls Tryz.prog 62 #[v] w fun e w' => e = .returned (.bool r) ∧ Below w.heap.size w w' := by subst hr; exact zvd l v w hv hl fl
theorem zqe (l : List En) (v : Value) (w : World) (hv : isEns l v w) (hl : l.length ≤ 1000) : Calls Tryz.prog 64 #[v] w fun e w' => ∃ x, e = .returned x ∧ isCells ((idxM l).map intC) x w' ∧ Below w.heap.size w w' :=
  (zru l v w hv hl).mono (by rintro e w' ⟨v', rfl, h1, hb⟩; exact ⟨_, rfl, h1.cells, hb⟩)
theorem zbz1 (a b : List Int) (r : Bool) (v u : Value) (w : World) (hv : isCells (a.map intC) v w) (hu : isCells (b.map intC) u w) (ha : a.length ≤ 100000) (hb : b.length ≤ 100000) (hr : decide (a = b) = r) : Calls Tryz.prog 63 #[v, u] w fun e w' => e = .returned (.bool r) ∧ Below w.heap.size w w' := by subst hr; exact zhb a b v u w hv hu (by omega) (by omega)
theorem zld {P : Program} (t : TypeId) (k : IntKind) (x y : Int) (b : Bool) (h : decide (y ≤ x) = b) (w : World) : (binOp .geq t (.int k x) (.int k y)).run P w = .ok (.bool b) w := by subst h; simp [go_sem]
theorem zgr {P : Program} (t : TypeId) (k : IntKind) (x y : Int) (b : Bool) (h : decide (x ≤ y) = b) (w : World) : (binOp .leq t (.int k x) (.int k y)).run P w = .ok (.bool b) w := by subst h; simp [go_sem]
noncomputable def rck0Ops : Array Oper := zat Tryz.f35 1
theorem zqf (Q : Exit → Act → World → Prop) (a0 : Act) (w0 : World) (hsz : a0.tmps.size = 32) (g n sc : Nat) (c : Int) (sa : Option Addr) (vi : Value) (L : List En) (idx : List Int) (z : Bool) (e1 : a0.tmps.getD 1 undef = .pointer (some ⟨g, 0, none⟩)) (HG : CellsN w0 g [.int .i64 c, .slice sa n sc, vi]) (hs : isEns L (.slice sa n sc) w0) (hi : isCells (idx.map intC) vi w0) (hL : L.length ≤ 1000) (hI : idx.length ≤ 100000) (fL : ∀ e ∈ L, FitE e) (h1 : decide (1 ≤ c) = false)
    (hQ : ∀ (g : Nat → Value) (w : World), g 2 = .bool false → Below w0.heap.size w0 w → Q .normal { tmps := [3, 4, 5, 6, 7, 8, 9, 10, 11, 12, 13, 14, 15, 16, 17, 18, 19, 20, 21, 22, 23, 24, 25, 26, 27, 28, 29, 30, 31, 2].foldl (fun t s => t.setIfInBounds s (g s)) a0.tmps, defers := a0.defers } w) :
    (Code.region 1 rck0Ops true).wp Tryz.prog Q a0 w0 := by
  refine zam mixed (by rw [hsz]; kernel_rfl) ?_
  rw [show rck0Ops.size = 30 by kernel_rfl]
  refine ⟨isVal (.pointer (some ⟨g, 0, none⟩)), zah 25 (.tmp 1) 0 ⟨g, 0, none⟩ ⟨g, 0, none⟩ (by kernel_rfl) (zaa (by kernel_rfl)) (zaf 1 (.pointer (some ⟨g, 0, none⟩)) (by kernel_rfl) e1) (zcv (g)), ?_⟩
  refine ⟨isVal (.int .i64 c), zaj 3 (.tmp 3) ⟨g, 0, none⟩ (.int .i64 c) (by kernel_rfl) (zaa (by kernel_rfl)) (zab (V := isVal (.pointer (some ⟨g, 0, none⟩))) 3 0 (by kernel_rfl) (by kernel_rfl) (by kernel_rfl)) (HG.2 0 _ rfl) (HG.1) (zbr), ?_⟩
  refine ⟨isVal (.bool false), zas .geq 3 3 (.tmp 4) (.const (.int .i64 1)) (.int .i64 c) (.int .i64 1) (.bool false) (by kernel_rfl) (zaa (by kernel_rfl)) (zab (V := isVal (.int .i64 c)) 4 1 (by kernel_rfl) (by kernel_rfl) (by kernel_rfl)) (zak _) (fun _ => rfl) (zld _ _ _ _ _ h1), ?_⟩
  refine ⟨isVal (.bool false), zag (.tmp 5) (by kernel_rfl) (zaa (by kernel_rfl)) (zad _) (zab (V := isVal (.bool false)) 5 2 (by kernel_rfl) (by kernel_rfl) (by kernel_rfl)), ?_⟩
  refine ⟨_, zai 3 6 true false (by kernel_rfl) (by kernel_rfl) (by kernel_rfl) (by kernel_rfl) rfl, ?_⟩
  refine ⟨_, zai 3 6 true false (by kernel_rfl) (by kernel_rfl) (by kernel_rfl) (by kernel_rfl) rfl, ?_⟩
  refine ⟨_, zai 3 6 true false (by kernel_rfl) (by kernel_rfl) (by kernel_rfl) (by kernel_rfl) rfl, ?_⟩
  refine ⟨isVal (.bool false), zaq (.tmp 6) (.tmp 9) (.const (.bool false)) false (by kernel_rfl) (zaa (by kernel_rfl)) (zad _) (zab (V := isVal (.bool false)) 6 3 (by kernel_rfl) (by kernel_rfl) (by kernel_rfl)) (zak _), ?_⟩
  refine ⟨isVal (.bool false), zag (.tmp 10) (by kernel_rfl) (zaa (by kernel_rfl)) (zad _) (zab (V := isVal (.bool false)) 10 7 (by kernel_rfl) (by kernel_rfl) (by kernel_rfl)), ?_⟩
  refine ⟨_, zai 8 11 true false (by kernel_rfl) (by kernel_rfl) (by kernel_rfl) (by kernel_rfl) rfl, ?_⟩
  refine ⟨_, zai 8 11 true false (by kernel_rfl) (by kernel_rfl) (by kernel_rfl) (by kernel_rfl) rfl, ?_⟩
  refine ⟨_, zai 8 11 true false (by kernel_rfl) (by kernel_rfl) (by kernel_rfl) (by kernel_rfl) rfl, ?_⟩
  refine ⟨_, zai 8 11 true false (by kernel_rfl) (by kernel_rfl) (by kernel_rfl) (by kernel_rfl) rfl, ?_⟩
  refine ⟨_, zai 8 11 true false (by kernel_rfl) (by kernel_rfl) (by kernel_rfl) (by kernel_rfl) rfl, ?_⟩
  refine ⟨_, zai 8 11 true false (by kernel_rfl) (by kernel_rfl) (by kernel_rfl) (by kernel_rfl) rfl, ?_⟩
  refine ⟨isVal (.bool false), zaq (.tmp 11) (.tmp 17) (.const (.bool false)) false (by kernel_rfl) (zaa (by kernel_rfl)) (zad _) (zab (V := isVal (.bool false)) 11 8 (by kernel_rfl) (by kernel_rfl) (by kernel_rfl)) (zak _), ?_⟩
  refine ⟨isVal (.bool false), zag (.tmp 18) (by kernel_rfl) (zaa (by kernel_rfl)) (zad _) (zab (V := isVal (.bool false)) 18 15 (by kernel_rfl) (by kernel_rfl) (by kernel_rfl)), ?_⟩
  refine ⟨_, zai 16 19 true false (by kernel_rfl) (by kernel_rfl) (by kernel_rfl) (by kernel_rfl) rfl, ?_⟩
  refine ⟨_, zai 16 19 true false (by kernel_rfl) (by kernel_rfl) (by kernel_rfl) (by kernel_rfl) rfl, ?_⟩
  refine ⟨_, zai 16 19 true false (by kernel_rfl) (by kernel_rfl) (by kernel_rfl) (by kernel_rfl) rfl, ?_⟩
  refine ⟨isVal (.bool false), zaq (.tmp 19) (.tmp 22) (.const (.bool false)) false (by kernel_rfl) (zaa (by kernel_rfl)) (zad _) (zab (V := isVal (.bool false)) 19 16 (by kernel_rfl) (by kernel_rfl) (by kernel_rfl)) (zak _), ?_⟩
  refine ⟨isVal (.bool false), zag (.tmp 23) (by kernel_rfl) (zaa (by kernel_rfl)) (zad _) (zab (V := isVal (.bool false)) 23 20 (by kernel_rfl) (by kernel_rfl) (by kernel_rfl)), ?_⟩
  refine ⟨_, zai 21 24 true false (by kernel_rfl) (by kernel_rfl) (by kernel_rfl) (by kernel_rfl) rfl, ?_⟩
  refine ⟨_, zai 21 24 true false (by kernel_rfl) (by kernel_rfl) (by kernel_rfl) (by kernel_rfl) rfl, ?_⟩
  refine ⟨_, zai 21 24 true false (by kernel_rfl) (by kernel_rfl) (by kernel_rfl) (by kernel_rfl) rfl, ?_⟩
  refine ⟨_, zai 21 24 true false (by kernel_rfl) (by kernel_rfl) (by kernel_rfl) (by kernel_rfl) rfl, ?_⟩
  refine ⟨_, zai 21 24 true false (by kernel_rfl) (by kernel_rfl) (by kernel_rfl) (by kernel_rfl) rfl, ?_⟩
  refine ⟨_, zai 21 24 true false (by kernel_rfl) (by kernel_rfl) (by kernel_rfl) (by kernel_rfl) rfl, ?_⟩
  refine ⟨isVal (.bool false), zaq (.tmp 24) (.tmp 30) (.const (.bool false)) false (by kernel_rfl) (zaa (by kernel_rfl)) (zad _) (zab (V := isVal (.bool false)) 24 21 (by kernel_rfl) (by kernel_rfl) (by kernel_rfl)) (zak _), ?_⟩
  refine ⟨isVal (.bool false), zau (.tmp 31) (by kernel_rfl) (zaa (by kernel_rfl)) (zad _) (zab (V := isVal (.bool false)) 31 28 (by kernel_rfl) (by kernel_rfl) (by kernel_rfl)), ?_⟩
  intro a w hkp hb hd
  rw [zbg hkp [some 3, some 4, some 5, some 6, some 7, some 8, some 9, some 10, some 11, some 12, some 13, some 14, some 15, some 16, some 17, some 18, some 19, some 20, some 21, some 22, some 23, some 24, some 25, some 26, some 27, some 28, some 29, some 30, some 31, some 2] [3, 4, 5, 6, 7, 8, 9, 10, 11, 12, 13, 14, 15, 16, 17, 18, 19, 20, 21, 22, 23, 24, 25, 26, 27, 28, 29, 30, 31, 2] (by kernel_rfl) (by decide)]
  have d2 := zal (hd 29 (by rw [show rck0Ops.size = 30 by kernel_rfl]; decide)) (t := 2) (V := isVal (.bool false)) (by kernel_rfl) (by kernel_rfl)
  exact hQ (fun s => a.tmps.getD s undef) w d2 hb
noncomputable def rck1Ops : Array Oper := zat Tryz.f35 1
theorem zrr (Q : Exit → Act → World → Prop) (a0 : Act) (w0 : World) (hsz : a0.tmps.size = 32) (g n sc : Nat) (c : Int) (sa : Option Addr) (vi : Value) (L : List En) (idx : List Int) (z : Bool) (e1 : a0.tmps.getD 1 undef = .pointer (some ⟨g, 0, none⟩)) (HG : CellsN w0 g [.int .i64 c, .slice sa n sc, vi]) (hs : isEns L (.slice sa n sc) w0) (hi : isCells (idx.map intC) vi w0) (hL : L.length ≤ 1000) (hI : idx.length ≤ 100000) (fL : ∀ e ∈ L, FitE e) (h1 : decide (1 ≤ c) = true) (h2 : decide (c ≤ 8) = false)
    (hQ : ∀ (g : Nat → Value) (w : World), g 2 = .bool false → Below w0.heap.size w0 w → Q .normal { tmps := [3, 4, 5, 6, 7, 8, 9, 10, 11, 12, 13, 14, 15, 16, 17, 18, 19, 20, 21, 22, 23, 24, 25, 26, 27, 28, 29, 30, 31, 2].foldl (fun t s => t.setIfInBounds s (g s)) a0.tmps, defers := a0.defers } w) :
    (Code.region 1 rck1Ops true).wp Tryz.prog Q a0 w0 := by
  refine zam mixed (by rw [hsz]; kernel_rfl) ?_
  rw [show rck1Ops.size = 30 by kernel_rfl]
  refine ⟨isVal (.pointer (some ⟨g, 0, none⟩)), zah 25 (.tmp 1) 0 ⟨g, 0, none⟩ ⟨g, 0, none⟩ (by kernel_rfl) (zaa (by kernel_rfl)) (zaf 1 (.pointer (some ⟨g, 0, none⟩)) (by kernel_rfl) e1) (zcv (g)), ?_⟩
  refine ⟨isVal (.int .i64 c), zaj 3 (.tmp 3) ⟨g, 0, none⟩ (.int .i64 c) (by kernel_rfl) (zaa (by kernel_rfl)) (zab (V := isVal (.pointer (some ⟨g, 0, none⟩))) 3 0 (by kernel_rfl) (by kernel_rfl) (by kernel_rfl)) (HG.2 0 _ rfl) (HG.1) (zbr), ?_⟩
  refine ⟨isVal (.bool true), zas .geq 3 3 (.tmp 4) (.const (.int .i64 1)) (.int .i64 c) (.int .i64 1) (.bool true) (by kernel_rfl) (zaa (by kernel_rfl)) (zab (V := isVal (.int .i64 c)) 4 1 (by kernel_rfl) (by kernel_rfl) (by kernel_rfl)) (zak _) (fun _ => rfl) (zld _ _ _ _ _ h1), ?_⟩
  refine ⟨isVal (.bool true), zag (.tmp 5) (by kernel_rfl) (zaa (by kernel_rfl)) (zad _) (zab (V := isVal (.bool true)) 5 2 (by kernel_rfl) (by kernel_rfl) (by kernel_rfl)), ?_⟩
  refine ⟨isVal (.pointer (some ⟨g, 0, none⟩)), zah 25 (.tmp 1) 0 ⟨g, 0, none⟩ ⟨g, 0, none⟩ (by kernel_rfl) (zae 3 6 true (by kernel_rfl) (by kernel_rfl) (by kernel_rfl) (by kernel_rfl)) (zaf 1 (.pointer (some ⟨g, 0, none⟩)) (by kernel_rfl) e1) (zcv (g)), ?_⟩
  refine ⟨isVal (.int .i64 c), zaj 3 (.tmp 7) ⟨g, 0, none⟩ (.int .i64 c) (by kernel_rfl) (zae 3 6 true (by kernel_rfl) (by kernel_rfl) (by kernel_rfl) (by kernel_rfl)) (zab (V := isVal (.pointer (some ⟨g, 0, none⟩))) 7 4 (by kernel_rfl) (by kernel_rfl) (by kernel_rfl)) (HG.2 0 _ rfl) (HG.1) (zbr), ?_⟩
  refine ⟨isVal (.bool false), zas .leq 3 3 (.tmp 8) (.const (.int .i64 8)) (.int .i64 c) (.int .i64 8) (.bool false) (by kernel_rfl) (zae 3 6 true (by kernel_rfl) (by kernel_rfl) (by kernel_rfl) (by kernel_rfl)) (zab (V := isVal (.int .i64 c)) 8 5 (by kernel_rfl) (by kernel_rfl) (by kernel_rfl)) (zak _) (fun _ => rfl) (zgr _ _ _ _ _ h2), ?_⟩
  refine ⟨isVal (.bool false), zaq (.tmp 6) (.tmp 9) (.const (.bool false)) true (by kernel_rfl) (zaa (by kernel_rfl)) (zad _) (zab (V := isVal (.bool true)) 6 3 (by kernel_rfl) (by kernel_rfl) (by kernel_rfl)) (zab (V := isVal (.bool false)) 9 6 (by kernel_rfl) (by kernel_rfl) (by kernel_rfl)), ?_⟩
  refine ⟨isVal (.bool false), zag (.tmp 10) (by kernel_rfl) (zaa (by kernel_rfl)) (zad _) (zab (V := isVal (.bool false)) 10 7 (by kernel_rfl) (by kernel_rfl) (by kernel_rfl)), ?_⟩
  refine ⟨_, zai 8 11 true false (by kernel_rfl) (by kernel_rfl) (by kernel_rfl) (by kernel_rfl) rfl, ?_⟩
  refine ⟨_, zai 8 11 true false (by kernel_rfl) (by kernel_rfl) (by kernel_rfl) (by kernel_rfl) rfl, ?_⟩
  refine ⟨_, zai 8 11 true false (by kernel_rfl) (by kernel_rfl) (by kernel_rfl) (by kernel_rfl) rfl, ?_⟩
  refine ⟨_, zai 8 11 true false (by kernel_rfl) (by kernel_rfl) (by kernel_rfl) (by kernel_rfl) rfl, ?_⟩
  refine ⟨_, zai 8 11 true false (by kernel_rfl) (by kernel_rfl) (by kernel_rfl) (by kernel_rfl) rfl, ?_⟩
  refine ⟨_, zai 8 11 true false (by kernel_rfl) (by kernel_rfl) (by kernel_rfl) (by kernel_rfl) rfl, ?_⟩
  refine ⟨isVal (.bool false), zaq (.tmp 11) (.tmp 17) (.const (.bool false)) false (by kernel_rfl) (zaa (by kernel_rfl)) (zad _) (zab (V := isVal (.bool false)) 11 8 (by kernel_rfl) (by kernel_rfl) (by kernel_rfl)) (zak _), ?_⟩
  refine ⟨isVal (.bool false), zag (.tmp 18) (by kernel_rfl) (zaa (by kernel_rfl)) (zad _) (zab (V := isVal (.bool false)) 18 15 (by kernel_rfl) (by kernel_rfl) (by kernel_rfl)), ?_⟩
  refine ⟨_, zai 16 19 true false (by kernel_rfl) (by kernel_rfl) (by kernel_rfl) (by kernel_rfl) rfl, ?_⟩
  refine ⟨_, zai 16 19 true false (by kernel_rfl) (by kernel_rfl) (by kernel_rfl) (by kernel_rfl) rfl, ?_⟩
  refine ⟨_, zai 16 19 true false (by kernel_rfl) (by kernel_rfl) (by kernel_rfl) (by kernel_rfl) rfl, ?_⟩
  refine ⟨isVal (.bool false), zaq (.tmp 19) (.tmp 22) (.const (.bool false)) false (by kernel_rfl) (zaa (by kernel_rfl)) (zad _) (zab (V := isVal (.bool false)) 19 16 (by kernel_rfl) (by kernel_rfl) (by kernel_rfl)) (zak _), ?_⟩
  refine ⟨isVal (.bool false), zag (.tmp 23) (by kernel_rfl) (zaa (by kernel_rfl)) (zad _) (zab (V := isVal (.bool false)) 23 20 (by kernel_rfl) (by kernel_rfl) (by kernel_rfl)), ?_⟩
  refine ⟨_, zai 21 24 true false (by kernel_rfl) (by kernel_rfl) (by kernel_rfl) (by kernel_rfl) rfl, ?_⟩
  refine ⟨_, zai 21 24 true false (by kernel_rfl) (by kernel_rfl) (by kernel_rfl) (by kernel_rfl) rfl, ?_⟩
  refine ⟨_, zai 21 24 true false (by kernel_rfl) (by kernel_rfl) (by kernel_rfl) (by kernel_rfl) rfl, ?_⟩
  refine ⟨_, zai 21 24 true false (by kernel_rfl) (by kernel_rfl) (by kernel_rfl) (by kernel_rfl) rfl, ?_⟩
  refine ⟨_, zai 21 24 true false (by kernel_rfl) (by kernel_rfl) (by kernel_rfl) (by kernel_rfl) rfl, ?_⟩
  refine ⟨_, zai 21 24 true false (by kernel_rfl) (by kernel_rfl) (by kernel_rfl) (by kernel_rfl) rfl, ?_⟩
  refine ⟨isVal (.bool false), zaq (.tmp 24) (.tmp 30) (.const (.bool false)) false (by kernel_rfl) (zaa (by kernel_rfl)) (zad _) (zab (V := isVal (.bool false)) 24 21 (by kernel_rfl) (by kernel_rfl) (by kernel_rfl)) (zak _), ?_⟩
  refine ⟨isVal (.bool false), zau (.tmp 31) (by kernel_rfl) (zaa (by kernel_rfl)) (zad _) (zab (V := isVal (.bool false)) 31 28 (by kernel_rfl) (by kernel_rfl) (by kernel_rfl)), ?_⟩
  intro a w hkp hb hd
  rw [zbg hkp [some 3, some 4, some 5, some 6, some 7, some 8, some 9, some 10, some 11, some 12, some 13, some 14, some 15, some 16, some 17, some 18, some 19, some 20, some 21, some 22, some 23, some 24, some 25, some 26, some 27, some 28, some 29, some 30, some 31, some 2] [3, 4, 5, 6, 7, 8, 9, 10, 11, 12, 13, 14, 15, 16, 17, 18, 19, 20, 21, 22, 23, 24, 25, 26, 27, 28, 29, 30, 31, 2] (by kernel_rfl) (by decide)]
  have d2 := zal (hd 29 (by rw [show rck1Ops.size = 30 by kernel_rfl]; decide)) (t := 2) (V := isVal (.bool false)) (by kernel_rfl) (by kernel_rfl)
  exact hQ (fun s => a.tmps.getD s undef) w d2 hb
noncomputable def rck2Ops : Array Oper := zat Tryz.f35 1
theorem zrw (Q : Exit → Act → World → Prop) (a0 : Act) (w0 : World) (hsz : a0.tmps.size = 32) (g n sc : Nat) (c : Int) (sa : Option Addr) (vi : Value) (L : List En) (idx : List Int) (z : Bool) (e1 : a0.tmps.getD 1 undef = .pointer (some ⟨g, 0, none⟩)) (HG : CellsN w0 g [.int .i64 c, .slice sa n sc, vi]) (hs : isEns L (.slice sa n sc) w0) (hi : isCells (idx.map intC) vi w0) (hL : L.length ≤ 1000) (hI : idx.length ≤ 100000) (fL : ∀ e ∈ L, FitE e) (h1 : decide (1 ≤ c) = true) (h2 : decide (c ≤ 8) = true) (h3 : decide ((n : Int) ≤ c) = false)
    (hQ : ∀ (g : Nat → Value) (w : World), g 2 = .bool false → Below w0.heap.size w0 w → Q .normal { tmps := [3, 4, 5, 6, 7, 8, 9, 10, 11, 12, 13, 14, 15, 16, 17, 18, 19, 20, 21, 22, 23, 24, 25, 26, 27, 28, 29, 30, 31, 2].foldl (fun t s => t.setIfInBounds s (g s)) a0.tmps, defers := a0.defers } w) :
    (Code.region 1 rck2Ops true).wp Tryz.prog Q a0 w0 := by
  refine zam mixed (by rw [hsz]; kernel_rfl) ?_
  rw [show rck2Ops.size = 30 by kernel_rfl]
  refine ⟨isVal (.pointer (some ⟨g, 0, none⟩)), zah 25 (.tmp 1) 0 ⟨g, 0, none⟩ ⟨g, 0, none⟩ (by kernel_rfl) (zaa (by kernel_rfl)) (zaf 1 (.pointer (some ⟨g, 0, none⟩)) (by kernel_rfl) e1) (zcv (g)), ?_⟩
  refine ⟨isVal (.int .i64 c), zaj 3 (.tmp 3) ⟨g, 0, none⟩ (.int .i64 c) (by kernel_rfl) (zaa (by kernel_rfl)) (zab (V := isVal (.pointer (some ⟨g, 0, none⟩))) 3 0 (by kernel_rfl) (by kernel_rfl) (by kernel_rfl)) (HG.2 0 _ rfl) (HG.1) (zbr), ?_⟩
  refine ⟨isVal (.bool true), zas .geq 3 3 (.tmp 4) (.const (.int .i64 1)) (.int .i64 c) (.int .i64 1) (.bool true) (by kernel_rfl) (zaa (by kernel_rfl)) (zab (V := isVal (.int .i64 c)) 4 1 (by kernel_rfl) (by kernel_rfl) (by kernel_rfl)) (zak _) (fun _ => rfl) (zld _ _ _ _ _ h1), ?_⟩
  refine ⟨isVal (.bool true), zag (.tmp 5) (by kernel_rfl) (zaa (by kernel_rfl)) (zad _) (zab (V := isVal (.bool true)) 5 2 (by kernel_rfl) (by kernel_rfl) (by kernel_rfl)), ?_⟩
  refine ⟨isVal (.pointer (some ⟨g, 0, none⟩)), zah 25 (.tmp 1) 0 ⟨g, 0, none⟩ ⟨g, 0, none⟩ (by kernel_rfl) (zae 3 6 true (by kernel_rfl) (by kernel_rfl) (by kernel_rfl) (by kernel_rfl)) (zaf 1 (.pointer (some ⟨g, 0, none⟩)) (by kernel_rfl) e1) (zcv (g)), ?_⟩
  refine ⟨isVal (.int .i64 c), zaj 3 (.tmp 7) ⟨g, 0, none⟩ (.int .i64 c) (by kernel_rfl) (zae 3 6 true (by kernel_rfl) (by kernel_rfl) (by kernel_rfl) (by kernel_rfl)) (zab (V := isVal (.pointer (some ⟨g, 0, none⟩))) 7 4 (by kernel_rfl) (by kernel_rfl) (by kernel_rfl)) (HG.2 0 _ rfl) (HG.1) (zbr), ?_⟩
  refine ⟨isVal (.bool true), zas .leq 3 3 (.tmp 8) (.const (.int .i64 8)) (.int .i64 c) (.int .i64 8) (.bool true) (by kernel_rfl) (zae 3 6 true (by kernel_rfl) (by kernel_rfl) (by kernel_rfl) (by kernel_rfl)) (zab (V := isVal (.int .i64 c)) 8 5 (by kernel_rfl) (by kernel_rfl) (by kernel_rfl)) (zak _) (fun _ => rfl) (zgr _ _ _ _ _ h2), ?_⟩
  refine ⟨isVal (.bool true), zaq (.tmp 6) (.tmp 9) (.const (.bool false)) true (by kernel_rfl) (zaa (by kernel_rfl)) (zad _) (zab (V := isVal (.bool true)) 6 3 (by kernel_rfl) (by kernel_rfl) (by kernel_rfl)) (zab (V := isVal (.bool true)) 9 6 (by kernel_rfl) (by kernel_rfl) (by kernel_rfl)), ?_⟩
  refine ⟨isVal (.bool true), zag (.tmp 10) (by kernel_rfl) (zaa (by kernel_rfl)) (zad _) (zab (V := isVal (.bool true)) 10 7 (by kernel_rfl) (by kernel_rfl) (by kernel_rfl)), ?_⟩
  refine ⟨isVal (.pointer (some ⟨g, 1, none⟩)), zah 25 (.tmp 1) 1 ⟨g, 0, none⟩ ⟨g, 1, none⟩ (by kernel_rfl) (zae 8 11 true (by kernel_rfl) (by kernel_rfl) (by kernel_rfl) (by kernel_rfl)) (zaf 1 (.pointer (some ⟨g, 0, none⟩)) (by kernel_rfl) e1) (zbs (g)), ?_⟩
  refine ⟨isVal (.slice sa n sc), zaj 22 (.tmp 12) ⟨g, 1, none⟩ (.slice sa n sc) (by kernel_rfl) (zae 8 11 true (by kernel_rfl) (by kernel_rfl) (by kernel_rfl) (by kernel_rfl)) (zab (V := isVal (.pointer (some ⟨g, 1, none⟩))) 12 9 (by kernel_rfl) (by kernel_rfl) (by kernel_rfl)) (HG.2 1 _ rfl) (HG.1) (zcn), ?_⟩
  refine ⟨isVal (.int .i64 (n : Int)), zds 22 (.tmp 13) (.slice sa n sc) (.int .i64 (n : Int)) (by kernel_rfl) (zae 8 11 true (by kernel_rfl) (by kernel_rfl) (by kernel_rfl) (by kernel_rfl)) (zab (V := isVal (.slice sa n sc)) 13 10 (by kernel_rfl) (by kernel_rfl) (by kernel_rfl)) ((fun ty w => by simp [Builtin.len_, run_underlying Tryz.underlying22]; rfl)), ?_⟩
  refine ⟨isVal (.pointer (some ⟨g, 0, none⟩)), zah 25 (.tmp 1) 0 ⟨g, 0, none⟩ ⟨g, 0, none⟩ (by kernel_rfl) (zae 8 11 true (by kernel_rfl) (by kernel_rfl) (by kernel_rfl) (by kernel_rfl)) (zaf 1 (.pointer (some ⟨g, 0, none⟩)) (by kernel_rfl) e1) (zcv (g)), ?_⟩
  refine ⟨isVal (.int .i64 c), zaj 3 (.tmp 15) ⟨g, 0, none⟩ (.int .i64 c) (by kernel_rfl) (zae 8 11 true (by kernel_rfl) (by kernel_rfl) (by kernel_rfl) (by kernel_rfl)) (zab (V := isVal (.pointer (some ⟨g, 0, none⟩))) 15 12 (by kernel_rfl) (by kernel_rfl) (by kernel_rfl)) (HG.2 0 _ rfl) (HG.1) (zbr), ?_⟩
  refine ⟨isVal (.bool false), zas .leq 3 3 (.tmp 14) (.tmp 16) (.int .i64 (n : Int)) (.int .i64 c) (.bool false) (by kernel_rfl) (zae 8 11 true (by kernel_rfl) (by kernel_rfl) (by kernel_rfl) (by kernel_rfl)) (zab (V := isVal (.int .i64 (n : Int))) 14 11 (by kernel_rfl) (by kernel_rfl) (by kernel_rfl)) (zab (V := isVal (.int .i64 c)) 16 13 (by kernel_rfl) (by kernel_rfl) (by kernel_rfl)) (fun _ => rfl) (zgr _ _ _ _ _ h3), ?_⟩
  refine ⟨isVal (.bool false), zaq (.tmp 11) (.tmp 17) (.const (.bool false)) true (by kernel_rfl) (zaa (by kernel_rfl)) (zad _) (zab (V := isVal (.bool true)) 11 8 (by kernel_rfl) (by kernel_rfl) (by kernel_rfl)) (zab (V := isVal (.bool false)) 17 14 (by kernel_rfl) (by kernel_rfl) (by kernel_rfl)), ?_⟩
  refine ⟨isVal (.bool false), zag (.tmp 18) (by kernel_rfl) (zaa (by kernel_rfl)) (zad _) (zab (V := isVal (.bool false)) 18 15 (by kernel_rfl) (by kernel_rfl) (by kernel_rfl)), ?_⟩
  refine ⟨_, zai 16 19 true false (by kernel_rfl) (by kernel_rfl) (by kernel_rfl) (by kernel_rfl) rfl, ?_⟩
  refine ⟨_, zai 16 19 true false (by kernel_rfl) (by kernel_rfl) (by kernel_rfl) (by kernel_rfl) rfl, ?_⟩
  refine ⟨_, zai 16 19 true false (by kernel_rfl) (by kernel_rfl) (by kernel_rfl) (by kernel_rfl) rfl, ?_⟩
  refine ⟨isVal (.bool false), zaq (.tmp 19) (.tmp 22) (.const (.bool false)) false (by kernel_rfl) (zaa (by kernel_rfl)) (zad _) (zab (V := isVal (.bool false)) 19 16 (by kernel_rfl) (by kernel_rfl) (by kernel_rfl)) (zak _), ?_⟩
  refine ⟨isVal (.bool false), zag (.tmp 23) (by kernel_rfl) (zaa (by kernel_rfl)) (zad _) (zab (V := isVal (.bool false)) 23 20 (by kernel_rfl) (by kernel_rfl) (by kernel_rfl)), ?_⟩
  refine ⟨_, zai 21 24 true false (by kernel_rfl) (by kernel_rfl) (by kernel_rfl) (by kernel_rfl) rfl, ?_⟩
  refine ⟨_, zai 21 24 true false (by kernel_rfl) (by kernel_rfl) (by kernel_rfl) (by kernel_rfl) rfl, ?_⟩
  refine ⟨_, zai 21 24 true false (by kernel_rfl) (by kernel_rfl) (by kernel_rfl) (by kernel_rfl) rfl, ?_⟩
  refine ⟨_, zai 21 24 true false (by kernel_rfl) (by kernel_rfl) (by kernel_rfl) (by kernel_rfl) rfl, ?_⟩
  refine ⟨_, zai 21 24 true false (by kernel_rfl) (by kernel_rfl) (by kernel_rfl) (by kernel_rfl) rfl, ?_⟩
  refine ⟨_, zai 21 24 true false (by kernel_rfl) (by kernel_rfl) (by kernel_rfl) (by kernel_rfl) rfl, ?_⟩
  refine ⟨isVal (.bool false), zaq (.tmp 24) (.tmp 30) (.const (.bool false)) false (by kernel_rfl) (zaa (by kernel_rfl)) (zad _) (zab (V := isVal (.bool false)) 24 21 (by kernel_rfl) (by kernel_rfl) (by kernel_rfl)) (zak _), ?_⟩
  refine ⟨isVal (.bool false), zau (.tmp 31) (by kernel_rfl) (zaa (by kernel_rfl)) (zad _) (zab (V := isVal (.bool false)) 31 28 (by kernel_rfl) (by kernel_rfl) (by kernel_rfl)), ?_⟩
  intro a w hkp hb hd
  rw [zbg hkp [some 3, some 4, some 5, some 6, some 7, some 8, some 9, some 10, some 11, some 12, some 13, some 14, some 15, some 16, some 17, some 18, some 19, some 20, some 21, some 22, some 23, some 24, some 25, some 26, some 27, some 28, some 29, some 30, some 31, some 2] [3, 4, 5, 6, 7, 8, 9, 10, 11, 12, 13, 14, 15, 16, 17, 18, 19, 20, 21, 22, 23, 24, 25, 26, 27, 28, 29, 30, 31, 2] (by kernel_rfl) (by decide)]
  have d2 := zal (hd 29 (by rw [show rck2Ops.size = 30 by kernel_rfl]; decide)) (t := 2) (V := isVal (.bool false)) (by kernel_rfl) (by kernel_rfl)
  exact hQ (fun s => a.tmps.getD s undef) w d2 hb
noncomputable def rck3Ops : Array Oper := zat Tryz.f35 1
theorem zsh (Q : Exit → Act → World → Prop) (a0 : Act) (w0 : World) (hsz : a0.tmps.size = 32) (g n sc : Nat) (c : Int) (sa : Option Addr) (vi : Value) (L : List En) (idx : List Int) (z : Bool) (e1 : a0.tmps.getD 1 undef = .pointer (some ⟨g, 0, none⟩)) (HG : CellsN w0 g [.int .i64 c, .slice sa n sc, vi]) (hs : isEns L (.slice sa n sc) w0) (hi : isCells (idx.map intC) vi w0) (hL : L.length ≤ 1000) (hI : idx.length ≤ 100000) (fL : ∀ e ∈ L, FitE e) (h1 : decide (1 ≤ c) = true) (h2 : decide (c ≤ 8) = true) (h3 : decide ((n : Int) ≤ c) = true) (h4 : slotsB L = false)
    (hQ : ∀ (g : Nat → Value) (w : World), g 2 = .bool false → Below w0.heap.size w0 w → Q .normal { tmps := [3, 4, 5, 6, 7, 8, 9, 10, 11, 12, 13, 14, 15, 16, 17, 18, 19, 20, 21, 22, 23, 24, 25, 26, 27, 28, 29, 30, 31, 2].foldl (fun t s => t.setIfInBounds s (g s)) a0.tmps, defers := a0.defers } w) :
    (Code.region 1 rck3Ops true).wp Tryz.prog Q a0 w0 := by
  refine zam mixed (by rw [hsz]; kernel_rfl) ?_
  rw [show rck3Ops.size = 30 by kernel_rfl]
  refine ⟨isVal (.pointer (some ⟨g, 0, none⟩)), zah 25 (.tmp 1) 0 ⟨g, 0, none⟩ ⟨g, 0, none⟩ (by kernel_rfl) (zaa (by kernel_rfl)) (zaf 1 (.pointer (some ⟨g, 0, none⟩)) (by kernel_rfl) e1) (zcv (g)), ?_⟩
  refine ⟨isVal (.int .i64 c), zaj 3 (.tmp 3) ⟨g, 0, none⟩ (.int .i64 c) (by kernel_rfl) (zaa (by kernel_rfl)) (zab (V := isVal (.pointer (some ⟨g, 0, none⟩))) 3 0 (by kernel_rfl) (by kernel_rfl) (by kernel_rfl)) (HG.2 0 _ rfl) (HG.1) (zbr), ?_⟩
  refine ⟨isVal (.bool true), zas .geq 3 3 (.tmp 4) (.const (.int .i64 1)) (.int .i64 c) (.int .i64 1) (.bool true) (by kernel_rfl) (zaa (by kernel_rfl)) (zab (V := isVal (.int .i64 c)) 4 1 (by kernel_rfl) (by kernel_rfl) (by kernel_rfl)) (zak _) (fun _ => rfl) (zld _ _ _ _ _ h1), ?_⟩
  refine ⟨isVal (.bool true), zag (.tmp 5) (by kernel_rfl) (zaa (by kernel_rfl)) (zad _) (zab (V := isVal (.bool true)) 5 2 (by kernel_rfl) (by kernel_rfl) (by kernel_rfl)), ?_⟩
  refine ⟨isVal (.pointer (some ⟨g, 0, none⟩)), zah 25 (.tmp 1) 0 ⟨g, 0, none⟩ ⟨g, 0, none⟩ (by kernel_rfl) (zae 3 6 true (by kernel_rfl) (by kernel_rfl) (by kernel_rfl) (by kernel_rfl)) (zaf 1 (.pointer (some ⟨g, 0, none⟩)) (by kernel_rfl) e1) (zcv (g)), ?_⟩
  refine ⟨isVal (.int .i64 c), zaj 3 (.tmp 7) ⟨g, 0, none⟩ (.int .i64 c) (by kernel_rfl) (zae 3 6 true (by kernel_rfl) (by kernel_rfl) (by kernel_rfl) (by kernel_rfl)) (zab (V := isVal (.pointer (some ⟨g, 0, none⟩))) 7 4 (by kernel_rfl) (by kernel_rfl) (by kernel_rfl)) (HG.2 0 _ rfl) (HG.1) (zbr), ?_⟩
  refine ⟨isVal (.bool true), zas .leq 3 3 (.tmp 8) (.const (.int .i64 8)) (.int .i64 c) (.int .i64 8) (.bool true) (by kernel_rfl) (zae 3 6 true (by kernel_rfl) (by kernel_rfl) (by kernel_rfl) (by kernel_rfl)) (zab (V := isVal (.int .i64 c)) 8 5 (by kernel_rfl) (by kernel_rfl) (by kernel_rfl)) (zak _) (fun _ => rfl) (zgr _ _ _ _ _ h2), ?_⟩
  refine ⟨isVal (.bool true), zaq (.tmp 6) (.tmp 9) (.const (.bool false)) true (by kernel_rfl) (zaa (by kernel_rfl)) (zad _) (zab (V := isVal (.bool true)) 6 3 (by kernel_rfl) (by kernel_rfl) (by kernel_rfl)) (zab (V := isVal (.bool true)) 9 6 (by kernel_rfl) (by kernel_rfl) (by kernel_rfl)), ?_⟩
  refine ⟨isVal (.bool true), zag (.tmp 10) (by kernel_rfl) (zaa (by kernel_rfl)) (zad _) (zab (V := isVal (.bool true)) 10 7 (by kernel_rfl) (by kernel_rfl) (by kernel_rfl)), ?_⟩
  refine ⟨isVal (.pointer (some ⟨g, 1, none⟩)), zah 25 (.tmp 1) 1 ⟨g, 0, none⟩ ⟨g, 1, none⟩ (by kernel_rfl) (zae 8 11 true (by kernel_rfl) (by kernel_rfl) (by kernel_rfl) (by kernel_rfl)) (zaf 1 (.pointer (some ⟨g, 0, none⟩)) (by kernel_rfl) e1) (zbs (g)), ?_⟩
  refine ⟨isVal (.slice sa n sc), zaj 22 (.tmp 12) ⟨g, 1, none⟩ (.slice sa n sc) (by kernel_rfl) (zae 8 11 true (by kernel_rfl) (by kernel_rfl) (by kernel_rfl) (by kernel_rfl)) (zab (V := isVal (.pointer (some ⟨g, 1, none⟩))) 12 9 (by kernel_rfl) (by kernel_rfl) (by kernel_rfl)) (HG.2 1 _ rfl) (HG.1) (zcn), ?_⟩
  refine ⟨isVal (.int .i64 (n : Int)), zds 22 (.tmp 13) (.slice sa n sc) (.int .i64 (n : Int)) (by kernel_rfl) (zae 8 11 true (by kernel_rfl) (by kernel_rfl) (by kernel_rfl) (by kernel_rfl)) (zab (V := isVal (.slice sa n sc)) 13 10 (by kernel_rfl) (by kernel_rfl) (by kernel_rfl)) ((fun ty w => by simp [Builtin.len_, run_underlying Tryz.underlying22]; rfl)), ?_⟩
  refine ⟨isVal (.pointer (some ⟨g, 0, none⟩)), zah 25 (.tmp 1) 0 ⟨g, 0, none⟩ ⟨g, 0, none⟩ (by kernel_rfl) (zae 8 11 true (by kernel_rfl) (by kernel_rfl) (by kernel_rfl) (by kernel_rfl)) (zaf 1 (.pointer (some ⟨g, 0, none⟩)) (by kernel_rfl) e1) (zcv (g)), ?_⟩
  refine ⟨isVal (.int .i64 c), zaj 3 (.tmp 15) ⟨g, 0, none⟩ (.int .i64 c) (by kernel_rfl) (zae 8 11 true (by kernel_rfl) (by kernel_rfl) (by kernel_rfl) (by kernel_rfl)) (zab (V := isVal (.pointer (some ⟨g, 0, none⟩))) 15 12 (by kernel_rfl) (by kernel_rfl) (by kernel_rfl)) (HG.2 0 _ rfl) (HG.1) (zbr), ?_⟩
  refine ⟨isVal (.bool true), zas .leq 3 3 (.tmp 14) (.tmp 16) (.int .i64 (n : Int)) (.int .i64 c) (.bool true) (by kernel_rfl) (zae 8 11 true (by kernel_rfl) (by kernel_rfl) (by kernel_rfl) (by kernel_rfl)) (zab (V := isVal (.int .i64 (n : Int))) 14 11 (by kernel_rfl) (by kernel_rfl) (by kernel_rfl)) (zab (V := isVal (.int .i64 c)) 16 13 (by kernel_rfl) (by kernel_rfl) (by kernel_rfl)) (fun _ => rfl) (zgr _ _ _ _ _ h3), ?_⟩
  refine ⟨isVal (.bool true), zaq (.tmp 11) (.tmp 17) (.const (.bool false)) true (by kernel_rfl) (zaa (by kernel_rfl)) (zad _) (zab (V := isVal (.bool true)) 11 8 (by kernel_rfl) (by kernel_rfl) (by kernel_rfl)) (zab (V := isVal (.bool true)) 17 14 (by kernel_rfl) (by kernel_rfl) (by kernel_rfl)), ?_⟩
  refine ⟨isVal (.bool true), zag (.tmp 18) (by kernel_rfl) (zaa (by kernel_rfl)) (zad _) (zab (V := isVal (.bool true)) 18 15 (by kernel_rfl) (by kernel_rfl) (by kernel_rfl)), ?_⟩
  refine ⟨isVal (.pointer (some ⟨g, 1, none⟩)), zah 25 (.tmp 1) 1 ⟨g, 0, none⟩ ⟨g, 1, none⟩ (by kernel_rfl) (zae 16 19 true (by kernel_rfl) (by kernel_rfl) (by kernel_rfl) (by kernel_rfl)) (zaf 1 (.pointer (some ⟨g, 0, none⟩)) (by kernel_rfl) e1) (zbs (g)), ?_⟩
  refine ⟨isVal (.slice sa n sc), zaj 22 (.tmp 20) ⟨g, 1, none⟩ (.slice sa n sc) (by kernel_rfl) (zae 16 19 true (by kernel_rfl) (by kernel_rfl) (by kernel_rfl) (by kernel_rfl)) (zab (V := isVal (.pointer (some ⟨g, 1, none⟩))) 20 17 (by kernel_rfl) (by kernel_rfl) (by kernel_rfl)) (HG.2 1 _ rfl) (HG.1) (zcn), ?_⟩
  refine ⟨isVal (.bool false), zap 62 #[.tmp 21] #[22] #[.slice sa n sc] (by kernel_rfl) (zae 16 19 true (by kernel_rfl) (by kernel_rfl) (by kernel_rfl) (by kernel_rfl)) (zad _) (args1 (.tmp 21) (.slice sa n sc) (zab (V := isVal (.slice sa n sc)) 21 18 (by kernel_rfl) (by kernel_rfl) (by kernel_rfl))) (enters_of Tryz.func62 (by kernel_rfl) rfl) (by intro w' hb; exact zsg (zpz L false _ w' (zby _ _ _ _ hs hb) hL fL h4)), ?_⟩
  refine ⟨isVal (.bool false), zaq (.tmp 19) (.tmp 22) (.const (.bool false)) true (by kernel_rfl) (zaa (by kernel_rfl)) (zad _) (zab (V := isVal (.bool true)) 19 16 (by kernel_rfl) (by kernel_rfl) (by kernel_rfl)) (zab (V := isVal (.bool false)) 22 19 (by kernel_rfl) (by kernel_rfl) (by kernel_rfl)), ?_⟩
  refine ⟨isVal (.bool false), zag (.tmp 23) (by kernel_rfl) (zaa (by kernel_rfl)) (zad _) (zab (V := isVal (.bool false)) 23 20 (by kernel_rfl) (by kernel_rfl) (by kernel_rfl)), ?_⟩
  refine ⟨_, zai 21 24 true false (by kernel_rfl) (by kernel_rfl) (by kernel_rfl) (by kernel_rfl) rfl, ?_⟩
  refine ⟨_, zai 21 24 true false (by kernel_rfl) (by kernel_rfl) (by kernel_rfl) (by kernel_rfl) rfl, ?_⟩
  refine ⟨_, zai 21 24 true false (by kernel_rfl) (by kernel_rfl) (by kernel_rfl) (by kernel_rfl) rfl, ?_⟩
  refine ⟨_, zai 21 24 true false (by kernel_rfl) (by kernel_rfl) (by kernel_rfl) (by kernel_rfl) rfl, ?_⟩
  refine ⟨_, zai 21 24 true false (by kernel_rfl) (by kernel_rfl) (by kernel_rfl) (by kernel_rfl) rfl, ?_⟩
  refine ⟨_, zai 21 24 true false (by kernel_rfl) (by kernel_rfl) (by kernel_rfl) (by kernel_rfl) rfl, ?_⟩
  refine ⟨isVal (.bool false), zaq (.tmp 24) (.tmp 30) (.const (.bool false)) false (by kernel_rfl) (zaa (by kernel_rfl)) (zad _) (zab (V := isVal (.bool false)) 24 21 (by kernel_rfl) (by kernel_rfl) (by kernel_rfl)) (zak _), ?_⟩
  refine ⟨isVal (.bool false), zau (.tmp 31) (by kernel_rfl) (zaa (by kernel_rfl)) (zad _) (zab (V := isVal (.bool false)) 31 28 (by kernel_rfl) (by kernel_rfl) (by kernel_rfl)), ?_⟩
  intro a w hkp hb hd
  rw [zbg hkp [some 3, some 4, some 5, some 6, some 7, some 8, some 9, some 10, some 11, some 12, some 13, some 14, some 15, some 16, some 17, some 18, some 19, some 20, some 21, some 22, some 23, some 24, some 25, some 26, some 27, some 28, some 29, some 30, some 31, some 2] [3, 4, 5, 6, 7, 8, 9, 10, 11, 12, 13, 14, 15, 16, 17, 18, 19, 20, 21, 22, 23, 24, 25, 26, 27, 28, 29, 30, 31, 2] (by kernel_rfl) (by decide)]
  have d2 := zal (hd 29 (by rw [show rck3Ops.size = 30 by kernel_rfl]; decide)) (t := 2) (V := isVal (.bool false)) (by kernel_rfl) (by kernel_rfl)
  exact hQ (fun s => a.tmps.getD s undef) w d2 hb
noncomputable def rck4Ops : Array Oper := zat Tryz.f35 1
theorem zqp (Q : Exit → Act → World → Prop) (a0 : Act) (w0 : World) (hsz : a0.tmps.size = 32) (g n sc : Nat) (c : Int) (sa : Option Addr) (vi : Value) (L : List En) (idx : List Int) (z : Bool) (e1 : a0.tmps.getD 1 undef = .pointer (some ⟨g, 0, none⟩)) (HG : CellsN w0 g [.int .i64 c, .slice sa n sc, vi]) (hs : isEns L (.slice sa n sc) w0) (hi : isCells (idx.map intC) vi w0) (hL : L.length ≤ 1000) (hI : idx.length ≤ 100000) (fL : ∀ e ∈ L, FitE e) (h1 : decide (1 ≤ c) = true) (h2 : decide (c ≤ 8) = true) (h3 : decide ((n : Int) ≤ c) = true) (h4 : slotsB L = true) (hz : decide (idx = idxM L) = z)
    (hQ : ∀ (g : Nat → Value) (w : World), g 2 = .bool z → Below w0.heap.size w0 w → Q .normal { tmps := [3, 4, 5, 6, 7, 8, 9, 10, 11, 12, 13, 14, 15, 16, 17, 18, 19, 20, 21, 22, 23, 24, 25, 26, 27, 28, 29, 30, 31, 2].foldl (fun t s => t.setIfInBounds s (g s)) a0.tmps, defers := a0.defers } w) :
    (Code.region 1 rck4Ops true).wp Tryz.prog Q a0 w0 := by
  refine zam mixed (by rw [hsz]; kernel_rfl) ?_
  rw [show rck4Ops.size = 30 by kernel_rfl]
  refine ⟨isVal (.pointer (some ⟨g, 0, none⟩)), zah 25 (.tmp 1) 0 ⟨g, 0, none⟩ ⟨g, 0, none⟩ (by kernel_rfl) (zaa (by kernel_rfl)) (zaf 1 (.pointer (some ⟨g, 0, none⟩)) (by kernel_rfl) e1) (zcv (g)), ?_⟩
  refine ⟨isVal (.int .i64 c), zaj 3 (.tmp 3) ⟨g, 0, none⟩ (.int .i64 c) (by kernel_rfl) (zaa (by kernel_rfl)) (zab (V := isVal (.pointer (some ⟨g, 0, none⟩))) 3 0 (by kernel_rfl) (by kernel_rfl) (by kernel_rfl)) (HG.2 0 _ rfl) (HG.1) (zbr), ?_⟩
  refine ⟨isVal (.bool true), zas .geq 3 3 (.tmp 4) (.const (.int .i64 1)) (.int .i64 c) (.int .i64 1) (.bool true) (by kernel_rfl) (zaa (by kernel_rfl)) (zab (V := isVal (.int .i64 c)) 4 1 (by kernel_rfl) (by kernel_rfl) (by kernel_rfl)) (zak _) (fun _ => rfl) (zld _ _ _ _ _ h1), ?_⟩
  refine ⟨isVal (.bool true), zag (.tmp 5) (by kernel_rfl) (zaa (by kernel_rfl)) (zad _) (zab (V := isVal (.bool true)) 5 2 (by kernel_rfl) (by kernel_rfl) (by kernel_rfl)), ?_⟩
  refine ⟨isVal (.pointer (some ⟨g, 0, none⟩)), zah 25 (.tmp 1) 0 ⟨g, 0, none⟩ ⟨g, 0, none⟩ (by kernel_rfl) (zae 3 6 true (by kernel_rfl) (by kernel_rfl) (by kernel_rfl) (by kernel_rfl)) (zaf 1 (.pointer (some ⟨g, 0, none⟩)) (by kernel_rfl) e1) (zcv (g)), ?_⟩
  refine ⟨isVal (.int .i64 c), zaj 3 (.tmp 7) ⟨g, 0, none⟩ (.int .i64 c) (by kernel_rfl) (zae 3 6 true (by kernel_rfl) (by kernel_rfl) (by kernel_rfl) (by kernel_rfl)) (zab (V := isVal (.pointer (some ⟨g, 0, none⟩))) 7 4 (by kernel_rfl) (by kernel_rfl) (by kernel_rfl)) (HG.2 0 _ rfl) (HG.1) (zbr), ?_⟩
  refine ⟨isVal (.bool true), zas .leq 3 3 (.tmp 8) (.const (.int .i64 8)) (.int .i64 c) (.int .i64 8) (.bool true) (by kernel_rfl) (zae 3 6 true (by kernel_rfl) (by kernel_rfl) (by kernel_rfl) (by kernel_rfl)) (zab (V := isVal (.int .i64 c)) 8 5 (by kernel_rfl) (by kernel_rfl) (by kernel_rfl)) (zak _) (fun _ => rfl) (zgr _ _ _ _ _ h2), ?_⟩
  refine ⟨isVal (.bool true), zaq (.tmp 6) (.tmp 9) (.const (.bool false)) true (by kernel_rfl) (zaa (by kernel_rfl)) (zad _) (zab (V := isVal (.bool true)) 6 3 (by kernel_rfl) (by kernel_rfl) (by kernel_rfl)) (zab (V := isVal (.bool true)) 9 6 (by kernel_rfl) (by kernel_rfl) (by kernel_rfl)), ?_⟩
  refine ⟨isVal (.bool true), zag (.tmp 10) (by kernel_rfl) (zaa (by kernel_rfl)) (zad _) (zab (V := isVal (.bool true)) 10 7 (by kernel_rfl) (by kernel_rfl) (by kernel_rfl)), ?_⟩
  refine ⟨isVal (.pointer (some ⟨g, 1, none⟩)), zah 25 (.tmp 1) 1 ⟨g, 0, none⟩ ⟨g, 1, none⟩ (by kernel_rfl) (zae 8 11 true (by kernel_rfl) (by kernel_rfl) (by kernel_rfl) (by kernel_rfl)) (zaf 1 (.pointer (some ⟨g, 0, none⟩)) (by kernel_rfl) e1) (zbs (g)), ?_⟩
  refine ⟨isVal (.slice sa n sc), zaj 22 (.tmp 12) ⟨g, 1, none⟩ (.slice sa n sc) (by kernel_rfl) (zae 8 11 true (by kernel_rfl) (by kernel_rfl) (by kernel_rfl) (by kernel_rfl)) (zab (V := isVal (.pointer (some ⟨g, 1, none⟩))) 12 9 (by kernel_rfl) (by kernel_rfl) (by kernel_rfl)) (HG.2 1 _ rfl) (HG.1) (zcn), ?_⟩
  refine ⟨isVal (.int .i64 (n : Int)), zds 22 (.tmp 13) (.slice sa n sc) (.int .i64 (n : Int)) (by kernel_rfl) (zae 8 11 true (by kernel_rfl) (by kernel_rfl) (by kernel_rfl) (by kernel_rfl)) (zab (V := isVal (.slice sa n sc)) 13 10 (by kernel_rfl) (by kernel_rfl) (by kernel_rfl)) ((fun ty w => by simp [Builtin.len_, run_underlying Tryz.underlying22]; rfl)), ?_⟩
  refine ⟨isVal (.pointer (some ⟨g, 0, none⟩)), zah 25 (.tmp 1) 0 ⟨g, 0, none⟩ ⟨g, 0, none⟩ (by kernel_rfl) (zae 8 11 true (by kernel_rfl) (by kernel_rfl) (by kernel_rfl) (by kernel_rfl)) (zaf 1 (.pointer (some ⟨g, 0, none⟩)) (by kernel_rfl) e1) (zcv (g)), ?_⟩
  refine ⟨isVal (.int .i64 c), zaj 3 (.tmp 15) ⟨g, 0, none⟩ (.int .i64 c) (by kernel_rfl) (zae 8 11 true (by kernel_rfl) (by kernel_rfl) (by kernel_rfl) (by kernel_rfl)) (zab (V := isVal (.pointer (some ⟨g, 0, none⟩))) 15 12 (by kernel_rfl) (by kernel_rfl) (by kernel_rfl)) (HG.2 0 _ rfl) (HG.1) (zbr), ?_⟩
  refine ⟨isVal (.bool true), zas .leq 3 3 (.tmp 14) (.tmp 16) (.int .i64 (n : Int)) (.int .i64 c) (.bool true) (by kernel_rfl) (zae 8 11 true (by kernel_rfl) (by kernel_rfl) (by kernel_rfl) (by kernel_rfl)) (zab (V := isVal (.int .i64 (n : Int))) 14 11 (by kernel_rfl) (by kernel_rfl) (by kernel_rfl)) (zab (V := isVal (.int .i64 c)) 16 13 (by kernel_rfl) (by kernel_rfl) (by kernel_rfl)) (fun _ => rfl) (zgr _ _ _ _ _ h3), ?_⟩
  refine ⟨isVal (.bool true), zaq (.tmp 11) (.tmp 17) (.const (.bool false)) true (by kernel_rfl) (zaa (by kernel_rfl)) (zad _) (zab (V := isVal (.bool true)) 11 8 (by kernel_rfl) (by kernel_rfl) (by kernel_rfl)) (zab (V := isVal (.bool true)) 17 14 (by kernel_rfl) (by kernel_rfl) (by kernel_rfl)), ?_⟩
  refine ⟨isVal (.bool true), zag (.tmp 18) (by kernel_rfl) (zaa (by kernel_rfl)) (zad _) (zab (V := isVal (.bool true)) 18 15 (by kernel_rfl) (by kernel_rfl) (by kernel_rfl)), ?_⟩
  refine ⟨isVal (.pointer (some ⟨g, 1, none⟩)), zah 25 (.tmp 1) 1 ⟨g, 0, none⟩ ⟨g, 1, none⟩ (by kernel_rfl) (zae 16 19 true (by kernel_rfl) (by kernel_rfl) (by kernel_rfl) (by kernel_rfl)) (zaf 1 (.pointer (some ⟨g, 0, none⟩)) (by kernel_rfl) e1) (zbs (g)), ?_⟩
  refine ⟨isVal (.slice sa n sc), zaj 22 (.tmp 20) ⟨g, 1, none⟩ (.slice sa n sc) (by kernel_rfl) (zae 16 19 true (by kernel_rfl) (by kernel_rfl) (by kernel_rfl) (by kernel_rfl)) (zab (V := isVal (.pointer (some ⟨g, 1, none⟩))) 20 17 (by kernel_rfl) (by kernel_rfl) (by kernel_rfl)) (HG.2 1 _ rfl) (HG.1) (zcn), ?_⟩
  refine ⟨isVal (.bool true), zap 62 #[.tmp 21] #[22] #[.slice sa n sc] (by kernel_rfl) (zae 16 19 true (by kernel_rfl) (by kernel_rfl) (by kernel_rfl) (by kernel_rfl)) (zad _) (args1 (.tmp 21) (.slice sa n sc) (zab (V := isVal (.slice sa n sc)) 21 18 (by kernel_rfl) (by kernel_rfl) (by kernel_rfl))) (enters_of Tryz.func62 (by kernel_rfl) rfl) (by intro w' hb; exact zsg (zpz L true _ w' (zby _ _ _ _ hs hb) hL fL h4)), ?_⟩
  refine ⟨isVal (.bool true), zaq (.tmp 19) (.tmp 22) (.const (.bool false)) true (by kernel_rfl) (zaa (by kernel_rfl)) (zad _) (zab (V := isVal (.bool true)) 19 16 (by kernel_rfl) (by kernel_rfl) (by kernel_rfl)) (zab (V := isVal (.bool true)) 22 19 (by kernel_rfl) (by kernel_rfl) (by kernel_rfl)), ?_⟩
  refine ⟨isVal (.bool true), zag (.tmp 23) (by kernel_rfl) (zaa (by kernel_rfl)) (zad _) (zab (V := isVal (.bool true)) 23 20 (by kernel_rfl) (by kernel_rfl) (by kernel_rfl)), ?_⟩
  refine ⟨isVal (.pointer (some ⟨g, 2, none⟩)), zah 25 (.tmp 1) 2 ⟨g, 0, none⟩ ⟨g, 2, none⟩ (by kernel_rfl) (zae 21 24 true (by kernel_rfl) (by kernel_rfl) (by kernel_rfl) (by kernel_rfl)) (zaf 1 (.pointer (some ⟨g, 0, none⟩)) (by kernel_rfl) e1) (zgg (g)), ?_⟩
  refine ⟨isVal vi, zaj 23 (.tmp 25) ⟨g, 2, none⟩ vi (by kernel_rfl) (zae 21 24 true (by kernel_rfl) (by kernel_rfl) (by kernel_rfl) (by kernel_rfl)) (zab (V := isVal (.pointer (some ⟨g, 2, none⟩))) 25 22 (by kernel_rfl) (by kernel_rfl) (by kernel_rfl)) (HG.2 2 _ rfl) (HG.1) (zgy), ?_⟩
  refine ⟨isVal (.pointer (some ⟨g, 1, none⟩)), zah 25 (.tmp 1) 1 ⟨g, 0, none⟩ ⟨g, 1, none⟩ (by kernel_rfl) (zae 21 24 true (by kernel_rfl) (by kernel_rfl) (by kernel_rfl) (by kernel_rfl)) (zaf 1 (.pointer (some ⟨g, 0, none⟩)) (by kernel_rfl) e1) (zbs (g)), ?_⟩
  refine ⟨isVal (.slice sa n sc), zaj 22 (.tmp 27) ⟨g, 1, none⟩ (.slice sa n sc) (by kernel_rfl) (zae 21 24 true (by kernel_rfl) (by kernel_rfl) (by kernel_rfl) (by kernel_rfl)) (zab (V := isVal (.pointer (some ⟨g, 1, none⟩))) 27 24 (by kernel_rfl) (by kernel_rfl) (by kernel_rfl)) (HG.2 1 _ rfl) (HG.1) (zcn), ?_⟩
  refine ⟨(isCells ((idxM L).map intC)), zap 64 #[.tmp 28] #[22] #[.slice sa n sc] (by kernel_rfl) (zae 21 24 true (by kernel_rfl) (by kernel_rfl) (by kernel_rfl) (by kernel_rfl)) (zac _) (args1 (.tmp 28) (.slice sa n sc) (zab (V := isVal (.slice sa n sc)) 28 25 (by kernel_rfl) (by kernel_rfl) (by kernel_rfl))) (enters_of Tryz.func64 (by kernel_rfl) rfl) (by intro w' hb; exact zqe L _ w' (zby _ _ _ _ hs hb) hL), ?_⟩
  refine ⟨isVal (.bool z), zeh 63 #[.tmp 26, .tmp 29] #[23, 23] (by kernel_rfl) (zae 21 24 true (by kernel_rfl) (by kernel_rfl) (by kernel_rfl) (by kernel_rfl)) (zad _) (enters_of Tryz.func63 (by kernel_rfl) rfl) (fun vs w => ∃ u v, vs = #[u, v] ∧ isVal vi u w ∧ isCells ((idxM L).map intC) v w) (pre2 (zab (V := isVal vi) 26 23 (by kernel_rfl) (by kernel_rfl) (by kernel_rfl)) (zab (V := (isCells ((idxM L).map intC))) 29 26 (by kernel_rfl) (by kernel_rfl) (by kernel_rfl))) (fun vs w' hb hp => by obtain ⟨u, v, rfl, hu, h2⟩ := hp; obtain rfl : u = vi := hu; exact zsg (zbz1 idx (idxM L) z _ _ w' (zac _ _ _ _ hi hb) h2 hI (by rw [(znx L L.length).1 |> fun h => (show (idxM L).length = L.length from h)]; omega) hz)), ?_⟩
  refine ⟨isVal (.bool z), zaq (.tmp 24) (.tmp 30) (.const (.bool false)) true (by kernel_rfl) (zaa (by kernel_rfl)) (zad _) (zab (V := isVal (.bool true)) 24 21 (by kernel_rfl) (by kernel_rfl) (by kernel_rfl)) (zab (V := isVal (.bool z)) 30 27 (by kernel_rfl) (by kernel_rfl) (by kernel_rfl)), ?_⟩
  refine ⟨isVal (.bool z), zau (.tmp 31) (by kernel_rfl) (zaa (by kernel_rfl)) (zad _) (zab (V := isVal (.bool z)) 31 28 (by kernel_rfl) (by kernel_rfl) (by kernel_rfl)), ?_⟩
  intro a w hkp hb hd
  rw [zbg hkp [some 3, some 4, some 5, some 6, some 7, some 8, some 9, some 10, some 11, some 12, some 13, some 14, some 15, some 16, some 17, some 18, some 19, some 20, some 21, some 22, some 23, some 24, some 25, some 26, some 27, some 28, some 29, some 30, some 31, some 2] [3, 4, 5, 6, 7, 8, 9, 10, 11, 12, 13, 14, 15, 16, 17, 18, 19, 20, 21, 22, 23, 24, 25, 26, 27, 28, 29, 30, 31, 2] (by kernel_rfl) (by decide)]
  have d2 := zal (hd 29 (by rw [show rck4Ops.size = 30 by kernel_rfl]; decide)) (t := 2) (V := isVal (.bool z)) (by kernel_rfl) (by kernel_rfl)
  exact hQ (fun s => a.tmps.getD s undef) w d2 hb
theorem zlc (A : Ar) (v : Value) (w : World) (hv : isAr A v w) (hF : FitA A) : Calls Tryz.prog 35 #[v] w fun e w' => e = .returned (.bool (okA A)) ∧ Below w.heap.size w w' := by
  obtain ⟨vs, vi, rfl, hs, hi⟩ := hv
  obtain ⟨sa, sc, rfl⟩ := hs.len
  have hB := zar w (.cells #[.int .i64 A.cap, .slice sa A.slots.length sc, vi] 25)
  have CG := zbe w 25 [.int .i64 A.cap, .slice sa A.slots.length sc, vi] w.heap.size rfl
  have XS := zby _ _ _ _ hs hB
  have XI := zac _ _ _ _ hi hB
  have HK := Kept.mk (zfb1 A)
  unfold roomB at HK
  obtain ⟨z, hz⟩ : ∃ z, decide (A.index = idxM A.slots) = z := ⟨_, rfl⟩
  have hR : ∃ q, okA A = q := ⟨_, rfl⟩
  obtain ⟨q, hq⟩ := hR
  rw [hq] at HK ⊢
  generalize hn : A.slots.length = n at *
  cases h1 : decide (1 ≤ A.cap) with
  | false =>
    have HE := Kept.mk (show q = false by rw [HK.out, h1]; simp)
    have HH := Kept.mk hB
    have CG' := Kept.mk CG
    have XS' := Kept.mk XS
    have XI' := Kept.mk XI
    have Z1 := Kept.mk (And.intro h1 trivial)
    clear HK hs hi hB CG XS XI hq hn hz h1
    go_enter Tryz.func35, Tryz.ntmps35
    go_wp2
    refine zqf _ _ _ rfl w.heap.size n sc A.cap sa vi A.slots A.index z rfl CG'.out XS'.out XI'.out hF.slots (by have := hF.index; omega) hF.ents Z1.out.1 ?_
    intro f9 W9 d2 hb9
    simp only [List.foldl_cons, List.foldl_nil, d2]
    generalize f9 3 = y3
    generalize f9 4 = y4
    generalize f9 5 = y5
    generalize f9 6 = y6
    generalize f9 7 = y7
    generalize f9 8 = y8
    generalize f9 9 = y9
    generalize f9 10 = y10
    generalize f9 11 = y11
    generalize f9 12 = y12
    generalize f9 13 = y13
    generalize f9 14 = y14
    generalize f9 15 = y15
    generalize f9 16 = y16
    generalize f9 17 = y17
    generalize f9 18 = y18
    generalize f9 19 = y19
    generalize f9 20 = y20
    generalize f9 21 = y21
    generalize f9 22 = y22
    generalize f9 23 = y23
    generalize f9 24 = y24
    generalize f9 25 = y25
    generalize f9 26 = y26
    generalize f9 27 = y27
    generalize f9 28 = y28
    generalize f9 29 = y29
    generalize f9 30 = y30
    generalize f9 31 = y31
    clear d2
    simp only [List.setIfInBounds_toArray, List.set_cons_succ, List.set_cons_zero]
    have hbb := HH.out.trans (hb9.mono HH.out.size)
    clear hb9
    go_wp2
    go_ret
    exact ⟨by rw [HE.out]; rfl, hbb⟩
  | true =>
    cases h2 : decide (A.cap ≤ 8) with
    | false =>
      have HE := Kept.mk (show q = false by rw [HK.out, h1, h2]; simp)
      have HH := Kept.mk hB
      have CG' := Kept.mk CG
      have XS' := Kept.mk XS
      have XI' := Kept.mk XI
      have Z1 := Kept.mk (And.intro h1 (And.intro h2 trivial))
      clear HK hs hi hB CG XS XI hq hn hz h1 h2
      go_enter Tryz.func35, Tryz.ntmps35
      go_wp2
      refine zrr _ _ _ rfl w.heap.size n sc A.cap sa vi A.slots A.index z rfl CG'.out XS'.out XI'.out hF.slots (by have := hF.index; omega) hF.ents Z1.out.1 Z1.out.2.1 ?_
      intro f9 W9 d2 hb9
      simp only [List.foldl_cons, List.foldl_nil, d2]
      generalize f9 3 = y3
      generalize f9 4 = y4
      generalize f9 5 = y5
      generalize f9 6 = y6
      generalize f9 7 = y7
      generalize f9 8 = y8
      generalize f9 9 = y9
      generalize f9 10 = y10
      generalize f9 11 = y11
      generalize f9 12 = y12
      generalize f9 13 = y13
      generalize f9 14 = y14
      generalize f9 15 = y15
      generalize f9 16 = y16
      generalize f9 17 = y17
      generalize f9 18 = y18
      generalize f9 19 = y19
      generalize f9 20 = y20
      generalize f9 21 = y21
      generalize f9 22 = y22
      generalize f9 23 = y23
      generalize f9 24 = y24
      generalize f9 25 = y25
      generalize f9 26 = y26
      generalize f9 27 = y27
      generalize f9 28 = y28
      generalize f9 29 = y29
      generalize f9 30 = y30
      generalize f9 31 = y31
      clear d2
      simp only [List.setIfInBounds_toArray, List.set_cons_succ, List.set_cons_zero]
      have hbb := HH.out.trans (hb9.mono HH.out.size)
      clear hb9
      go_wp2
      go_ret
      exact ⟨by rw [HE.out]; rfl, hbb⟩
    | true =>
      cases h3 : decide ((n : Int) ≤ A.cap) with
      | false =>
        have HE := Kept.mk (show q = false by rw [HK.out, h1, h2, h3]; simp)
        have HH := Kept.mk hB
        have CG' := Kept.mk CG
        have XS' := Kept.mk XS
        have XI' := Kept.mk XI
        have Z1 := Kept.mk (And.intro h1 (And.intro h2 (And.intro h3 trivial)))
        clear HK hs hi hB CG XS XI hq hn hz h1 h2 h3
        go_enter Tryz.func35, Tryz.ntmps35
        go_wp2
        refine zrw _ _ _ rfl w.heap.size n sc A.cap sa vi A.slots A.index z rfl CG'.out XS'.out XI'.out hF.slots (by have := hF.index; omega) hF.ents Z1.out.1 Z1.out.2.1 Z1.out.2.2.1 ?_
        intro f9 W9 d2 hb9
        simp only [List.foldl_cons, List.foldl_nil, d2]
        generalize f9 3 = y3
        generalize f9 4 = y4
        generalize f9 5 = y5
        generalize f9 6 = y6
        generalize f9 7 = y7
        generalize f9 8 = y8
        generalize f9 9 = y9
        generalize f9 10 = y10
        generalize f9 11 = y11
        generalize f9 12 = y12
        generalize f9 13 = y13
        generalize f9 14 = y14
        generalize f9 15 = y15
        generalize f9 16 = y16
        generalize f9 17 = y17
        generalize f9 18 = y18
        generalize f9 19 = y19
        generalize f9 20 = y20
        generalize f9 21 = y21
        generalize f9 22 = y22
        generalize f9 23 = y23
        generalize f9 24 = y24
        generalize f9 25 = y25
        generalize f9 26 = y26
        generalize f9 27 = y27
        generalize f9 28 = y28
        generalize f9 29 = y29
        generalize f9 30 = y30
        generalize f9 31 = y31
        clear d2
        simp only [List.setIfInBounds_toArray, List.set_cons_succ, List.set_cons_zero]
        have hbb := HH.out.trans (hb9.mono HH.out.size)
        clear hb9
        go_wp2
        go_ret
        exact ⟨by rw [HE.out]; rfl, hbb⟩
      | true =>
        cases h4 : slotsB A.slots with
        | false =>
          have HE := Kept.mk (show q = false by rw [HK.out, h1, h2, h3, h4]; simp)
          have HH := Kept.mk hB
          have CG' := Kept.mk CG
          have XS' := Kept.mk XS
          have XI' := Kept.mk XI
          have Z1 := Kept.mk (And.intro h1 (And.intro h2 (And.intro h3 (And.intro h4 trivial))))
          clear HK hs hi hB CG XS XI hq hn hz h1 h2 h3 h4
          go_enter Tryz.func35, Tryz.ntmps35
          go_wp2
          refine zsh _ _ _ rfl w.heap.size n sc A.cap sa vi A.slots A.index z rfl CG'.out XS'.out XI'.out hF.slots (by have := hF.index; omega) hF.ents Z1.out.1 Z1.out.2.1 Z1.out.2.2.1 Z1.out.2.2.2.1 ?_
          intro f9 W9 d2 hb9
          simp only [List.foldl_cons, List.foldl_nil, d2]
          generalize f9 3 = y3
          generalize f9 4 = y4
          generalize f9 5 = y5
          generalize f9 6 = y6
          generalize f9 7 = y7
          generalize f9 8 = y8
          generalize f9 9 = y9
          generalize f9 10 = y10
          generalize f9 11 = y11
          generalize f9 12 = y12
          generalize f9 13 = y13
          generalize f9 14 = y14
          generalize f9 15 = y15
          generalize f9 16 = y16
          generalize f9 17 = y17
          generalize f9 18 = y18
          generalize f9 19 = y19
          generalize f9 20 = y20
          generalize f9 21 = y21
          generalize f9 22 = y22
          generalize f9 23 = y23
          generalize f9 24 = y24
          generalize f9 25 = y25
          generalize f9 26 = y26
          generalize f9 27 = y27
          generalize f9 28 = y28
          generalize f9 29 = y29
          generalize f9 30 = y30
          generalize f9 31 = y31
          clear d2
          simp only [List.setIfInBounds_toArray, List.set_cons_succ, List.set_cons_zero]
          have hbb := HH.out.trans (hb9.mono HH.out.size)
          clear hb9
          go_wp2
          go_ret
          exact ⟨by rw [HE.out]; rfl, hbb⟩
        | true =>
          have HE := Kept.mk (show q = z by rw [HK.out, h1, h2, h3, h4, hz]; simp)
          have HH := Kept.mk hB
          have CG' := Kept.mk CG
          have XS' := Kept.mk XS
          have XI' := Kept.mk XI
          have Z1 := Kept.mk (And.intro h1 (And.intro h2 (And.intro h3 (And.intro h4 hz))))
          clear HK hs hi hB CG XS XI hq hn h1 h2 h3 h4 hz
          go_enter Tryz.func35, Tryz.ntmps35
          go_wp2
          refine zqp _ _ _ rfl w.heap.size n sc A.cap sa vi A.slots A.index z rfl CG'.out XS'.out XI'.out hF.slots (by have := hF.index; omega) hF.ents Z1.out.1 Z1.out.2.1 Z1.out.2.2.1 Z1.out.2.2.2.1 Z1.out.2.2.2.2 ?_
          intro f9 W9 d2 hb9
          simp only [List.foldl_cons, List.foldl_nil, d2]
          generalize f9 3 = y3
          generalize f9 4 = y4
          generalize f9 5 = y5
          generalize f9 6 = y6
          generalize f9 7 = y7
          generalize f9 8 = y8
          generalize f9 9 = y9
          generalize f9 10 = y10
          generalize f9 11 = y11
          generalize f9 12 = y12
          generalize f9 13 = y13
          generalize f9 14 = y14
          generalize f9 15 = y15
          generalize f9 16 = y16
          generalize f9 17 = y17
          generalize f9 18 = y18
          generalize f9 19 = y19
          generalize f9 20 = y20
          generalize f9 21 = y21
          generalize f9 22 = y22
          generalize f9 23 = y23
          generalize f9 24 = y24
          generalize f9 25 = y25
          generalize f9 26 = y26
          generalize f9 27 = y27
          generalize f9 28 = y28
          generalize f9 29 = y29
          generalize f9 30 = y30
          generalize f9 31 = y31
          clear d2
          simp only [List.setIfInBounds_toArray, List.set_cons_succ, List.set_cons_zero]
          have hbb := HH.out.trans (hb9.mono HH.out.size)
          clear hb9
          go_wp2
          go_ret
          exact ⟨by rw [HE.out]; rfl, hbb⟩
end Go.Proofs.YtkjghoomdefbbaaGreatDoor
end
section
namespace Go.Proofs.YtkjghoomdefbbaaGreatDoor
open Go.RowKit
attribute [local irreducible] setN
theorem zsy (n : Int) (wd : Nat) (w : World) (h0 : 0 ≤ n) (hm : n ≤ 9223372036854775807) (h1 : 1 ≤ wd) (h7 : wd ≤ 7) (hn : n.toNat < 256 ^ wd) :
    Calls Tryz.prog 66 #[.int .i64 n, .int .i64 (wd : Int)] w fun e w' => e = .returned (txt (putL n.toNat wd)) ∧ Below w.heap.size w w' := by
  have HE := Kept.mk (zti n wd h0 h1 h7 hn)
  go_enter Tryz.func66, Tryz.ntmps66
  go_wp2_with fail
  refine (zwa n wd w hm).mono ?_
  rintro e w1 ⟨rfl, hb⟩
  rw [HE.out]
  generalize putE n wd = pe
  generalize hX : putL n.toNat wd = x
  have HX := Kept.mk hX
  clear hX
  have HB := Kept.mk hb
  clear hb
  go_wp2
  go_ret
  exact ⟨by rw [HX.out]; rfl, HB.out⟩
theorem zed (n : Int) (wd : Nat) (w : World) (h0 : 0 ≤ n) (hm : n ≤ 9223372036854775807) (h1 : 1 ≤ wd) (h7 : wd ≤ 7) (hn : n.toNat < 256 ^ wd) :
    Calls Tryz.prog 66 #[.int .i64 n, .int .i64 (wd : Int)] w fun e w' => ∃ x, e = .returned x ∧ isVal (txt (putL n.toNat wd)) x w' ∧ Below w.heap.size w w' :=
  (zsy n wd w h0 hm h1 h7 hn).mono (by rintro e w' ⟨rfl, hb⟩; exact ⟨_, rfl, rfl, hb⟩)
theorem zcd1 (s : List UInt8) (n : Nat) (w : World) (hs : s.length ≤ n) (hn : n ≤ 1000) :
    Calls Tryz.prog 67 #[.string ⟨s.toArray⟩, .int .i64 (n : Int)] w fun e w' => e = .returned (txt (s ++ zerosL (n - s.length))) ∧ Below w.heap.size w w' := by
  have hz : (⟨s.toArray⟩ : ByteArray).size = s.length := by simp [ByteArray.size]
  have e0 : (n : Int) - (s.length : Int) = ((n - s.length : Nat) : Int) := by omega
  have hmk : (Instr.makeSlice 63 (.int .i64 ((n : Int) - (s.length : Int))) (.int .i64 ((n : Int) - (s.length : Int)))).run Tryz.prog w = .ok (.slice (some ⟨w.heap.size, 0, none⟩) (n - s.length) (n - s.length)) (w.alloc (.cells (madeCells #[.int .u8 0] (n - s.length)) 5)) := by
    rw [e0]; exact run_make_row' (P := Tryz.prog) 63 5 (.int .u8 0) 1 Tryz.underlying63 Tryz.infoU8 rfl .i64 .i64 (n - s.length) (by omega) (by omega) w
  have hbk := (BRow.made w 5 (n - s.length)).back (P := Tryz.prog) 63 9 5 (n - s.length) (n - s.length) (by simp) Tryz.underlying63 Tryz.underlying5 Tryz.underlying9
  have HB := Kept.mk (zar w (.cells (madeCells #[.int .u8 0] (n - s.length)) 5))
  have hcat := fun W => run_string_add_lists (P := Tryz.prog) W s (List.replicate (n - s.length) 0) (by omega) (by rw [List.length_replicate]; omega)
  generalize w.alloc (.cells (madeCells #[.int .u8 0] (n - s.length)) 5) = W1 at *
  clear e0
  go_enter Tryz.func67, Tryz.ntmps67
  go_wp2
  go_ret
  exact ⟨rfl, HB.out⟩
theorem zpu (s : List UInt8) (n : Nat) (w : World) (hs : s.length ≤ n) (hn : n ≤ 1000) :
    Calls Tryz.prog 67 #[.string ⟨s.toArray⟩, .int .i64 (n : Int)] w fun e w' => ∃ x, e = .returned x ∧ isVal (txt (s ++ zerosL (n - s.length))) x w' ∧ Below w.heap.size w w' :=
  (zcd1 s n w hs hn).mono (by rintro e w' ⟨rfl, hb⟩; exact ⟨_, rfl, rfl, hb⟩)
theorem zas1 (b : Bool) (w : World) : Calls Tryz.prog 97 #[.bool b] w fun e w' => e = .returned (.int .i64 (bitI b)) ∧ w = w' := by
  cases b with
  | true =>
    go_enter Tryz.func97, Tryz.ntmps97
    go_wp2
    go_ret
    exact ⟨rfl, rfl⟩
  | false =>
    go_enter Tryz.func97, Tryz.ntmps97
    go_wp2
    go_ret
    exact ⟨rfl, rfl⟩
theorem zyo (b : Bool) (w : World) : Calls Tryz.prog 97 #[.bool b] w fun e w' => ∃ x, e = .returned x ∧ isVal (.int .i64 (bitI b)) x w' ∧ Below w.heap.size w w' :=
  (zas1 b w).mono (by rintro e w' ⟨rfl, rfl⟩; exact ⟨_, rfl, rfl, Below.refl _ _⟩)
theorem zwz (l : List Int) (v : Value) (w : World) (hv : isCells (l.map intC) v w) (hl : l.length ≤ 40) (hn : l.all okNum = true) :
    Calls Tryz.prog 98 #[v] w fun e w' => e = .returned (txt (numsL l)) ∧ Below w.heap.size w w' := by
  obtain ⟨a, cap, hva⟩ := hv.len
  rw [List.length_map] at hva
  subst hva
  have HV := Kept.mk hv
  have HN := Kept.mk hn
  have HB := Kept.mk (Below.refl w.heap.size w)
  clear hv hn
  go_enter Tryz.func98, Tryz.ntmps98
  go_wp2
  go_loopw [3, 4] (fun s i wr => ∃ k : Nat, k ≤ l.length ∧ s = .string ⟨(numsL (l.take k)).toArray⟩ ∧ i = .int .i64 (k : Int) ∧ Kept (Below w.heap.size w wr)) (fun s i _ => l.length - (intOf i).toNat)
  case atStart => exact ⟨0, Nat.zero_le _, rfl, rfl, HB⟩
  case round =>
    clear HB
    obtain ⟨k, hk, rfl, rfl, HB⟩ := hrel
    by_cases hlt : k < l.length
    · have HV1 := zac _ _ _ _ HV.out HB.out
      obtain ⟨b, off, cap', hs, hb, hc⟩ := HV1.some_ (by rw [List.length_map]; omega)
      rw [List.length_map] at hs
      injection hs with h1 h2 h3
      subst h1 h3
      have hcell := hc k _ (zdu intC l k hlt)
      have hx2 : okNum l[k] = true := List.all_eq_true.1 HN.out _ (List.getElem_mem hlt)
      unfold okNum at hx2
      simp only [Bool.and_eq_true, decide_eq_true_eq] at hx2
      have HS := Kept.mk (zpb l k hlt)
      obtain ⟨x, hx⟩ : ∃ x, x = l[k] := ⟨_, rfl⟩
      rw [← hx] at hcell HS hx2
      unfold intC at hcell
      clear hc hx HV1
      obtain ⟨b3, b4⟩ := hx2
      have hlen := zdh (l.take k)
      have hlk : (l.take k).length ≤ 40 := by rw [List.length_take]; omega
      have d1 : decide ((k : Int) < (l.length : Int)) = true := by simpa using hlt
      have hcat := fun W => run_string_add_lists (P := Tryz.prog) W (numsL (l.take k)) (putL x.toNat 2) (by omega) (by rw [zan]; omega)
      obtain ⟨s, hs⟩ : ∃ s, s = numsL (l.take k) := ⟨_, rfl⟩
      rw [← hs] at HS hcat ⊢
      clear hs
      go_wp2_with fail
      refine (zsy x 2 _ b3 (by omega) (by omega) (by omega) (by show _ < 65536; omega)).mono ?_
      rintro e w2 ⟨rfl, hb2⟩
      replace HB := Kept.mk (HB.out.trans (hb2.mono HB.out.size))
      clear hb2 hcell
      generalize putL x.toNat 2 = px at *
      go_wp2
      go_roundw
      case rel => exact ⟨k + 1, by omega, by rw [HS.out], by go_num, HB⟩
      case measure => simp [intOf]; omega
    · have d1 : decide ((k : Int) < (l.length : Int)) = false := by simpa using hlt
      have HS := Kept.mk (show numsL (l.take k) = numsL l by rw [List.take_of_length_le (by omega)])
      go_wp2
      go_ret
      exact ⟨zku HS.out, HB.out⟩
theorem zmr (l : List Int) (v : Value) (w : World) (hv : isCells (l.map intC) v w) (hl : l.length ≤ 40) (hn : l.all okNum = true) :
    Calls Tryz.prog 98 #[v] w fun e w' => ∃ x, e = .returned x ∧ isVal (txt (numsL l)) x w' ∧ Below w.heap.size w w' :=
  (zwz l v w hv hl hn).mono (by rintro e w' ⟨rfl, hb⟩; exact ⟨_, rfl, rfl, hb⟩)
end Go.Proofs.YtkjghoomdefbbaaGreatDoor
end
section
namespace Go.Proofs.YtkjghoomdefbbaaGreatDoor
open Go.RowKit
attribute [local irreducible] setN
noncomputable def rd1Ops : Array Oper := zat Tryz.f68 2
theorem zug (Q : Exit → Act → World → Prop) (a0 : Act) (w0 : World) (hsz : a0.tmps.size = 47) (A : Va) (b : Nat) (vp vm : Value) (e1 : a0.tmps.getD 1 undef = .pointer (some ⟨b, 0, none⟩)) (hc : CellsN w0 b [.int .i64 A.kind, .int .i64 A.time, .int .i64 A.node, .bool A.dead, .string ⟨A.text.toArray⟩, vp, vm, .int .u64 (A.flags.toNat : Int)]) (t0 : 0 ≤ A.time) (t1 : A.time ≤ 2147483647) (n0 : 0 ≤ A.node) (n1 : A.node ≤ 7) (x8 : A.text.length ≤ 8) (hb2 : bitN A.dead ≤ 1)
    (hQ : ∀ (g : Nat → Value) (w : World), g 2 = .string ⟨(((((putL (A.time).toNat 4) ++ (putL (A.node).toNat 1)) ++ (putL ((bitI A.dead)).toNat 1)) ++ (putL ((A.text.length : Int)).toNat 1)) ++ A.text).toArray⟩ → Below w0.heap.size w0 w → Q .normal { tmps := [6, 7, 8, 9, 10, 11, 12, 13, 14, 15, 16, 17, 18, 19, 20, 21, 22, 23, 24, 25, 2].foldl (fun t s => t.setIfInBounds s (g s)) a0.tmps, defers := a0.defers } w) :
    (Code.region 2 rd1Ops true).wp Tryz.prog Q a0 w0 := by
  refine zam mixed (by rw [hsz]; kernel_rfl) ?_
  rw [show rd1Ops.size = 21 by kernel_rfl]
  refine ⟨isVal (.pointer (some ⟨b, 1, none⟩)), zah 46 (.tmp 1) 1 ⟨b, 0, none⟩ ⟨b, 1, none⟩ (by kernel_rfl) (zaa (by kernel_rfl)) (zaf 1 (.pointer (some ⟨b, 0, none⟩)) (by kernel_rfl) e1) (zbj b 1 (by omega)), ?_⟩
  refine ⟨isVal (.int .i64 A.time), zaj 3 (.tmp 6) ⟨b, 1, none⟩ (.int .i64 A.time) (by kernel_rfl) (zaa (by kernel_rfl)) (zab (V := isVal (.pointer (some ⟨b, 1, none⟩))) 6 0 (by kernel_rfl) (by kernel_rfl) (by kernel_rfl)) (hc.2 1 _ rfl) hc.1 zdj, ?_⟩
  refine ⟨isVal (.string ⟨(putL (A.time).toNat 4).toArray⟩), zap 66 #[.tmp 7, .const (.int .i64 4)] #[3, 3] #[.int .i64 A.time, .int .i64 4] (by kernel_rfl) (zaa (by kernel_rfl)) (zad _) (args2 (.tmp 7) (.const (.int .i64 4)) (.int .i64 A.time) (.int .i64 4) (zab (V := isVal (.int .i64 A.time)) 7 1 (by kernel_rfl) (by kernel_rfl) (by kernel_rfl)) (zak _)) (enters_of Tryz.func66 (by kernel_rfl) rfl) (by intro w hb; exact zed (A.time) 4 w t0 (by omega) (by omega) (by omega) (by show _ < 4294967296; omega)), ?_⟩
  refine ⟨isVal (.pointer (some ⟨b, 2, none⟩)), zah 46 (.tmp 1) 2 ⟨b, 0, none⟩ ⟨b, 2, none⟩ (by kernel_rfl) (zaa (by kernel_rfl)) (zaf 1 (.pointer (some ⟨b, 0, none⟩)) (by kernel_rfl) e1) (zbj b 2 (by omega)), ?_⟩
  refine ⟨isVal (.int .i64 A.node), zaj 3 (.tmp 9) ⟨b, 2, none⟩ (.int .i64 A.node) (by kernel_rfl) (zaa (by kernel_rfl)) (zab (V := isVal (.pointer (some ⟨b, 2, none⟩))) 9 3 (by kernel_rfl) (by kernel_rfl) (by kernel_rfl)) (hc.2 2 _ rfl) hc.1 zdj, ?_⟩
  refine ⟨isVal (.string ⟨(putL (A.node).toNat 1).toArray⟩), zap 66 #[.tmp 10, .const (.int .i64 1)] #[3, 3] #[.int .i64 A.node, .int .i64 1] (by kernel_rfl) (zaa (by kernel_rfl)) (zad _) (args2 (.tmp 10) (.const (.int .i64 1)) (.int .i64 A.node) (.int .i64 1) (zab (V := isVal (.int .i64 A.node)) 10 4 (by kernel_rfl) (by kernel_rfl) (by kernel_rfl)) (zak _)) (enters_of Tryz.func66 (by kernel_rfl) rfl) (by intro w hb; exact zed (A.node) 1 w n0 (by omega) (by omega) (by omega) (by show _ < 256; omega)), ?_⟩
  refine ⟨isVal (.string ⟨((putL (A.time).toNat 4) ++ (putL (A.node).toNat 1)).toArray⟩), zas .add 9 9 (.tmp 8) (.tmp 11) (.string ⟨(putL (A.time).toNat 4).toArray⟩) (.string ⟨(putL (A.node).toNat 1).toArray⟩) (.string ⟨((putL (A.time).toNat 4) ++ (putL (A.node).toNat 1)).toArray⟩) (by kernel_rfl) (zaa (by kernel_rfl)) (zab (V := isVal (.string ⟨(putL (A.time).toNat 4).toArray⟩)) 8 2 (by kernel_rfl) (by kernel_rfl) (by kernel_rfl)) (zab (V := isVal (.string ⟨(putL (A.node).toNat 1).toArray⟩)) 11 5 (by kernel_rfl) (by kernel_rfl) (by kernel_rfl)) (fun _ => rfl) (fun W => run_string_add_lists W (putL (A.time).toNat 4) (putL (A.node).toNat 1) (by first | omega | (simp only [List.length_append, zan]; omega)) (by first | omega | (simp only [List.length_append, zan]; omega))), ?_⟩
  refine ⟨isVal (.pointer (some ⟨b, 3, none⟩)), zah 46 (.tmp 1) 3 ⟨b, 0, none⟩ ⟨b, 3, none⟩ (by kernel_rfl) (zaa (by kernel_rfl)) (zaf 1 (.pointer (some ⟨b, 0, none⟩)) (by kernel_rfl) e1) (zbj b 3 (by omega)), ?_⟩
  refine ⟨isVal (.bool A.dead), zaj 4 (.tmp 13) ⟨b, 3, none⟩ (.bool A.dead) (by kernel_rfl) (zaa (by kernel_rfl)) (zab (V := isVal (.pointer (some ⟨b, 3, none⟩))) 13 7 (by kernel_rfl) (by kernel_rfl) (by kernel_rfl)) (hc.2 3 _ rfl) hc.1 zjn, ?_⟩
  refine ⟨isVal (.int .i64 (bitI A.dead)), zap 97 #[.tmp 14] #[4] #[.bool A.dead] (by kernel_rfl) (zaa (by kernel_rfl)) (zad _) (args1 (.tmp 14) (.bool A.dead) (zab (V := isVal (.bool A.dead)) 14 8 (by kernel_rfl) (by kernel_rfl) (by kernel_rfl))) (enters_of Tryz.func97 (by kernel_rfl) rfl) (by intro w hb; exact zyo A.dead w), ?_⟩
  refine ⟨isVal (.string ⟨(putL ((bitI A.dead)).toNat 1).toArray⟩), zap 66 #[.tmp 15, .const (.int .i64 1)] #[3, 3] #[.int .i64 (bitI A.dead), .int .i64 1] (by kernel_rfl) (zaa (by kernel_rfl)) (zad _) (args2 (.tmp 15) (.const (.int .i64 1)) (.int .i64 (bitI A.dead)) (.int .i64 1) (zab (V := isVal (.int .i64 (bitI A.dead))) 15 9 (by kernel_rfl) (by kernel_rfl) (by kernel_rfl)) (zak _)) (enters_of Tryz.func66 (by kernel_rfl) rfl) (by intro w hb; exact zed ((bitI A.dead)) 1 w (by unfold bitI; omega) (by unfold bitI; omega) (by omega) (by omega) (by show bitN A.dead < 256; omega)), ?_⟩
  refine ⟨isVal (.string ⟨(((putL (A.time).toNat 4) ++ (putL (A.node).toNat 1)) ++ (putL ((bitI A.dead)).toNat 1)).toArray⟩), zas .add 9 9 (.tmp 12) (.tmp 16) (.string ⟨((putL (A.time).toNat 4) ++ (putL (A.node).toNat 1)).toArray⟩) (.string ⟨(putL ((bitI A.dead)).toNat 1).toArray⟩) (.string ⟨(((putL (A.time).toNat 4) ++ (putL (A.node).toNat 1)) ++ (putL ((bitI A.dead)).toNat 1)).toArray⟩) (by kernel_rfl) (zaa (by kernel_rfl)) (zab (V := isVal (.string ⟨((putL (A.time).toNat 4) ++ (putL (A.node).toNat 1)).toArray⟩)) 12 6 (by kernel_rfl) (by kernel_rfl) (by kernel_rfl)) (zab (V := isVal (.string ⟨(putL ((bitI A.dead)).toNat 1).toArray⟩)) 16 10 (by kernel_rfl) (by kernel_rfl) (by kernel_rfl)) (fun _ => rfl) (fun W => run_string_add_lists W ((putL (A.time).toNat 4) ++ (putL (A.node).toNat 1)) (putL ((bitI A.dead)).toNat 1) (by first | omega | (simp only [List.length_append, zan]; omega)) (by first | omega | (simp only [List.length_append, zan]; omega))), ?_⟩
  refine ⟨isVal (.pointer (some ⟨b, 4, none⟩)), zah 46 (.tmp 1) 4 ⟨b, 0, none⟩ ⟨b, 4, none⟩ (by kernel_rfl) (zaa (by kernel_rfl)) (zaf 1 (.pointer (some ⟨b, 0, none⟩)) (by kernel_rfl) e1) (zbj b 4 (by omega)), ?_⟩
  refine ⟨isVal (.string ⟨A.text.toArray⟩), zaj 9 (.tmp 18) ⟨b, 4, none⟩ (.string ⟨A.text.toArray⟩) (by kernel_rfl) (zaa (by kernel_rfl)) (zab (V := isVal (.pointer (some ⟨b, 4, none⟩))) 18 12 (by kernel_rfl) (by kernel_rfl) (by kernel_rfl)) (hc.2 4 _ rfl) hc.1 zes, ?_⟩
  refine ⟨isVal (.int .i64 (A.text.length : Int)), zds 9 (.tmp 19) (.string ⟨A.text.toArray⟩) (.int .i64 (A.text.length : Int)) (by kernel_rfl) (zaa (by kernel_rfl)) (zab (V := isVal (.string ⟨A.text.toArray⟩)) 19 13 (by kernel_rfl) (by kernel_rfl) (by kernel_rfl)) (zkx A.text), ?_⟩
  refine ⟨isVal (.string ⟨(putL ((A.text.length : Int)).toNat 1).toArray⟩), zap 66 #[.tmp 20, .const (.int .i64 1)] #[3, 3] #[.int .i64 (A.text.length : Int), .int .i64 1] (by kernel_rfl) (zaa (by kernel_rfl)) (zad _) (args2 (.tmp 20) (.const (.int .i64 1)) (.int .i64 (A.text.length : Int)) (.int .i64 1) (zab (V := isVal (.int .i64 (A.text.length : Int))) 20 14 (by kernel_rfl) (by kernel_rfl) (by kernel_rfl)) (zak _)) (enters_of Tryz.func66 (by kernel_rfl) rfl) (by intro w hb; exact zed ((A.text.length : Int)) 1 w (by omega) (by omega) (by omega) (by omega) (by show _ < 256; omega)), ?_⟩
  refine ⟨isVal (.string ⟨((((putL (A.time).toNat 4) ++ (putL (A.node).toNat 1)) ++ (putL ((bitI A.dead)).toNat 1)) ++ (putL ((A.text.length : Int)).toNat 1)).toArray⟩), zas .add 9 9 (.tmp 17) (.tmp 21) (.string ⟨(((putL (A.time).toNat 4) ++ (putL (A.node).toNat 1)) ++ (putL ((bitI A.dead)).toNat 1)).toArray⟩) (.string ⟨(putL ((A.text.length : Int)).toNat 1).toArray⟩) (.string ⟨((((putL (A.time).toNat 4) ++ (putL (A.node).toNat 1)) ++ (putL ((bitI A.dead)).toNat 1)) ++ (putL ((A.text.length : Int)).toNat 1)).toArray⟩) (by kernel_rfl) (zaa (by kernel_rfl)) (zab (V := isVal (.string ⟨(((putL (A.time).toNat 4) ++ (putL (A.node).toNat 1)) ++ (putL ((bitI A.dead)).toNat 1)).toArray⟩)) 17 11 (by kernel_rfl) (by kernel_rfl) (by kernel_rfl)) (zab (V := isVal (.string ⟨(putL ((A.text.length : Int)).toNat 1).toArray⟩)) 21 15 (by kernel_rfl) (by kernel_rfl) (by kernel_rfl)) (fun _ => rfl) (fun W => run_string_add_lists W (((putL (A.time).toNat 4) ++ (putL (A.node).toNat 1)) ++ (putL ((bitI A.dead)).toNat 1)) (putL ((A.text.length : Int)).toNat 1) (by first | omega | (simp only [List.length_append, zan]; omega)) (by first | omega | (simp only [List.length_append, zan]; omega))), ?_⟩
  refine ⟨isVal (.pointer (some ⟨b, 4, none⟩)), zah 46 (.tmp 1) 4 ⟨b, 0, none⟩ ⟨b, 4, none⟩ (by kernel_rfl) (zaa (by kernel_rfl)) (zaf 1 (.pointer (some ⟨b, 0, none⟩)) (by kernel_rfl) e1) (zbj b 4 (by omega)), ?_⟩
  refine ⟨isVal (.string ⟨A.text.toArray⟩), zaj 9 (.tmp 23) ⟨b, 4, none⟩ (.string ⟨A.text.toArray⟩) (by kernel_rfl) (zaa (by kernel_rfl)) (zab (V := isVal (.pointer (some ⟨b, 4, none⟩))) 23 17 (by kernel_rfl) (by kernel_rfl) (by kernel_rfl)) (hc.2 4 _ rfl) hc.1 zes, ?_⟩
  refine ⟨isVal (.string ⟨(((((putL (A.time).toNat 4) ++ (putL (A.node).toNat 1)) ++ (putL ((bitI A.dead)).toNat 1)) ++ (putL ((A.text.length : Int)).toNat 1)) ++ A.text).toArray⟩), zas .add 9 9 (.tmp 22) (.tmp 24) (.string ⟨((((putL (A.time).toNat 4) ++ (putL (A.node).toNat 1)) ++ (putL ((bitI A.dead)).toNat 1)) ++ (putL ((A.text.length : Int)).toNat 1)).toArray⟩) (.string ⟨A.text.toArray⟩) (.string ⟨(((((putL (A.time).toNat 4) ++ (putL (A.node).toNat 1)) ++ (putL ((bitI A.dead)).toNat 1)) ++ (putL ((A.text.length : Int)).toNat 1)) ++ A.text).toArray⟩) (by kernel_rfl) (zaa (by kernel_rfl)) (zab (V := isVal (.string ⟨((((putL (A.time).toNat 4) ++ (putL (A.node).toNat 1)) ++ (putL ((bitI A.dead)).toNat 1)) ++ (putL ((A.text.length : Int)).toNat 1)).toArray⟩)) 22 16 (by kernel_rfl) (by kernel_rfl) (by kernel_rfl)) (zab (V := isVal (.string ⟨A.text.toArray⟩)) 24 18 (by kernel_rfl) (by kernel_rfl) (by kernel_rfl)) (fun _ => rfl) (fun W => run_string_add_lists W ((((putL (A.time).toNat 4) ++ (putL (A.node).toNat 1)) ++ (putL ((bitI A.dead)).toNat 1)) ++ (putL ((A.text.length : Int)).toNat 1)) A.text (by first | omega | (simp only [List.length_append, zan]; omega)) (by first | omega | (simp only [List.length_append, zan]; omega))), ?_⟩
  refine ⟨isVal (.string ⟨(((((putL (A.time).toNat 4) ++ (putL (A.node).toNat 1)) ++ (putL ((bitI A.dead)).toNat 1)) ++ (putL ((A.text.length : Int)).toNat 1)) ++ A.text).toArray⟩), zau (.tmp 25) (by kernel_rfl) (zaa (by kernel_rfl)) (zad _) (zab (V := isVal (.string ⟨(((((putL (A.time).toNat 4) ++ (putL (A.node).toNat 1)) ++ (putL ((bitI A.dead)).toNat 1)) ++ (putL ((A.text.length : Int)).toNat 1)) ++ A.text).toArray⟩)) 25 19 (by kernel_rfl) (by kernel_rfl) (by kernel_rfl)), ?_⟩
  intro a w hkp hb hd
  rw [zbg hkp [some 6, some 7, some 8, some 9, some 10, some 11, some 12, some 13, some 14, some 15, some 16, some 17, some 18, some 19, some 20, some 21, some 22, some 23, some 24, some 25, some 2] [6, 7, 8, 9, 10, 11, 12, 13, 14, 15, 16, 17, 18, 19, 20, 21, 22, 23, 24, 25, 2] (by kernel_rfl) (by decide)]
  have d2 := zal (hd 20 (by rw [show rd1Ops.size = 21 by kernel_rfl]; decide)) (t := 2) (V := isVal (.string ⟨(((((putL (A.time).toNat 4) ++ (putL (A.node).toNat 1)) ++ (putL ((bitI A.dead)).toNat 1)) ++ (putL ((A.text.length : Int)).toNat 1)) ++ A.text).toArray⟩)) (by kernel_rfl) (by kernel_rfl)
  exact hQ (fun s => a.tmps.getD s undef) w d2 hb
noncomputable def rd2Ops : Array Oper := zat Tryz.f68 4
theorem zvo (Q : Exit → Act → World → Prop) (a0 : Act) (w0 : World) (hsz : a0.tmps.size = 47) (A : Va) (b : Nat) (vp vm : Value) (e1 : a0.tmps.getD 1 undef = .pointer (some ⟨b, 0, none⟩)) (hc : CellsN w0 b [.int .i64 A.kind, .int .i64 A.time, .int .i64 A.node, .bool A.dead, .string ⟨A.text.toArray⟩, vp, vm, .int .u64 (A.flags.toNat : Int)]) (hp : isCells (A.plus.map intC) vp w0) (hm : isCells (A.minus.map intC) vm w0) (l1 : A.plus.length ≤ 40) (l2 : A.minus.length ≤ 40) (a1 : A.plus.all okNum = true) (a2 : A.minus.all okNum = true)
    (hQ : ∀ (g : Nat → Value) (w : World), g 2 = .string ⟨(numsL A.plus ++ numsL A.minus).toArray⟩ → Below w0.heap.size w0 w → Q .normal { tmps := [29, 30, 31, 32, 33, 34, 35, 2].foldl (fun t s => t.setIfInBounds s (g s)) a0.tmps, defers := a0.defers } w) :
    (Code.region 4 rd2Ops true).wp Tryz.prog Q a0 w0 := by
  refine zam mixed (by rw [hsz]; kernel_rfl) ?_
  rw [show rd2Ops.size = 8 by kernel_rfl]
  refine ⟨isVal (.pointer (some ⟨b, 5, none⟩)), zah 46 (.tmp 1) 5 ⟨b, 0, none⟩ ⟨b, 5, none⟩ (by kernel_rfl) (zaa (by kernel_rfl)) (zaf 1 (.pointer (some ⟨b, 0, none⟩)) (by kernel_rfl) e1) (zbj b 5 (by omega)), ?_⟩
  refine ⟨isVal vp, zaj 23 (.tmp 29) ⟨b, 5, none⟩ vp (by kernel_rfl) (zaa (by kernel_rfl)) (zab (V := isVal (.pointer (some ⟨b, 5, none⟩))) 29 0 (by kernel_rfl) (by kernel_rfl) (by kernel_rfl)) (hc.2 5 _ rfl) hc.1 zji, ?_⟩
  refine ⟨isVal (.string ⟨(numsL A.plus).toArray⟩), zap 98 #[.tmp 30] #[23] #[vp] (by kernel_rfl) (zaa (by kernel_rfl)) (zad _) (args1 (.tmp 30) vp (zab (V := isVal vp) 30 1 (by kernel_rfl) (by kernel_rfl) (by kernel_rfl))) (enters_of Tryz.func98 (by kernel_rfl) rfl) (by intro w hb; exact zmr A.plus vp w (zac _ _ _ _ hp hb) l1 a1), ?_⟩
  refine ⟨isVal (.pointer (some ⟨b, 6, none⟩)), zah 46 (.tmp 1) 6 ⟨b, 0, none⟩ ⟨b, 6, none⟩ (by kernel_rfl) (zaa (by kernel_rfl)) (zaf 1 (.pointer (some ⟨b, 0, none⟩)) (by kernel_rfl) e1) (zbj b 6 (by omega)), ?_⟩
  refine ⟨isVal vm, zaj 23 (.tmp 32) ⟨b, 6, none⟩ vm (by kernel_rfl) (zaa (by kernel_rfl)) (zab (V := isVal (.pointer (some ⟨b, 6, none⟩))) 32 3 (by kernel_rfl) (by kernel_rfl) (by kernel_rfl)) (hc.2 6 _ rfl) hc.1 zji, ?_⟩
  refine ⟨isVal (.string ⟨(numsL A.minus).toArray⟩), zap 98 #[.tmp 33] #[23] #[vm] (by kernel_rfl) (zaa (by kernel_rfl)) (zad _) (args1 (.tmp 33) vm (zab (V := isVal vm) 33 4 (by kernel_rfl) (by kernel_rfl) (by kernel_rfl))) (enters_of Tryz.func98 (by kernel_rfl) rfl) (by intro w hb; exact zmr A.minus vm w (zac _ _ _ _ hm hb) l2 a2), ?_⟩
  refine ⟨isVal (.string ⟨((numsL A.plus) ++ (numsL A.minus)).toArray⟩), zas .add 9 9 (.tmp 31) (.tmp 34) (.string ⟨(numsL A.plus).toArray⟩) (.string ⟨(numsL A.minus).toArray⟩) (.string ⟨((numsL A.plus) ++ (numsL A.minus)).toArray⟩) (by kernel_rfl) (zaa (by kernel_rfl)) (zab (V := isVal (.string ⟨(numsL A.plus).toArray⟩)) 31 2 (by kernel_rfl) (by kernel_rfl) (by kernel_rfl)) (zab (V := isVal (.string ⟨(numsL A.minus).toArray⟩)) 34 5 (by kernel_rfl) (by kernel_rfl) (by kernel_rfl)) (fun _ => rfl) (fun W => run_string_add_lists W (numsL A.plus) (numsL A.minus) (by rw [zdh]; omega) (by rw [zdh]; omega)), ?_⟩
  refine ⟨isVal (.string ⟨((numsL A.plus) ++ (numsL A.minus)).toArray⟩), zau (.tmp 35) (by kernel_rfl) (zaa (by kernel_rfl)) (zad _) (zab (V := isVal (.string ⟨((numsL A.plus) ++ (numsL A.minus)).toArray⟩)) 35 6 (by kernel_rfl) (by kernel_rfl) (by kernel_rfl)), ?_⟩
  intro a w hkp hb hd
  rw [zbg hkp [some 29, some 30, some 31, some 32, some 33, some 34, some 35, some 2] [29, 30, 31, 32, 33, 34, 35, 2] (by kernel_rfl) (by decide)]
  have d2 := zal (hd 7 (by rw [show rd2Ops.size = 8 by kernel_rfl]; decide)) (t := 2) (V := isVal (.string ⟨(numsL A.plus ++ numsL A.minus).toArray⟩)) (by kernel_rfl) (by kernel_rfl)
  exact hQ (fun s => a.tmps.getD s undef) w d2 hb
theorem zaz1 (F : Nat) (t : TypeId) (w : World) : (binOp .rem t (.int .u64 (F : Int)) (.int .u64 4294967296)).run Tryz.prog w = .ok (.int .u64 ((F % 4294967296 : Nat) : Int)) w := by
  simp [go_sem]
  exact Int.tmod_eq_emod_of_nonneg (by omega)
theorem zci1 (F : Nat) (h : F < 18446744073709551616) (t : TypeId) (w : World) : (binOp .quo t (.int .u64 (F : Int)) (.int .u64 4294967296)).run Tryz.prog w = .ok (.int .u64 ((F / 4294967296 : Nat) : Int)) w := by
  simp [go_sem]
  exact IntWalk.u64_in _ (by omega)
noncomputable def rd3Ops : Array Oper := zat Tryz.f68 5
theorem zvf (Q : Exit → Act → World → Prop) (a0 : Act) (w0 : World) (hsz : a0.tmps.size = 47) (A : Va) (b : Nat) (vp vm : Value) (e1 : a0.tmps.getD 1 undef = .pointer (some ⟨b, 0, none⟩)) (hc : CellsN w0 b [.int .i64 A.kind, .int .i64 A.time, .int .i64 A.node, .bool A.dead, .string ⟨A.text.toArray⟩, vp, vm, .int .u64 (A.flags.toNat : Int)]) (hF : A.flags.toNat < 18446744073709551616)
    (hQ : ∀ (g : Nat → Value) (w : World), g 2 = .string ⟨((putL (((A.flags.toNat % 4294967296 : Nat) : Int)).toNat 4) ++ (putL (((A.flags.toNat / 4294967296 : Nat) : Int)).toNat 4)).toArray⟩ → Below w0.heap.size w0 w → Q .normal { tmps := [36, 37, 38, 39, 40, 41, 42, 43, 44, 45, 46, 2].foldl (fun t s => t.setIfInBounds s (g s)) a0.tmps, defers := a0.defers } w) :
    (Code.region 5 rd3Ops true).wp Tryz.prog Q a0 w0 := by
  refine zam mixed (by rw [hsz]; kernel_rfl) ?_
  rw [show rd3Ops.size = 12 by kernel_rfl]
  refine ⟨isVal (.pointer (some ⟨b, 7, none⟩)), zah 46 (.tmp 1) 7 ⟨b, 0, none⟩ ⟨b, 7, none⟩ (by kernel_rfl) (zaa (by kernel_rfl)) (zaf 1 (.pointer (some ⟨b, 0, none⟩)) (by kernel_rfl) e1) (zbj b 7 (by omega)), ?_⟩
  refine ⟨isVal (.int .u64 (A.flags.toNat : Int)), zaj 44 (.tmp 36) ⟨b, 7, none⟩ (.int .u64 (A.flags.toNat : Int)) (by kernel_rfl) (zaa (by kernel_rfl)) (zab (V := isVal (.pointer (some ⟨b, 7, none⟩))) 36 0 (by kernel_rfl) (by kernel_rfl) (by kernel_rfl)) (hc.2 7 _ rfl) hc.1 zny, ?_⟩
  refine ⟨isVal (.int .u64 ((A.flags.toNat % 4294967296 : Nat) : Int)), zas .rem 44 44 (.tmp 37) (.const (.int .u64 4294967296)) (.int .u64 (A.flags.toNat : Int)) (.int .u64 4294967296) (.int .u64 ((A.flags.toNat % 4294967296 : Nat) : Int)) (by kernel_rfl) (zaa (by kernel_rfl)) (zab (V := isVal (.int .u64 (A.flags.toNat : Int))) 37 1 (by kernel_rfl) (by kernel_rfl) (by kernel_rfl)) (zak _) (fun _ => rfl) (zaz1 _ _), ?_⟩
  refine ⟨isVal (.int .i64 ((A.flags.toNat % 4294967296 : Nat) : Int)), zgb 44 3 (.tmp 38) (.int .u64 ((A.flags.toNat % 4294967296 : Nat) : Int)) (.int .i64 ((A.flags.toNat % 4294967296 : Nat) : Int)) (by kernel_rfl) (zaa (by kernel_rfl)) (zab (V := isVal (.int .u64 ((A.flags.toNat % 4294967296 : Nat) : Int))) 38 2 (by kernel_rfl) (by kernel_rfl) (by kernel_rfl)) (zjj _ (by have := A.flags.toNat_lt; omega)), ?_⟩
  refine ⟨isVal (.string ⟨(putL (((A.flags.toNat % 4294967296 : Nat) : Int)).toNat 4).toArray⟩), zap 66 #[.tmp 39, .const (.int .i64 4)] #[3, 3] #[.int .i64 ((A.flags.toNat % 4294967296 : Nat) : Int), .int .i64 4] (by kernel_rfl) (zaa (by kernel_rfl)) (zad _) (args2 (.tmp 39) (.const (.int .i64 4)) (.int .i64 ((A.flags.toNat % 4294967296 : Nat) : Int)) (.int .i64 4) (zab (V := isVal (.int .i64 ((A.flags.toNat % 4294967296 : Nat) : Int))) 39 3 (by kernel_rfl) (by kernel_rfl) (by kernel_rfl)) (zak _)) (enters_of Tryz.func66 (by kernel_rfl) rfl) (by intro w hb; exact zed (((A.flags.toNat % 4294967296 : Nat) : Int)) 4 w (by omega) (by omega) (by omega) (by omega) (by show _ < 4294967296; omega)), ?_⟩
  refine ⟨isVal (.pointer (some ⟨b, 7, none⟩)), zah 46 (.tmp 1) 7 ⟨b, 0, none⟩ ⟨b, 7, none⟩ (by kernel_rfl) (zaa (by kernel_rfl)) (zaf 1 (.pointer (some ⟨b, 0, none⟩)) (by kernel_rfl) e1) (zbj b 7 (by omega)), ?_⟩
  refine ⟨isVal (.int .u64 (A.flags.toNat : Int)), zaj 44 (.tmp 41) ⟨b, 7, none⟩ (.int .u64 (A.flags.toNat : Int)) (by kernel_rfl) (zaa (by kernel_rfl)) (zab (V := isVal (.pointer (some ⟨b, 7, none⟩))) 41 5 (by kernel_rfl) (by kernel_rfl) (by kernel_rfl)) (hc.2 7 _ rfl) hc.1 zny, ?_⟩
  refine ⟨isVal (.int .u64 ((A.flags.toNat / 4294967296 : Nat) : Int)), zas .quo 44 44 (.tmp 42) (.const (.int .u64 4294967296)) (.int .u64 (A.flags.toNat : Int)) (.int .u64 4294967296) (.int .u64 ((A.flags.toNat / 4294967296 : Nat) : Int)) (by kernel_rfl) (zaa (by kernel_rfl)) (zab (V := isVal (.int .u64 (A.flags.toNat : Int))) 42 6 (by kernel_rfl) (by kernel_rfl) (by kernel_rfl)) (zak _) (fun _ => rfl) (zci1 _ A.flags.toNat_lt _), ?_⟩
  refine ⟨isVal (.int .i64 ((A.flags.toNat / 4294967296 : Nat) : Int)), zgb 44 3 (.tmp 43) (.int .u64 ((A.flags.toNat / 4294967296 : Nat) : Int)) (.int .i64 ((A.flags.toNat / 4294967296 : Nat) : Int)) (by kernel_rfl) (zaa (by kernel_rfl)) (zab (V := isVal (.int .u64 ((A.flags.toNat / 4294967296 : Nat) : Int))) 43 7 (by kernel_rfl) (by kernel_rfl) (by kernel_rfl)) (zjj _ (by have := A.flags.toNat_lt; omega)), ?_⟩
  refine ⟨isVal (.string ⟨(putL (((A.flags.toNat / 4294967296 : Nat) : Int)).toNat 4).toArray⟩), zap 66 #[.tmp 44, .const (.int .i64 4)] #[3, 3] #[.int .i64 ((A.flags.toNat / 4294967296 : Nat) : Int), .int .i64 4] (by kernel_rfl) (zaa (by kernel_rfl)) (zad _) (args2 (.tmp 44) (.const (.int .i64 4)) (.int .i64 ((A.flags.toNat / 4294967296 : Nat) : Int)) (.int .i64 4) (zab (V := isVal (.int .i64 ((A.flags.toNat / 4294967296 : Nat) : Int))) 44 8 (by kernel_rfl) (by kernel_rfl) (by kernel_rfl)) (zak _)) (enters_of Tryz.func66 (by kernel_rfl) rfl) (by intro w hb; exact zed (((A.flags.toNat / 4294967296 : Nat) : Int)) 4 w (by omega) (by omega) (by omega) (by omega) (by show _ < 4294967296; omega)), ?_⟩
  refine ⟨isVal (.string ⟨((putL (((A.flags.toNat % 4294967296 : Nat) : Int)).toNat 4) ++ (putL (((A.flags.toNat / 4294967296 : Nat) : Int)).toNat 4)).toArray⟩), zas .add 9 9 (.tmp 40) (.tmp 45) (.string ⟨(putL (((A.flags.toNat % 4294967296 : Nat) : Int)).toNat 4).toArray⟩) (.string ⟨(putL (((A.flags.toNat / 4294967296 : Nat) : Int)).toNat 4).toArray⟩) (.string ⟨((putL (((A.flags.toNat % 4294967296 : Nat) : Int)).toNat 4) ++ (putL (((A.flags.toNat / 4294967296 : Nat) : Int)).toNat 4)).toArray⟩) (by kernel_rfl) (zaa (by kernel_rfl)) (zab (V := isVal (.string ⟨(putL (((A.flags.toNat % 4294967296 : Nat) : Int)).toNat 4).toArray⟩)) 40 4 (by kernel_rfl) (by kernel_rfl) (by kernel_rfl)) (zab (V := isVal (.string ⟨(putL (((A.flags.toNat / 4294967296 : Nat) : Int)).toNat 4).toArray⟩)) 45 9 (by kernel_rfl) (by kernel_rfl) (by kernel_rfl)) (fun _ => rfl) (fun W => run_string_add_lists W (putL (((A.flags.toNat % 4294967296 : Nat) : Int)).toNat 4) (putL (((A.flags.toNat / 4294967296 : Nat) : Int)).toNat 4) (by first | omega | (simp only [List.length_append, zan]; omega)) (by first | omega | (simp only [List.length_append, zan]; omega))), ?_⟩
  refine ⟨isVal (.string ⟨((putL (((A.flags.toNat % 4294967296 : Nat) : Int)).toNat 4) ++ (putL (((A.flags.toNat / 4294967296 : Nat) : Int)).toNat 4)).toArray⟩), zau (.tmp 46) (by kernel_rfl) (zaa (by kernel_rfl)) (zad _) (zab (V := isVal (.string ⟨((putL (((A.flags.toNat % 4294967296 : Nat) : Int)).toNat 4) ++ (putL (((A.flags.toNat / 4294967296 : Nat) : Int)).toNat 4)).toArray⟩)) 46 10 (by kernel_rfl) (by kernel_rfl) (by kernel_rfl)), ?_⟩
  intro a w hkp hb hd
  rw [zbg hkp [some 36, some 37, some 38, some 39, some 40, some 41, some 42, some 43, some 44, some 45, some 46, some 2] [36, 37, 38, 39, 40, 41, 42, 43, 44, 45, 46, 2] (by kernel_rfl) (by decide)]
  have d2 := zal (hd 11 (by rw [show rd3Ops.size = 12 by kernel_rfl]; decide)) (t := 2) (V := isVal (.string ⟨((putL (((A.flags.toNat % 4294967296 : Nat) : Int)).toNat 4) ++ (putL (((A.flags.toNat / 4294967296 : Nat) : Int)).toNat 4)).toArray⟩)) (by kernel_rfl) (by kernel_rfl)
  exact hQ (fun s => a.tmps.getD s undef) w d2 hb
theorem zfa1 (A : Va) (v : Value) (w : World) (hv : isVa A v w) (hok : okV A = true) (hk : A.kind = 1) : Calls Tryz.prog 68 #[v] w fun e w' => e = .returned (txt (dataL A)) ∧ Below w.heap.size w w' := by
  have HD := Kept.mk (znm hk)
  have hI : inReg A = true := by
    unfold okV kindN at hok; rw [if_pos hk] at hok; split at hok
    · rename_i h3; rw [Bool.and_eq_true] at h3; exact h3.1
    · simp at hok
  simp only [inReg, Bool.and_eq_true, decide_eq_true_eq] at hI
  obtain ⟨⟨⟨⟨t0, t1⟩, ⟨n0, n1⟩⟩, x8⟩, -⟩ := hI
  have hb2 : bitN A.dead ≤ 1 := by unfold bitN; split <;> omega
  have hk1 : (A.kind == 1) = true := by simpa using hk
  clear hok
  clear hk
  obtain ⟨vp, vm, rfl, hp, hm⟩ := hv
  have HB := Kept.mk (zar w (.cells #[.int .i64 A.kind, .int .i64 A.time, .int .i64 A.node, .bool A.dead, .string ⟨A.text.toArray⟩, vp, vm, .int .u64 (A.flags.toNat : Int)] 46))
  have HC := Kept.mk (zbe w 46 [.int .i64 A.kind, .int .i64 A.time, .int .i64 A.node, .bool A.dead, .string ⟨A.text.toArray⟩, vp, vm, .int .u64 (A.flags.toNat : Int)] w.heap.size rfl)
  have HP := Kept.mk (zac _ _ _ _ hp HB.out)
  have HM := Kept.mk (zac _ _ _ _ hm HB.out)
  clear hp hm
  have k0 := HC.out.2 0 _ rfl
  go_enter Tryz.func68, Tryz.ntmps68
  go_wp2_with fail
  generalize w.alloc (.cells #[.int .i64 A.kind, .int .i64 A.time, .int .i64 A.node, .bool A.dead, .string ⟨A.text.toArray⟩, vp, vm, .int .u64 (A.flags.toNat : Int)] 46) = W0 at *
  clear k0
  refine zug _ _ _ rfl A w.heap.size vp vm rfl HC.out t0 t1 n0 n1 (by omega) hb2 ?_
  intro f9 W9 d2 hb9
  simp only [List.foldl_cons, List.foldl_nil, d2]
  generalize f9 6 = y6
  generalize f9 7 = y7
  generalize f9 8 = y8
  generalize f9 9 = y9
  generalize f9 10 = y10
  generalize f9 11 = y11
  generalize f9 12 = y12
  generalize f9 13 = y13
  generalize f9 14 = y14
  generalize f9 15 = y15
  generalize f9 16 = y16
  generalize f9 17 = y17
  generalize f9 18 = y18
  generalize f9 19 = y19
  generalize f9 20 = y20
  generalize f9 21 = y21
  generalize f9 22 = y22
  generalize f9 23 = y23
  generalize f9 24 = y24
  generalize f9 25 = y25
  clear d2
  simp only [List.setIfInBounds_toArray, List.set_cons_succ, List.set_cons_zero]
  replace HB := Kept.mk (HB.out.trans (hb9.mono HB.out.size))
  clear hb9
  go_wp2
  go_ret
  refine ⟨zku ?_, HB.out⟩
  rw [HD.out]
  simp only [List.append_assoc, bitI, Int.toNat_natCast]
theorem zdv1 (A : Va) (v : Value) (w : World) (hv : isVa A v w) (hok : okV A = true) (hk : A.kind = 2) : Calls Tryz.prog 68 #[v] w fun e w' => e = .returned (txt (dataL A)) ∧ Below w.heap.size w w' := by
  have HD := Kept.mk (zir hk)
  have hI : zbo A = true := by
    unfold okV kindN at hok; rw [if_neg (by rw [hk]; decide), if_pos hk] at hok; split at hok
    · rename_i h3; rw [Bool.and_eq_true] at h3; exact h3.1
    · simp at hok
  simp only [zbo, okRow, Bool.and_eq_true, decide_eq_true_eq] at hI
  obtain ⟨⟨l1, a1⟩, ⟨l2, a2⟩⟩ := hI
  have hk1 : (A.kind == 1) = false := by simp [hk]
  have hk2 : (A.kind == 2) = true := by simpa using hk
  clear hok
  clear hk
  obtain ⟨vp, vm, rfl, hp, hm⟩ := hv
  have HB := Kept.mk (zar w (.cells #[.int .i64 A.kind, .int .i64 A.time, .int .i64 A.node, .bool A.dead, .string ⟨A.text.toArray⟩, vp, vm, .int .u64 (A.flags.toNat : Int)] 46))
  have HC := Kept.mk (zbe w 46 [.int .i64 A.kind, .int .i64 A.time, .int .i64 A.node, .bool A.dead, .string ⟨A.text.toArray⟩, vp, vm, .int .u64 (A.flags.toNat : Int)] w.heap.size rfl)
  have HP := Kept.mk (zac _ _ _ _ hp HB.out)
  have HM := Kept.mk (zac _ _ _ _ hm HB.out)
  clear hp hm
  have k0 := HC.out.2 0 _ rfl
  go_enter Tryz.func68, Tryz.ntmps68
  go_wp2_with fail
  generalize w.alloc (.cells #[.int .i64 A.kind, .int .i64 A.time, .int .i64 A.node, .bool A.dead, .string ⟨A.text.toArray⟩, vp, vm, .int .u64 (A.flags.toNat : Int)] 46) = W0 at *
  clear k0
  refine zvo _ _ _ rfl A w.heap.size vp vm rfl HC.out HP.out HM.out (by omega) (by omega) a1 a2 ?_
  intro f9 W9 d2 hb9
  simp only [List.foldl_cons, List.foldl_nil, d2]
  generalize f9 29 = y29
  generalize f9 30 = y30
  generalize f9 31 = y31
  generalize f9 32 = y32
  generalize f9 33 = y33
  generalize f9 34 = y34
  generalize f9 35 = y35
  clear d2
  simp only [List.setIfInBounds_toArray, List.set_cons_succ, List.set_cons_zero]
  replace HB := Kept.mk (HB.out.trans (hb9.mono HB.out.size))
  clear hb9
  go_wp2
  go_ret
  exact ⟨zku HD.out.symm, HB.out⟩
theorem zek1 (A : Va) (v : Value) (w : World) (hv : isVa A v w) (hk : A.kind = 3) : Calls Tryz.prog 68 #[v] w fun e w' => e = .returned (txt (dataL A)) ∧ Below w.heap.size w w' := by
  have HD := Kept.mk (zik hk)
  have hk1 : (A.kind == 1) = false := by simp [hk]
  have hk2 : (A.kind == 2) = false := by simp [hk]
  clear hk
  obtain ⟨vp, vm, rfl, hp, hm⟩ := hv
  have HB := Kept.mk (zar w (.cells #[.int .i64 A.kind, .int .i64 A.time, .int .i64 A.node, .bool A.dead, .string ⟨A.text.toArray⟩, vp, vm, .int .u64 (A.flags.toNat : Int)] 46))
  have HC := Kept.mk (zbe w 46 [.int .i64 A.kind, .int .i64 A.time, .int .i64 A.node, .bool A.dead, .string ⟨A.text.toArray⟩, vp, vm, .int .u64 (A.flags.toNat : Int)] w.heap.size rfl)
  have HP := Kept.mk (zac _ _ _ _ hp HB.out)
  have HM := Kept.mk (zac _ _ _ _ hm HB.out)
  clear hp hm
  have k0 := HC.out.2 0 _ rfl
  go_enter Tryz.func68, Tryz.ntmps68
  go_wp2_with fail
  generalize w.alloc (.cells #[.int .i64 A.kind, .int .i64 A.time, .int .i64 A.node, .bool A.dead, .string ⟨A.text.toArray⟩, vp, vm, .int .u64 (A.flags.toNat : Int)] 46) = W0 at *
  clear k0
  refine zvf _ _ _ rfl A w.heap.size vp vm rfl HC.out A.flags.toNat_lt ?_
  intro f9 W9 d2 hb9
  simp only [List.foldl_cons, List.foldl_nil, d2]
  generalize f9 36 = y36
  generalize f9 37 = y37
  generalize f9 38 = y38
  generalize f9 39 = y39
  generalize f9 40 = y40
  generalize f9 41 = y41
  generalize f9 42 = y42
  generalize f9 43 = y43
  generalize f9 44 = y44
  generalize f9 45 = y45
  generalize f9 46 = y46
  clear d2
  simp only [List.setIfInBounds_toArray, List.set_cons_succ, List.set_cons_zero]
  replace HB := Kept.mk (HB.out.trans (hb9.mono HB.out.size))
  clear hb9
  go_wp2
  go_ret
  refine ⟨zku ?_, HB.out⟩
  rw [HD.out]
  simp only [Int.toNat_natCast]
theorem zwf (A : Va) (v : Value) (w : World) (hv : isVa A v w) (hok : okV A = true) : Calls Tryz.prog 68 #[v] w fun e w' => ∃ x, e = .returned x ∧ isVal (txt (dataL A)) x w' ∧ Below w.heap.size w w' := by
  have hk := zqt hok
  have h : A.kind = 1 ∨ A.kind = 2 ∨ A.kind = 3 := by omega
  have key : Calls Tryz.prog 68 #[v] w fun e w' => e = .returned (txt (dataL A)) ∧ Below w.heap.size w w' := by
    rcases h with h | h | h
    · exact zfa1 A v w hv hok h
    · exact zdv1 A v w hv hok h
    · exact zek1 A v w hv h
  exact key.mono (by rintro e w' ⟨rfl, hb⟩; exact ⟨_, rfl, rfl, hb⟩)
noncomputable def rpuOps : Array Oper := zat Tryz.f36 3
theorem zum (Q : Exit → Act → World → Prop) (a0 : Act) (w0 : World) (hsz : a0.tmps.size = 25) (E : En) (b : Nat) (vp vm : Value) (e1 : a0.tmps.getD 1 undef = .pointer (some ⟨b, 0, none⟩)) (hc : CellsN w0 b [.string ⟨E.key.toArray⟩, .int .i64 E.val.kind, .int .i64 E.val.time, .int .i64 E.val.node, .bool E.val.dead, .string ⟨E.val.text.toArray⟩, vp, vm, .int .u64 (E.val.flags.toNat : Int)]) (hp : isCells (E.val.plus.map intC) vp w0) (hm : isCells (E.val.minus.map intC) vm w0) (hok : okV E.val = true) (k0 : 0 ≤ E.val.kind) (k3 : E.val.kind ≤ 3) (hkl : E.key.length ≤ 8) (hdl : (dataL E.val).length ≤ 32)
    (hQ : ∀ (g : Nat → Value) (w : World), g 2 = .string ⟨((((putL (E.val.kind).toNat 1) ++ (putL ((E.key.length : Int)).toNat 1)) ++ (E.key ++ zerosL (8 - E.key.length))) ++ ((dataL E.val) ++ zerosL (32 - (dataL E.val).length))).toArray⟩ → g 3 = .int .i64 0 → Below w0.heap.size w0 w → Q .normal { tmps := [7, 8, 9, 10, 11, 12, 13, 14, 15, 16, 17, 18, 19, 20, 21, 22, 23, 24, 2, 3].foldl (fun t s => t.setIfInBounds s (g s)) a0.tmps, defers := a0.defers } w) :
    (Code.region 3 rpuOps true).wp Tryz.prog Q a0 w0 := by
  refine zam mixed (by rw [hsz]; kernel_rfl) ?_
  rw [show rpuOps.size = 20 by kernel_rfl]
  refine ⟨isVal (.pointer (some ⟨b, 1, none⟩)), zah 48 (.tmp 1) 1 ⟨b, 0, none⟩ ⟨b, 1, none⟩ (by kernel_rfl) (zaa (by kernel_rfl)) (zaf 1 (.pointer (some ⟨b, 0, none⟩)) (by kernel_rfl) e1) (zcx b 1 (by omega)), ?_⟩
  refine ⟨isVal (.pointer (some ⟨b, 1, none⟩)), zah 46 (.tmp 7) 0 ⟨b, 1, none⟩ ⟨b, 1, none⟩ (by kernel_rfl) (zaa (by kernel_rfl)) (zab (V := isVal (.pointer (some ⟨b, 1, none⟩))) 7 0 (by kernel_rfl) (by kernel_rfl) (by kernel_rfl)) (zfr b 0 (by omega)), ?_⟩
  refine ⟨isVal (.int .i64 E.val.kind), zaj 3 (.tmp 8) ⟨b, 1, none⟩ (.int .i64 E.val.kind) (by kernel_rfl) (zaa (by kernel_rfl)) (zab (V := isVal (.pointer (some ⟨b, 1, none⟩))) 8 1 (by kernel_rfl) (by kernel_rfl) (by kernel_rfl)) (hc.2 1 _ rfl) hc.1 zdj, ?_⟩
  refine ⟨isVal (.string ⟨(putL (E.val.kind).toNat 1).toArray⟩), zap 66 #[.tmp 9, .const (.int .i64 1)] #[3, 3] #[.int .i64 E.val.kind, .int .i64 1] (by kernel_rfl) (zaa (by kernel_rfl)) (zad _) (args2 (.tmp 9) (.const (.int .i64 1)) (.int .i64 E.val.kind) (.int .i64 1) (zab (V := isVal (.int .i64 E.val.kind)) 9 2 (by kernel_rfl) (by kernel_rfl) (by kernel_rfl)) (zak _)) (enters_of Tryz.func66 (by kernel_rfl) rfl) (by intro w hb; exact zed (E.val.kind) 1 w k0 (by omega) (by omega) (by omega) (by show _ < 256; omega)), ?_⟩
  refine ⟨isVal (.pointer (some ⟨b, 0, none⟩)), zah 48 (.tmp 1) 0 ⟨b, 0, none⟩ ⟨b, 0, none⟩ (by kernel_rfl) (zaa (by kernel_rfl)) (zaf 1 (.pointer (some ⟨b, 0, none⟩)) (by kernel_rfl) e1) (zcx b 0 (by omega)), ?_⟩
  refine ⟨isVal (.string ⟨E.key.toArray⟩), zaj 9 (.tmp 11) ⟨b, 0, none⟩ (.string ⟨E.key.toArray⟩) (by kernel_rfl) (zaa (by kernel_rfl)) (zab (V := isVal (.pointer (some ⟨b, 0, none⟩))) 11 4 (by kernel_rfl) (by kernel_rfl) (by kernel_rfl)) (hc.2 0 _ rfl) hc.1 zes, ?_⟩
  refine ⟨isVal (.int .i64 (E.key.length : Int)), zds 9 (.tmp 12) (.string ⟨E.key.toArray⟩) (.int .i64 (E.key.length : Int)) (by kernel_rfl) (zaa (by kernel_rfl)) (zab (V := isVal (.string ⟨E.key.toArray⟩)) 12 5 (by kernel_rfl) (by kernel_rfl) (by kernel_rfl)) (zkx E.key), ?_⟩
  refine ⟨isVal (.string ⟨(putL ((E.key.length : Int)).toNat 1).toArray⟩), zap 66 #[.tmp 13, .const (.int .i64 1)] #[3, 3] #[.int .i64 (E.key.length : Int), .int .i64 1] (by kernel_rfl) (zaa (by kernel_rfl)) (zad _) (args2 (.tmp 13) (.const (.int .i64 1)) (.int .i64 (E.key.length : Int)) (.int .i64 1) (zab (V := isVal (.int .i64 (E.key.length : Int))) 13 6 (by kernel_rfl) (by kernel_rfl) (by kernel_rfl)) (zak _)) (enters_of Tryz.func66 (by kernel_rfl) rfl) (by intro w hb; exact zed ((E.key.length : Int)) 1 w (by omega) (by omega) (by omega) (by omega) (by show _ < 256; omega)), ?_⟩
  refine ⟨isVal (.string ⟨((putL (E.val.kind).toNat 1) ++ (putL ((E.key.length : Int)).toNat 1)).toArray⟩), zas .add 9 9 (.tmp 10) (.tmp 14) (.string ⟨(putL (E.val.kind).toNat 1).toArray⟩) (.string ⟨(putL ((E.key.length : Int)).toNat 1).toArray⟩) (.string ⟨((putL (E.val.kind).toNat 1) ++ (putL ((E.key.length : Int)).toNat 1)).toArray⟩) (by kernel_rfl) (zaa (by kernel_rfl)) (zab (V := isVal (.string ⟨(putL (E.val.kind).toNat 1).toArray⟩)) 10 3 (by kernel_rfl) (by kernel_rfl) (by kernel_rfl)) (zab (V := isVal (.string ⟨(putL ((E.key.length : Int)).toNat 1).toArray⟩)) 14 7 (by kernel_rfl) (by kernel_rfl) (by kernel_rfl)) (fun _ => rfl) (fun W => run_string_add_lists W (putL (E.val.kind).toNat 1) (putL ((E.key.length : Int)).toNat 1) (by first | omega | (simp only [List.length_append, zan, zca]; omega)) (by first | omega | (simp only [List.length_append, zan, zca]; omega))), ?_⟩
  refine ⟨isVal (.pointer (some ⟨b, 0, none⟩)), zah 48 (.tmp 1) 0 ⟨b, 0, none⟩ ⟨b, 0, none⟩ (by kernel_rfl) (zaa (by kernel_rfl)) (zaf 1 (.pointer (some ⟨b, 0, none⟩)) (by kernel_rfl) e1) (zcx b 0 (by omega)), ?_⟩
  refine ⟨isVal (.string ⟨E.key.toArray⟩), zaj 9 (.tmp 16) ⟨b, 0, none⟩ (.string ⟨E.key.toArray⟩) (by kernel_rfl) (zaa (by kernel_rfl)) (zab (V := isVal (.pointer (some ⟨b, 0, none⟩))) 16 9 (by kernel_rfl) (by kernel_rfl) (by kernel_rfl)) (hc.2 0 _ rfl) hc.1 zes, ?_⟩
  refine ⟨isVal (.string ⟨(E.key ++ zerosL (8 - E.key.length)).toArray⟩), zap 67 #[.tmp 17, .const (.int .i64 8)] #[9, 3] #[.string ⟨E.key.toArray⟩, .int .i64 8] (by kernel_rfl) (zaa (by kernel_rfl)) (zad _) (args2 (.tmp 17) (.const (.int .i64 8)) (.string ⟨E.key.toArray⟩) (.int .i64 8) (zab (V := isVal (.string ⟨E.key.toArray⟩)) 17 10 (by kernel_rfl) (by kernel_rfl) (by kernel_rfl)) (zak _)) (enters_of Tryz.func67 (by kernel_rfl) rfl) (by intro w hb; exact zpu E.key 8 w hkl (by omega)), ?_⟩
  refine ⟨isVal (.string ⟨(((putL (E.val.kind).toNat 1) ++ (putL ((E.key.length : Int)).toNat 1)) ++ (E.key ++ zerosL (8 - E.key.length))).toArray⟩), zas .add 9 9 (.tmp 15) (.tmp 18) (.string ⟨((putL (E.val.kind).toNat 1) ++ (putL ((E.key.length : Int)).toNat 1)).toArray⟩) (.string ⟨(E.key ++ zerosL (8 - E.key.length)).toArray⟩) (.string ⟨(((putL (E.val.kind).toNat 1) ++ (putL ((E.key.length : Int)).toNat 1)) ++ (E.key ++ zerosL (8 - E.key.length))).toArray⟩) (by kernel_rfl) (zaa (by kernel_rfl)) (zab (V := isVal (.string ⟨((putL (E.val.kind).toNat 1) ++ (putL ((E.key.length : Int)).toNat 1)).toArray⟩)) 15 8 (by kernel_rfl) (by kernel_rfl) (by kernel_rfl)) (zab (V := isVal (.string ⟨(E.key ++ zerosL (8 - E.key.length)).toArray⟩)) 18 11 (by kernel_rfl) (by kernel_rfl) (by kernel_rfl)) (fun _ => rfl) (fun W => run_string_add_lists W ((putL (E.val.kind).toNat 1) ++ (putL ((E.key.length : Int)).toNat 1)) (E.key ++ zerosL (8 - E.key.length)) (by first | omega | (simp only [List.length_append, zan, zca]; omega)) (by first | omega | (simp only [List.length_append, zan, zca]; omega))), ?_⟩
  refine ⟨isVal (.pointer (some ⟨b, 1, none⟩)), zah 48 (.tmp 1) 1 ⟨b, 0, none⟩ ⟨b, 1, none⟩ (by kernel_rfl) (zaa (by kernel_rfl)) (zaf 1 (.pointer (some ⟨b, 0, none⟩)) (by kernel_rfl) e1) (zcx b 1 (by omega)), ?_⟩
  refine ⟨isVal (.agg #[.int .i64 E.val.kind, .int .i64 E.val.time, .int .i64 E.val.node, .bool E.val.dead, .string ⟨E.val.text.toArray⟩, vp, vm, .int .u64 (E.val.flags.toNat : Int)]), zgi 46 (.tmp 20) (b) _ [.int .i64 E.val.kind, .int .i64 E.val.time, .int .i64 E.val.node, .bool E.val.dead, .string ⟨E.val.text.toArray⟩, vp, vm, .int .u64 (E.val.flags.toNat : Int)] (by kernel_rfl) (zaa (by kernel_rfl)) (zab (V := isVal (.pointer (some ⟨b, 1, none⟩))) 20 13 (by kernel_rfl) (by kernel_rfl) (by kernel_rfl)) zaz zcc hc, ?_⟩
  refine ⟨isVal (.string ⟨(dataL E.val).toArray⟩), zap 68 #[.tmp 21] #[46] #[.agg #[.int .i64 E.val.kind, .int .i64 E.val.time, .int .i64 E.val.node, .bool E.val.dead, .string ⟨E.val.text.toArray⟩, vp, vm, .int .u64 (E.val.flags.toNat : Int)]] (by kernel_rfl) (zaa (by kernel_rfl)) (zad _) (args1 (.tmp 21) (.agg #[.int .i64 E.val.kind, .int .i64 E.val.time, .int .i64 E.val.node, .bool E.val.dead, .string ⟨E.val.text.toArray⟩, vp, vm, .int .u64 (E.val.flags.toNat : Int)]) (zab (V := isVal (.agg #[.int .i64 E.val.kind, .int .i64 E.val.time, .int .i64 E.val.node, .bool E.val.dead, .string ⟨E.val.text.toArray⟩, vp, vm, .int .u64 (E.val.flags.toNat : Int)])) 21 14 (by kernel_rfl) (by kernel_rfl) (by kernel_rfl))) (enters_of Tryz.func68 (by kernel_rfl) rfl) (by intro w hb; exact zwf E.val _ w ⟨vp, vm, rfl, zac _ _ _ _ hp hb, zac _ _ _ _ hm hb⟩ hok), ?_⟩
  refine ⟨isVal (.string ⟨((dataL E.val) ++ zerosL (32 - (dataL E.val).length)).toArray⟩), zap 67 #[.tmp 22, .const (.int .i64 32)] #[9, 3] #[.string ⟨(dataL E.val).toArray⟩, .int .i64 32] (by kernel_rfl) (zaa (by kernel_rfl)) (zad _) (args2 (.tmp 22) (.const (.int .i64 32)) (.string ⟨(dataL E.val).toArray⟩) (.int .i64 32) (zab (V := isVal (.string ⟨(dataL E.val).toArray⟩)) 22 15 (by kernel_rfl) (by kernel_rfl) (by kernel_rfl)) (zak _)) (enters_of Tryz.func67 (by kernel_rfl) rfl) (by intro w hb; exact zpu (dataL E.val) 32 w hdl (by omega)), ?_⟩
  refine ⟨isVal (.string ⟨((((putL (E.val.kind).toNat 1) ++ (putL ((E.key.length : Int)).toNat 1)) ++ (E.key ++ zerosL (8 - E.key.length))) ++ ((dataL E.val) ++ zerosL (32 - (dataL E.val).length))).toArray⟩), zas .add 9 9 (.tmp 19) (.tmp 23) (.string ⟨(((putL (E.val.kind).toNat 1) ++ (putL ((E.key.length : Int)).toNat 1)) ++ (E.key ++ zerosL (8 - E.key.length))).toArray⟩) (.string ⟨((dataL E.val) ++ zerosL (32 - (dataL E.val).length)).toArray⟩) (.string ⟨((((putL (E.val.kind).toNat 1) ++ (putL ((E.key.length : Int)).toNat 1)) ++ (E.key ++ zerosL (8 - E.key.length))) ++ ((dataL E.val) ++ zerosL (32 - (dataL E.val).length))).toArray⟩) (by kernel_rfl) (zaa (by kernel_rfl)) (zab (V := isVal (.string ⟨(((putL (E.val.kind).toNat 1) ++ (putL ((E.key.length : Int)).toNat 1)) ++ (E.key ++ zerosL (8 - E.key.length))).toArray⟩)) 19 12 (by kernel_rfl) (by kernel_rfl) (by kernel_rfl)) (zab (V := isVal (.string ⟨((dataL E.val) ++ zerosL (32 - (dataL E.val).length)).toArray⟩)) 23 16 (by kernel_rfl) (by kernel_rfl) (by kernel_rfl)) (fun _ => rfl) (fun W => run_string_add_lists W (((putL (E.val.kind).toNat 1) ++ (putL ((E.key.length : Int)).toNat 1)) ++ (E.key ++ zerosL (8 - E.key.length))) ((dataL E.val) ++ zerosL (32 - (dataL E.val).length)) (by first | omega | (simp only [List.length_append, zan, zca]; omega)) (by first | omega | (simp only [List.length_append, zan, zca]; omega))), ?_⟩
  refine ⟨isVal (.string ⟨((((putL (E.val.kind).toNat 1) ++ (putL ((E.key.length : Int)).toNat 1)) ++ (E.key ++ zerosL (8 - E.key.length))) ++ ((dataL E.val) ++ zerosL (32 - (dataL E.val).length))).toArray⟩), zau (.tmp 24) (by kernel_rfl) (zaa (by kernel_rfl)) (zad _) (zab (V := isVal (.string ⟨((((putL (E.val.kind).toNat 1) ++ (putL ((E.key.length : Int)).toNat 1)) ++ (E.key ++ zerosL (8 - E.key.length))) ++ ((dataL E.val) ++ zerosL (32 - (dataL E.val).length))).toArray⟩)) 24 17 (by kernel_rfl) (by kernel_rfl) (by kernel_rfl)), ?_⟩
  refine ⟨isVal (.int .i64 0), zau (.const (.int .i64 0)) (by kernel_rfl) (zaa (by kernel_rfl)) (zad _) (zak _), ?_⟩
  intro a w hkp hb hd
  rw [zbg hkp [some 7, some 8, some 9, some 10, some 11, some 12, some 13, some 14, some 15, some 16, some 17, some 18, some 19, some 20, some 21, some 22, some 23, some 24, some 2, some 3] [7, 8, 9, 10, 11, 12, 13, 14, 15, 16, 17, 18, 19, 20, 21, 22, 23, 24, 2, 3] (by kernel_rfl) (by decide)]
  have d2 := zal (hd 18 (by rw [show rpuOps.size = 20 by kernel_rfl]; decide)) (t := 2) (V := isVal (.string ⟨((((putL (E.val.kind).toNat 1) ++ (putL ((E.key.length : Int)).toNat 1)) ++ (E.key ++ zerosL (8 - E.key.length))) ++ ((dataL E.val) ++ zerosL (32 - (dataL E.val).length))).toArray⟩)) (by kernel_rfl) (by kernel_rfl)
  have d3 := zal (hd 19 (by rw [show rpuOps.size = 20 by kernel_rfl]; decide)) (t := 3) (V := isVal (.int .i64 0)) (by kernel_rfl) (by kernel_rfl)
  exact hQ (fun s => a.tmps.getD s undef) w d2 d3 hb
theorem zgw1 {E : En} (h : okE E = true) : okV E.val = true := by unfold okE at h; rw [Bool.and_eq_true] at h; exact h.2
theorem zck1 (E : En) (v : Value) (w : World) (hv : isEn E v w) (hF : FitE E) : Calls Tryz.prog 36 #[v] w fun e w' => e = .returned (.tuple #[.string ⟨(putF E).toArray⟩, .int .i64 (chkE E)]) ∧ Below w.heap.size w w' := by
  obtain ⟨vp, vm, rfl, hp, hm⟩ := hv
  have HB := Kept.mk (zar w (.cells #[.string ⟨E.key.toArray⟩, .int .i64 E.val.kind, .int .i64 E.val.time, .int .i64 E.val.node, .bool E.val.dead, .string ⟨E.val.text.toArray⟩, vp, vm, .int .u64 (E.val.flags.toNat : Int)] 48))
  have HC := Kept.mk (zbe w 48 [.string ⟨E.key.toArray⟩, .int .i64 E.val.kind, .int .i64 E.val.time, .int .i64 E.val.node, .bool E.val.dead, .string ⟨E.val.text.toArray⟩, vp, vm, .int .u64 (E.val.flags.toNat : Int)] w.heap.size rfl)
  have HP := Kept.mk (zac _ _ _ _ hp HB.out)
  have HM := Kept.mk (zac _ _ _ _ hm HB.out)
  clear hp hm
  have kv0 := HC.out.2 0 _ rfl
  have kv1 := HC.out.2 1 _ rfl
  have kv2 := HC.out.2 2 _ rfl
  have kv3 := HC.out.2 3 _ rfl
  have kv4 := HC.out.2 4 _ rfl
  have kv5 := HC.out.2 5 _ rfl
  have kv6 := HC.out.2 6 _ rfl
  have kv7 := HC.out.2 7 _ rfl
  have kv8 := HC.out.2 8 _ rfl
  go_enter Tryz.func36, Tryz.ntmps36
  go_wp2_with fail
  clear kv0 kv1 kv2 kv3 kv4 kv5 kv6 kv7 kv8
  generalize w.alloc (.cells #[.string ⟨E.key.toArray⟩, .int .i64 E.val.kind, .int .i64 E.val.time, .int .i64 E.val.node, .bool E.val.dead, .string ⟨E.val.text.toArray⟩, vp, vm, .int .u64 (E.val.flags.toNat : Int)] 48) = W0 at *
  refine (zpt E _ W0 ⟨vp, vm, rfl, HP.out, HM.out⟩ hF).mono ?_
  rintro e W1 ⟨rfl, hb⟩
  replace HC := Kept.mk (HC.out.keep hb HC.out.1)
  replace HB := Kept.mk (HB.out.trans (hb.mono HB.out.size))
  replace HP := Kept.mk (zac _ _ _ _ HP.out hb)
  replace HM := Kept.mk (zac _ _ _ _ HM.out hb)
  clear hb
  cases hok : okE E with
  | false =>
    have e1 : putF E = [] := by unfold putF; rw [hok]; rfl
    have e2 := zpf hok
    have H1 := Kept.mk e1
    have H2 := Kept.mk e2
    clear e1 e2 hok
    go_wp2
    go_ret2
    refine ⟨?_, HB.out⟩
    rw [H1.out, H2.out]
    rfl
  | true =>
    have e1 : putF E = putEn E := by unfold putF; rw [hok]; rfl
    have e2 := zog hok
    have H1 := Kept.mk e1
    have H2 := Kept.mk e2
    have hv := zgw1 hok
    have hk := zqt hv
    have hd := (zdb hv).1
    have hkl : E.key.length ≤ 8 := by simp only [okE, Bool.and_eq_true, decide_eq_true_eq] at hok; exact hok.1.2
    have HV := Kept.mk hv
    clear e1 e2 hok hv
    go_wp2_with fail
    refine zum _ _ _ rfl E w.heap.size vp vm rfl HC.out HP.out HM.out HV.out (by omega) (by omega) hkl hd ?_
    intro f9 W9 d2 d3 hb9
    simp only [List.foldl_cons, List.foldl_nil, d2, d3]
    generalize f9 7 = y7
    generalize f9 8 = y8
    generalize f9 9 = y9
    generalize f9 10 = y10
    generalize f9 11 = y11
    generalize f9 12 = y12
    generalize f9 13 = y13
    generalize f9 14 = y14
    generalize f9 15 = y15
    generalize f9 16 = y16
    generalize f9 17 = y17
    generalize f9 18 = y18
    generalize f9 19 = y19
    generalize f9 20 = y20
    generalize f9 21 = y21
    generalize f9 22 = y22
    generalize f9 23 = y23
    generalize f9 24 = y24
    clear d2 d3
    simp only [List.setIfInBounds_toArray, List.set_cons_succ, List.set_cons_zero]
    replace HB := Kept.mk (HB.out.trans (hb9.mono HB.out.size))
    clear hb9
    go_wp2
    go_ret2
    refine ⟨?_, HB.out⟩
    rw [H1.out, H2.out]
    unfold putEn headL
    simp only [List.append_assoc, Int.toNat_natCast]
    rfl
end Go.Proofs.YtkjghoomdefbbaaGreatDoor
end
section
namespace Go.Proofs.YtkjghoomdefbbaaGreatDoor
open Go.RowKit
attribute [local irreducible] setN
theorem zwm (g o : Nat) (w : World) : (Instr.fieldAt 48 (.pointer (some ⟨g, o, none⟩)) 0).run Tryz.prog w = .ok (.pointer (some ⟨g, o, none⟩)) w := by simp [Instr.fieldAt, run_underlying Tryz.underlying48, Instr.sureAddr, fieldPlace, Addr.add]
theorem zwv (g o : Nat) (w : World) : (Instr.fieldAt 48 (.pointer (some ⟨g, o, none⟩)) 1).run Tryz.prog w = .ok (.pointer (some ⟨g, o + 1, none⟩)) w := by simp [Instr.fieldAt, run_underlying Tryz.underlying48, Instr.sureAddr, fieldPlace, Addr.add]
theorem zwo (g o : Nat) (w : World) : (Instr.fieldAt 46 (.pointer (some ⟨g, o, none⟩)) 0).run Tryz.prog w = .ok (.pointer (some ⟨g, o, none⟩)) w := by simp [Instr.fieldAt, run_underlying Tryz.underlying46, Instr.sureAddr, fieldPlace, Addr.add]
noncomputable def rsm8Ops : Array Oper := zat Tryz.f12 8
theorem zqw (Q : Exit → Act → World → Prop) (a0 : Act) (w0 : World) (hsz : a0.tmps.size = 51) (g n k bs os cs : Nat) (cap vi xp xm : Value) (X : En) (e1 : a0.tmps.getD 1 undef = .pointer (some ⟨g, 0, none⟩)) (e4 : a0.tmps.getD 4 undef = .int .i64 (k : Int)) (HG : CellsN w0 g [cap, .slice (some ⟨bs, os, none⟩) n cs, vi]) (hk : k < n) (hbs : bs < w0.heap.size) (hxc : ∀ (jj : Nat) (x : Value), [.string ⟨X.key.toArray⟩, .int .i64 X.val.kind, .int .i64 X.val.time, .int .i64 X.val.node, .bool X.val.dead, .string ⟨X.val.text.toArray⟩, xp, xm, .int .u64 (X.val.flags.toNat : Int)][jj]? = some x → w0.cell? ⟨bs, os + k * 9 + jj, none⟩ = some x) (hl : X.key.length ≤ 1000)
    (hQ : ∀ (g : Nat → Value) (w : World), g 7 = .int .i64 (bkE X : Int) → Below w0.heap.size w0 w → Q .normal { tmps := [28, 29, 30, 31, 32, 33, 34, 35, 36, 37, 38, 39, 40, 41, 7].foldl (fun t s => t.setIfInBounds s (g s)) a0.tmps, defers := a0.defers } w) :
    (Code.region 8 rsm8Ops true).wp Tryz.prog Q a0 w0 := by
  refine zam mixed (by rw [hsz]; kernel_rfl) ?_
  rw [show rsm8Ops.size = 15 by kernel_rfl]
  refine ⟨isVal (.pointer (some ⟨g, 1, none⟩)), zah 25 (.tmp 1) 1 ⟨g, 0, none⟩ ⟨g, 1, none⟩ (by kernel_rfl) (zaa (by kernel_rfl)) (zaf 1 (.pointer (some ⟨g, 0, none⟩)) (by kernel_rfl) e1) (zbs (g)), ?_⟩
  refine ⟨isVal (.slice (some ⟨bs, os, none⟩) n cs), zaj 22 (.tmp 28) ⟨g, 1, none⟩ (.slice (some ⟨bs, os, none⟩) n cs) (by kernel_rfl) (zaa (by kernel_rfl)) (zab (V := isVal (.pointer (some ⟨g, 1, none⟩))) 28 0 (by kernel_rfl) (by kernel_rfl) (by kernel_rfl)) (HG.2 1 _ rfl) (HG.1) (zcn), ?_⟩
  refine ⟨isVal (.int .i64 (k : Int)), zag (.tmp 4) (by kernel_rfl) (zaa (by kernel_rfl)) (zad _) (zaf 4 (.int .i64 (k : Int)) (by kernel_rfl) e4), ?_⟩
  refine ⟨isVal (.pointer (some ⟨bs, os + k * 9, none⟩)), zbl 22 48 (.tmp 29) (.tmp 30) bs (os) (n) (cs) (k) (os + k * 9) (by kernel_rfl) (zaa (by kernel_rfl)) (zab (V := isVal (.slice (some ⟨bs, os, none⟩) n cs)) 29 1 (by kernel_rfl) (by kernel_rfl) (by kernel_rfl)) (zab (V := isVal (.int .i64 (k : Int))) 30 2 (by kernel_rfl) (by kernel_rfl) (by kernel_rfl)) Tryz.underlying22 (by kernel_rfl) (⟨hk, rfl⟩), ?_⟩
  refine ⟨isVal (.pointer (some ⟨bs, os + k * 9 + 1, none⟩)), zah 48 (.tmp 31) 1 ⟨bs, os + k * 9, none⟩ ⟨bs, os + k * 9 + 1, none⟩ (by kernel_rfl) (zaa (by kernel_rfl)) (zab (V := isVal (.pointer (some ⟨bs, os + k * 9, none⟩))) 31 3 (by kernel_rfl) (by kernel_rfl) (by kernel_rfl)) (zwv (bs) (os + k * 9)), ?_⟩
  refine ⟨isVal (.pointer (some ⟨bs, os + k * 9 + 1, none⟩)), zah 46 (.tmp 32) 0 ⟨bs, os + k * 9 + 1, none⟩ ⟨bs, os + k * 9 + 1, none⟩ (by kernel_rfl) (zaa (by kernel_rfl)) (zab (V := isVal (.pointer (some ⟨bs, os + k * 9 + 1, none⟩))) 32 4 (by kernel_rfl) (by kernel_rfl) (by kernel_rfl)) (zwo (bs) (os + k * 9 + 1)), ?_⟩
  refine ⟨isVal (.int .i64 X.val.kind), zaj 3 (.tmp 33) ⟨bs, os + k * 9 + 1, none⟩ (.int .i64 X.val.kind) (by kernel_rfl) (zaa (by kernel_rfl)) (zab (V := isVal (.pointer (some ⟨bs, os + k * 9 + 1, none⟩))) 33 5 (by kernel_rfl) (by kernel_rfl) (by kernel_rfl)) (hxc 1 _ rfl) (hbs) (zbr), ?_⟩
  refine ⟨isVal (.pointer (some ⟨g, 1, none⟩)), zah 25 (.tmp 1) 1 ⟨g, 0, none⟩ ⟨g, 1, none⟩ (by kernel_rfl) (zaa (by kernel_rfl)) (zaf 1 (.pointer (some ⟨g, 0, none⟩)) (by kernel_rfl) e1) (zbs (g)), ?_⟩
  refine ⟨isVal (.slice (some ⟨bs, os, none⟩) n cs), zaj 22 (.tmp 35) ⟨g, 1, none⟩ (.slice (some ⟨bs, os, none⟩) n cs) (by kernel_rfl) (zaa (by kernel_rfl)) (zab (V := isVal (.pointer (some ⟨g, 1, none⟩))) 35 7 (by kernel_rfl) (by kernel_rfl) (by kernel_rfl)) (HG.2 1 _ rfl) (HG.1) (zcn), ?_⟩
  refine ⟨isVal (.int .i64 (k : Int)), zag (.tmp 4) (by kernel_rfl) (zaa (by kernel_rfl)) (zad _) (zaf 4 (.int .i64 (k : Int)) (by kernel_rfl) e4), ?_⟩
  refine ⟨isVal (.pointer (some ⟨bs, os + k * 9, none⟩)), zbl 22 48 (.tmp 36) (.tmp 37) bs (os) (n) (cs) (k) (os + k * 9) (by kernel_rfl) (zaa (by kernel_rfl)) (zab (V := isVal (.slice (some ⟨bs, os, none⟩) n cs)) 36 8 (by kernel_rfl) (by kernel_rfl) (by kernel_rfl)) (zab (V := isVal (.int .i64 (k : Int))) 37 9 (by kernel_rfl) (by kernel_rfl) (by kernel_rfl)) Tryz.underlying22 (by kernel_rfl) (⟨hk, rfl⟩), ?_⟩
  refine ⟨isVal (.pointer (some ⟨bs, os + k * 9, none⟩)), zah 48 (.tmp 38) 0 ⟨bs, os + k * 9, none⟩ ⟨bs, os + k * 9, none⟩ (by kernel_rfl) (zaa (by kernel_rfl)) (zab (V := isVal (.pointer (some ⟨bs, os + k * 9, none⟩))) 38 10 (by kernel_rfl) (by kernel_rfl) (by kernel_rfl)) (zwm (bs) (os + k * 9)), ?_⟩
  refine ⟨isVal (.string ⟨X.key.toArray⟩), zaj 9 (.tmp 39) ⟨bs, os + k * 9, none⟩ (.string ⟨X.key.toArray⟩) (by kernel_rfl) (zaa (by kernel_rfl)) (zab (V := isVal (.pointer (some ⟨bs, os + k * 9, none⟩))) 39 11 (by kernel_rfl) (by kernel_rfl) (by kernel_rfl)) (hxc 0 _ rfl) (hbs) (zry), ?_⟩
  refine ⟨isVal (.int .i64 (bkE X : Int)), zap 11 #[.tmp 34, .tmp 40] #[3, 9] #[.int .i64 X.val.kind, .string ⟨X.key.toArray⟩] (by kernel_rfl) (zaa (by kernel_rfl)) (zad _) (args2 (.tmp 34) (.tmp 40) (.int .i64 X.val.kind) (.string ⟨X.key.toArray⟩) (zab (V := isVal (.int .i64 X.val.kind)) 34 6 (by kernel_rfl) (by kernel_rfl) (by kernel_rfl)) (zab (V := isVal (.string ⟨X.key.toArray⟩)) 40 12 (by kernel_rfl) (by kernel_rfl) (by kernel_rfl))) (enters_of Tryz.func11 (by kernel_rfl) rfl) (by intro w' hb; exact (zgv X.val.kind X.key w' hl).mono (by rintro e w2 ⟨rfl, hb2⟩; exact ⟨_, rfl, rfl, hb2⟩)), ?_⟩
  refine ⟨isVal (.int .i64 (bkE X : Int)), zau (.tmp 41) (by kernel_rfl) (zaa (by kernel_rfl)) (zad _) (zab (V := isVal (.int .i64 (bkE X : Int))) 41 13 (by kernel_rfl) (by kernel_rfl) (by kernel_rfl)), ?_⟩
  intro a w hkp hb hd
  rw [zbg hkp [some 28, some 29, some 30, some 31, some 32, some 33, some 34, some 35, some 36, some 37, some 38, some 39, some 40, some 41, some 7] [28, 29, 30, 31, 32, 33, 34, 35, 36, 37, 38, 39, 40, 41, 7] (by kernel_rfl) (by decide)]
  have d7 := zal (hd 14 (by rw [show rsm8Ops.size = 15 by kernel_rfl]; decide)) (t := 7) (V := isVal (.int .i64 (bkE X : Int))) (by kernel_rfl) (by kernel_rfl)
  exact hQ (fun s => a.tmps.getD s undef) w d7 hb
theorem zzb (A : Ar) (v : Value) (w : World) (hv : isAr A v w) (hF : FitA A) : Calls Tryz.prog 12 #[v] w fun e w' => e = .returned (sumsV A) ∧ Below w.heap.size w w' := by
  obtain ⟨vs, vi, rfl, hs, hi⟩ := hv
  have hB0 : Below w.heap.size w (((w.alloc (.cells #[.int .i64 A.cap, vs, vi] 25)).alloc (.cells #[.int .i64 0, .int .i64 0, .int .i64 0, .int .i64 0] 26)).alloc (.cells #[.int .i64 0, .int .i64 0, .int .i64 0, .int .i64 0] 26)) := (((Below.refl _ w).alloc (Nat.le_refl _) _).alloc (by simp) _).alloc (by simp; omega) _
  have HB := Kept.mk hB0
  have BA := Kept.mk (((Blk.new w 25 [.int .i64 A.cap, vs, vi] w.heap.size rfl).alloc (.cells #[.int .i64 0, .int .i64 0, .int .i64 0, .int .i64 0] 26)).alloc (.cells #[.int .i64 0, .int .i64 0, .int .i64 0, .int .i64 0] 26))
  have BR := Kept.mk ((Blk.new (w.alloc (.cells #[.int .i64 A.cap, vs, vi] 25)) 26 [.int .i64 0, .int .i64 0, .int .i64 0, .int .i64 0] (w.heap.size + 1) (by simp)).alloc (.cells #[.int .i64 0, .int .i64 0, .int .i64 0, .int .i64 0] 26))
  have BO := Kept.mk (Blk.new ((w.alloc (.cells #[.int .i64 A.cap, vs, vi] 25)).alloc (.cells #[.int .i64 0, .int .i64 0, .int .i64 0, .int .i64 0] 26)) 26 [.int .i64 0, .int .i64 0, .int .i64 0, .int .i64 0] (w.heap.size + 1 + 1) (by simp))
  have XA := Kept.mk (show isAr A (.agg #[.int .i64 A.cap, vs, vi]) (((w.alloc (.cells #[.int .i64 A.cap, vs, vi] 25)).alloc (.cells #[.int .i64 0, .int .i64 0, .int .i64 0, .int .i64 0] 26)).alloc (.cells #[.int .i64 0, .int .i64 0, .int .i64 0, .int .i64 0] 26)) from zbu A _ _ _ ⟨vs, vi, rfl, hs, hi⟩ hB0)
  have HS := Kept.mk hs
  have ka0 := BA.out.cells.2 0 _ rfl
  have ka1 := BA.out.cells.2 1 _ rfl
  have ka2 := BA.out.cells.2 2 _ rfl
  clear hs hi hB0
  go_enter Tryz.func12, Tryz.ntmps12
  go_wp2_with fail
  refine (zlc A _ _ XA.out hF).mono ?_
  rintro e W1 ⟨rfl, hb⟩
  replace HB := Kept.mk (HB.out.trans (hb.mono HB.out.size))
  replace BA := Kept.mk (BA.out.keep hb)
  replace BR := Kept.mk (BR.out.keep hb)
  replace BO := Kept.mk (BO.out.keep hb)
  clear hb XA ka0 ka1 ka2
  cases hok : okA A with
  | false =>
    have k0 := BO.out.cells.2 0 _ rfl
    have k1 := BO.out.cells.2 1 _ rfl
    have k2 := BO.out.cells.2 2 _ rfl
    have k3 := BO.out.cells.2 3 _ rfl
    have KO : Kept (Ones [.int .i64 0, .int .i64 0, .int .i64 0, .int .i64 0]) := ⟨⟨rfl, rfl, rfl, rfl, trivial⟩⟩
    have HV := Kept.mk (show sumsV A = .agg #[.int .i64 0, .int .i64 0, .int .i64 0, .int .i64 0] by unfold sumsV; rw [zjm hok, zjm hok, zjm hok, zjm hok]; rfl)
    go_wp2_with (have hz0 := KO; refine zao 26 rfl (.tmp 2) (.tmp 11) rfl (w.heap.size + 1) [.int .i64 0, .int .i64 0, .int .i64 0, .int .i64 0] zch rfl rfl BR.out.cells rfl BR.out.free KO.out ?_; clear hz0 KO k0 k1 k2 k3)
    exact bodyPost_ret (zcp rfl _ _ (w.heap.size + 1) [.int .i64 0, .int .i64 0, .int .i64 0, .int .i64 0] zch zgo rfl (BR.out.all_ (l := [.int .i64 0, .int .i64 0, .int .i64 0, .int .i64 0]) rfl).cells) rfl ⟨by rw [HV.out], zbi (by omega) _ 0 _ HB.out⟩
  | true =>
    have OKA := Kept.mk (okA_iff.1 hok)
    obtain ⟨sa, sc, e0⟩ := HS.out.len
    subst e0
    have hlen8 : A.slots.length ≤ 8 := by have h1 := OKA.out.fits; have h2 := OKA.out.room; omega
    generalize hN : A.slots.length = N at *
    have HN := Kept.mk hN
    clear hN hok
    go_wp2
    go_loopw [4] (fun i wr => ∃ k : Nat, k ≤ N ∧ i = .int .i64 (k : Int) ∧ Kept (Blk wr w.heap.size [.int .i64 A.cap, .slice sa N sc, vi]) ∧ Kept (Blk wr (w.heap.size + 1) [.int .i64 0, .int .i64 0, .int .i64 0, .int .i64 0]) ∧ Kept (Blk wr (w.heap.size + 1 + 1) (stS (A.slots.take k))) ∧ Kept (Below w.heap.size w wr)) (fun i _ => N - (intOf i).toNat)
    case atStart => exact ⟨0, Nat.zero_le _, rfl, BA, BR, BO, HB⟩
    case round =>
      clear BA BR BO HB
      obtain ⟨k, hk, rfl, BA, BR, BO, HB⟩ := hrel
      have kb1 := BA.out.cells.2 1 _ rfl
      by_cases hlt : k < N
      · have hlt' : (k : Int) < (N : Int) := by omega
        obtain ⟨X, hX⟩ : ∃ X, A.slots[k]? = some X := ⟨_, List.getElem?_eq_getElem (by rw [HN.out]; exact hlt)⟩
        have hokX := OKA.out.ents _ (List.mem_of_getElem? hX)
        have HTK := Kept.mk (show A.slots.take (k + 1) = A.slots.take k ++ [X] by rw [List.take_add_one, hX]; rfl)
        obtain ⟨bs, os, cs', ea, hbs, xp, xm, hxc, hxp, hxm⟩ := HS.out.get hX
        rw [HN.out] at ea
        injection ea with ea1 ea2 ea3
        clear ea2
        subst ea1 ea3
        have HXC := Kept.mk (show ∀ (jj : Nat) (x : Value), [.string ⟨X.key.toArray⟩, .int .i64 X.val.kind, .int .i64 X.val.time, .int .i64 X.val.node, .bool X.val.dead, .string ⟨X.val.text.toArray⟩, xp, xm, .int .u64 (X.val.flags.toNat : Int)][jj]? = some x → wr.cell? ⟨bs, os + k * 9 + jj, none⟩ = some x from fun jj x hx => (HB.out.cell (p := ⟨bs, os + k * 9 + jj, none⟩) hbs).trans (hxc jj x hx))
        have XE := Kept.mk (show isEn X (.agg #[.string ⟨X.key.toArray⟩, .int .i64 X.val.kind, .int .i64 X.val.time, .int .i64 X.val.node, .bool X.val.dead, .string ⟨X.val.text.toArray⟩, xp, xm, .int .u64 (X.val.flags.toNat : Int)]) wr from ⟨_, _, rfl, zac _ _ _ _ hxp HB.out, zac _ _ _ _ hxm HB.out⟩)
        have HPF := Kept.mk (show putF X = putEn X by unfold putF; rw [if_pos hokX])
        have HLN := Kept.mk (show (putEn X).length ≤ 1000000 by rw [zdn hokX]; decide)
        have HKL := Kept.mk (show X.key.length ≤ 1000 by have := zrt hokX; omega)
        have FE := Kept.mk (ok_fit' hokX)
        have HBS := Kept.mk hbs
        have kx0 : wr.cell? ⟨bs, os + k * 9, none⟩ = _ := HXC.out 0 _ rfl
        have kx1 : wr.cell? ⟨bs, os + k * 9 + 1, none⟩ = _ := HXC.out 1 _ rfl
        have kx2 : wr.cell? ⟨bs, os + k * 9 + 2, none⟩ = _ := HXC.out 2 _ rfl
        have kx3 : wr.cell? ⟨bs, os + k * 9 + 3, none⟩ = _ := HXC.out 3 _ rfl
        have kx4 : wr.cell? ⟨bs, os + k * 9 + 4, none⟩ = _ := HXC.out 4 _ rfl
        have kx5 : wr.cell? ⟨bs, os + k * 9 + 5, none⟩ = _ := HXC.out 5 _ rfl
        have kx6 : wr.cell? ⟨bs, os + k * 9 + 6, none⟩ = _ := HXC.out 6 _ rfl
        have kx7 : wr.cell? ⟨bs, os + k * 9 + 7, none⟩ = _ := HXC.out 7 _ rfl
        have kx8 : wr.cell? ⟨bs, os + k * 9 + 8, none⟩ = _ := HXC.out 8 _ rfl
        clear hxc hxp hxm hX hokX hbs
        go_wp2_with fail
        refine (zck1 X _ _ XE.out FE.out).mono ?_
        rintro e W2 ⟨rfl, hb⟩
        rw [HPF.out]
        have HB2 := Kept.mk (HB.out.trans (hb.mono HB.out.size))
        have BA2 := Kept.mk (BA.out.keep hb)
        have BR2 := Kept.mk (BR.out.keep hb)
        have BO2 := Kept.mk (BO.out.keep hb)
        have HX2 := Kept.mk (show ∀ (jj : Nat) (x : Value), [.string ⟨X.key.toArray⟩, .int .i64 X.val.kind, .int .i64 X.val.time, .int .i64 X.val.node, .bool X.val.dead, .string ⟨X.val.text.toArray⟩, xp, xm, .int .u64 (X.val.flags.toNat : Int)][jj]? = some x → W2.cell? ⟨bs, os + k * 9 + jj, none⟩ = some x from fun jj x hx => (hb.cell (p := ⟨bs, os + k * 9 + jj, none⟩) (Nat.lt_of_lt_of_le HBS.out HB.out.size)).trans (HXC.out jj x hx))
        have hbs2 : bs < W2.heap.size := Nat.lt_of_lt_of_le HBS.out HB2.out.size
        clear hb kb1 kx0 kx1 kx2 kx3 kx4 kx5 kx6 kx7 kx8 XE
        go_wp2_with fail
        refine zqw _ _ _ rfl w.heap.size N k bs os sc _ vi xp xm X rfl rfl BA2.out.cells hlt hbs2 HX2.out HKL.out ?_
        intro f9 W9 d7 hb9
        simp only [List.foldl_cons, List.foldl_nil, d7]
        generalize f9 28 = y28
        generalize f9 29 = y29
        generalize f9 30 = y30
        generalize f9 31 = y31
        generalize f9 32 = y32
        generalize f9 33 = y33
        generalize f9 34 = y34
        generalize f9 35 = y35
        generalize f9 36 = y36
        generalize f9 37 = y37
        generalize f9 38 = y38
        generalize f9 39 = y39
        generalize f9 40 = y40
        generalize f9 41 = y41
        clear d7
        simp only [List.setIfInBounds_toArray, List.set_cons_succ, List.set_cons_zero]
        have HB9 := Kept.mk (HB2.out.trans (hb9.mono HB2.out.size))
        have BA9 := Kept.mk (BA2.out.keep hb9)
        have BR9 := Kept.mk (BR2.out.keep hb9)
        have HO9 := Kept.mk (BO2.out.keep hb9)
        clear hb9 BA BR BO HB BA2 BR2 BO2 HB2 HX2 hbs2 HXC
        have HFIN : ∀ j, (hj : bkE X = j) → Blk (W9.setCell ⟨w.heap.size + 1 + 1, j, none⟩ (.int .i64 ((sumK j (A.slots.take k) ^^^ sumE X : Nat) : Int))).drew w.heap.size [.int .i64 A.cap, .slice (some ⟨bs, os, none⟩) N sc, vi] ∧ Blk (W9.setCell ⟨w.heap.size + 1 + 1, j, none⟩ (.int .i64 ((sumK j (A.slots.take k) ^^^ sumE X : Nat) : Int))).drew (w.heap.size + 1) [.int .i64 0, .int .i64 0, .int .i64 0, .int .i64 0] ∧ Blk (W9.setCell ⟨w.heap.size + 1 + 1, j, none⟩ (.int .i64 ((sumK j (A.slots.take k) ^^^ sumE X : Nat) : Int))).drew (w.heap.size + 1 + 1) (stS (A.slots.take (k + 1))) ∧ Below w.heap.size w (W9.setCell ⟨w.heap.size + 1 + 1, j, none⟩ (.int .i64 ((sumK j (A.slots.take k) ^^^ sumE X : Nat) : Int))).drew := by
          intro j hj
          have hj4 : j < 4 := by rw [← hj]; exact zdo _ _
          refine ⟨(BA9.out.apart (show w.heap.size ≠ w.heap.size + 1 + 1 by omega) _ _).drew, (BR9.out.apart (show w.heap.size + 1 ≠ w.heap.size + 1 + 1 by omega) _ _).drew, ?_, (HB9.out.setCell (p := ⟨w.heap.size + 1 + 1, j, none⟩) (by show w.heap.size ≤ w.heap.size + 1 + 1; omega) _).drew⟩
          rw [HTK.out, zbw1 _ _ hj]
          exact (HO9.out.set j _ (by unfold stS; exact hj4)).drew
        have hb4 : bkE X = 0 ∨ bkE X = 1 ∨ bkE X = 2 ∨ bkE X = 3 := by have := zdo X.val.kind X.key; unfold bkE; omega
        rcases hb4 with hk4 | hk4 | hk4 | hk4
        · have HFK := HFIN 0 hk4
          rw [hk4]
          have kc := HO9.out.cells.2 0 (.int .i64 (sumK 0 (A.slots.take k) : Int)) rfl
          have kf := HO9.out.free 0
          have hxo := zfz (sumK 0 (A.slots.take k)) (sumE X) (zff 0 _) (zfg _)
          clear HFIN hk4
          have HW := Kept.mk HFK
          clear HFK
          have hln : (putEn X).length ≤ 1000000 := HLN.out
          have hsm : sumE X = crcN (putEn X) := rfl
          rw [hsm] at hxo HW
          clear hsm
          generalize putEn X = q at *
          generalize sumK 0 (A.slots.take k) = sk at *
          go_wp2_with fail
          go_region_with ((with_reducible refine (zey q _ hln).mono ?_); rintro e w' ⟨rfl, rfl⟩)
          all_goals clear kc kf hxo
          all_goals generalize (W9.setCell ⟨w.heap.size + 1 + 1, 0, none⟩ (.int .i64 ((sk ^^^ crcN q : Nat) : Int))).drew = WD at *
          all_goals go_wp2
          all_goals go_roundw
          all_goals first | exact ⟨k + 1, by omega, by go_num, ⟨HW.out.1⟩, ⟨HW.out.2.1⟩, ⟨HW.out.2.2.1⟩, ⟨HW.out.2.2.2⟩⟩ | (simp [intOf]; omega)
        · have HFK := HFIN 1 hk4
          rw [hk4]
          have kc := HO9.out.cells.2 1 (.int .i64 (sumK 1 (A.slots.take k) : Int)) rfl
          have kf := HO9.out.free 1
          have hxo := zfz (sumK 1 (A.slots.take k)) (sumE X) (zff 1 _) (zfg _)
          clear HFIN hk4
          have HW := Kept.mk HFK
          clear HFK
          have hln : (putEn X).length ≤ 1000000 := HLN.out
          have hsm : sumE X = crcN (putEn X) := rfl
          rw [hsm] at hxo HW
          clear hsm
          generalize putEn X = q at *
          generalize sumK 1 (A.slots.take k) = sk at *
          go_wp2_with fail
          go_region_with ((with_reducible refine (zey q _ hln).mono ?_); rintro e w' ⟨rfl, rfl⟩)
          all_goals clear kc kf hxo
          all_goals generalize (W9.setCell ⟨w.heap.size + 1 + 1, 1, none⟩ (.int .i64 ((sk ^^^ crcN q : Nat) : Int))).drew = WD at *
          all_goals go_wp2
          all_goals go_roundw
          all_goals first | exact ⟨k + 1, by omega, by go_num, ⟨HW.out.1⟩, ⟨HW.out.2.1⟩, ⟨HW.out.2.2.1⟩, ⟨HW.out.2.2.2⟩⟩ | (simp [intOf]; omega)
        · have HFK := HFIN 2 hk4
          rw [hk4]
          have kc := HO9.out.cells.2 2 (.int .i64 (sumK 2 (A.slots.take k) : Int)) rfl
          have kf := HO9.out.free 2
          have hxo := zfz (sumK 2 (A.slots.take k)) (sumE X) (zff 2 _) (zfg _)
          clear HFIN hk4
          have HW := Kept.mk HFK
          clear HFK
          have hln : (putEn X).length ≤ 1000000 := HLN.out
          have hsm : sumE X = crcN (putEn X) := rfl
          rw [hsm] at hxo HW
          clear hsm
          generalize putEn X = q at *
          generalize sumK 2 (A.slots.take k) = sk at *
          go_wp2_with fail
          go_region_with ((with_reducible refine (zey q _ hln).mono ?_); rintro e w' ⟨rfl, rfl⟩)
          all_goals clear kc kf hxo
          all_goals generalize (W9.setCell ⟨w.heap.size + 1 + 1, 2, none⟩ (.int .i64 ((sk ^^^ crcN q : Nat) : Int))).drew = WD at *
          all_goals go_wp2
          all_goals go_roundw
          all_goals first | exact ⟨k + 1, by omega, by go_num, ⟨HW.out.1⟩, ⟨HW.out.2.1⟩, ⟨HW.out.2.2.1⟩, ⟨HW.out.2.2.2⟩⟩ | (simp [intOf]; omega)
        · have HFK := HFIN 3 hk4
          rw [hk4]
          have kc := HO9.out.cells.2 3 (.int .i64 (sumK 3 (A.slots.take k) : Int)) rfl
          have kf := HO9.out.free 3
          have hxo := zfz (sumK 3 (A.slots.take k)) (sumE X) (zff 3 _) (zfg _)
          clear HFIN hk4
          have HW := Kept.mk HFK
          clear HFK
          have hln : (putEn X).length ≤ 1000000 := HLN.out
          have hsm : sumE X = crcN (putEn X) := rfl
          rw [hsm] at hxo HW
          clear hsm
          generalize putEn X = q at *
          generalize sumK 3 (A.slots.take k) = sk at *
          go_wp2_with fail
          go_region_with ((with_reducible refine (zey q _ hln).mono ?_); rintro e w' ⟨rfl, rfl⟩)
          all_goals clear kc kf hxo
          all_goals generalize (W9.setCell ⟨w.heap.size + 1 + 1, 3, none⟩ (.int .i64 ((sk ^^^ crcN q : Nat) : Int))).drew = WD at *
          all_goals go_wp2
          all_goals go_roundw
          all_goals first | exact ⟨k + 1, by omega, by go_num, ⟨HW.out.1⟩, ⟨HW.out.2.1⟩, ⟨HW.out.2.2.1⟩, ⟨HW.out.2.2.2⟩⟩ | (simp [intOf]; omega)
      · have hlt' : ¬ (k : Int) < (N : Int) := by omega
        obtain rfl : k = N := by omega
        have HSS := Kept.mk (show stS (A.slots.take k) = [.int .i64 (sumA A 0 : Int), .int .i64 (sumA A 1 : Int), .int .i64 (sumA A 2 : Int), .int .i64 (sumA A 3 : Int)] by
          rw [List.take_of_length_le (by rw [HN.out]; exact Nat.le_refl _)]
          unfold stS
          rw [znt OKA.out, znt OKA.out, znt OKA.out, znt OKA.out])
        rw [HSS.out] at BO
        have k0 := BO.out.cells.2 0 _ rfl
        have k1 := BO.out.cells.2 1 _ rfl
        have k2 := BO.out.cells.2 2 _ rfl
        have k3 := BO.out.cells.2 3 _ rfl
        have KO : Kept (Ones [.int .i64 (sumA A 0 : Int), .int .i64 (sumA A 1 : Int), .int .i64 (sumA A 2 : Int), .int .i64 (sumA A 3 : Int)]) := ⟨⟨rfl, rfl, rfl, rfl, trivial⟩⟩
        go_wp2_with (have hz0 := KO; refine zao 26 rfl (.tmp 2) (.tmp 50) rfl (w.heap.size + 1) [.int .i64 (sumA A 0 : Int), .int .i64 (sumA A 1 : Int), .int .i64 (sumA A 2 : Int), .int .i64 (sumA A 3 : Int)] zch rfl rfl BR.out.cells rfl BR.out.free KO.out ?_; clear hz0 KO k0 k1 k2 k3)
        exact bodyPost_ret (zcp rfl _ _ (w.heap.size + 1) [.int .i64 (sumA A 0 : Int), .int .i64 (sumA A 1 : Int), .int .i64 (sumA A 2 : Int), .int .i64 (sumA A 3 : Int)] zch zgo rfl (BR.out.all_ (l := [.int .i64 (sumA A 0 : Int), .int .i64 (sumA A 1 : Int), .int .i64 (sumA A 2 : Int), .int .i64 (sumA A 3 : Int)]) rfl).cells) rfl ⟨rfl, zbi (by omega) _ 0 _ HB.out⟩
end Go.Proofs.YtkjghoomdefbbaaGreatDoor
end
section
namespace Go.Proofs.YtkjghoomdefbbaaGreatDoor
open Go.RowKit
attribute [local irreducible] setN
theorem zfa (k : Nat) (w : World) (hk : k < 4) : Calls Tryz.prog 37 #[.int .i64 (k : Int)] w fun e w' => e = .returned (.int .i64 ((2 ^ k : Nat) : Int)) ∧ Below w.heap.size w w' := by
  go_enter Tryz.func37, Tryz.ntmps37
  have h4 : k = 0 ∨ k = 1 ∨ k = 2 ∨ k = 3 := by omega
  rcases h4 with rfl | rfl | rfl | rfl <;>
  · go_wp2
    all_goals go_ret
    all_goals exact ⟨rfl, Below.refl _ _⟩
theorem zqz (a b c d e f g h : Int) (w : World) : Calls Tryz.prog 13 #[.agg #[.int .i64 a, .int .i64 b, .int .i64 c, .int .i64 d], .agg #[.int .i64 e, .int .i64 f, .int .i64 g, .int .i64 h]] w fun E w' => E = .returned (.int .i64 (dmk a b c d e f g h 4 : Int)) ∧ Below w.heap.size w w' := by
  have C := Lib.hid (show Below w.heap.size w ((w.alloc (.cells #[.int .i64 a, .int .i64 b, .int .i64 c, .int .i64 d] 26)).alloc (.cells #[.int .i64 e, .int .i64 f, .int .i64 g, .int .i64 h] 26)) from ((Below.refl _ w).alloc (Nat.le_refl _) _).alloc (by simp) _)
  have BA := Lib.hid ((Blk.new w 26 [.int .i64 a, .int .i64 b, .int .i64 c, .int .i64 d] w.heap.size rfl).alloc (.cells #[.int .i64 e, .int .i64 f, .int .i64 g, .int .i64 h] 26))
  have BB := Lib.hid (Blk.new (w.alloc (.cells #[.int .i64 a, .int .i64 b, .int .i64 c, .int .i64 d] 26)) 26 [.int .i64 e, .int .i64 f, .int .i64 g, .int .i64 h] (w.heap.size + 1) (by simp))
  go_enter Tryz.func13, Tryz.ntmps13
  go_wp2
  generalize ((w.alloc (.cells #[.int .i64 a, .int .i64 b, .int .i64 c, .int .i64 d] 26)).alloc (.cells #[.int .i64 e, .int .i64 f, .int .i64 g, .int .i64 h] 26)) = W0 at *
  go_loopw [5, 6] (fun s i wr => ∃ k : Nat, k ≤ 4 ∧ i = .int .i64 (k : Int) ∧ s = .int .i64 (dmk a b c d e f g h k : Int) ∧ Hid (Blk wr w.heap.size [.int .i64 a, .int .i64 b, .int .i64 c, .int .i64 d]) ∧ Hid (Blk wr (w.heap.size + 1) [.int .i64 e, .int .i64 f, .int .i64 g, .int .i64 h]) ∧ Hid (Below w.heap.size w wr)) (fun _ i _ => 4 - (intOf i).toNat)
  case atStart => exact ⟨0, by omega, rfl, rfl, BA, BB, C⟩
  case round =>
    clear C BA BB
    obtain ⟨k, hk, rfl, rfl, BA, BB, C⟩ := hrel
    by_cases hlt : k < 4
    · have h4 : k = 0 ∨ k = 1 ∨ k = 2 ∨ k = 3 := by omega
      rcases h4 with rfl | rfl | rfl | rfl
      · skip
        have hm : dmk a b c d e f g h 0 < 2 ^ 0 := ziw a b c d e f g h 0 (by decide)
        have HM := Lib.hid (show dmk a b c d e f g h 1 = dmk a b c d e f g h 0 + d1 a e 1 from (Nat.zero_add _).symm)
        generalize dmk a b c d e f g h 0 = m at *
        have hd := (Below.refl wr.heap.size wr).drew
        have BD := Lib.hid (BA.out.keep hd)
        have ED := Lib.hid (BB.out.keep hd)
        have CD := Lib.hid (C.out.trans (hd.mono C.out.size))
        clear hd
        have ka := BA.out.cells.2 0 _ rfl
        have kb := BB.out.cells.2 0 _ rfl
        by_cases hk : a = e
        · skip
          have HK := Lib.hid hk
          clear hk
          have hne : (a != e) = false := by have h2 := HK.out; simp [h2]
          go_wp2
          go_region
          all_goals clear ka kb hne BA BB C
          all_goals generalize wr.drew = WD at *
          all_goals go_wp2
          all_goals go_roundw
          all_goals first | exact ⟨1, by omega, rfl, by rw [HM.out]; unfold d1; rw [if_pos HK.out] <;> rfl, BD, ED, CD⟩ | (simp [intOf])
        · skip
          have HK := Lib.hid hk
          clear hk
          have hne : (a != e) = true := by have h2 := HK.out; simp [h2]
          go_wp2
          go_region
          all_goals clear ka kb hne BA BB C
          all_goals generalize wr.drew = WD at *
          all_goals go_wp2_with fail
          all_goals (refine (show Calls Tryz.prog 37 #[.int .i64 0] _ (fun e w' => e = .returned (.int .i64 1) ∧ Below _ _ w') from zfa 0 _ (by decide)).mono ?_)
          all_goals rintro e' w' ⟨rfl, hb⟩
          all_goals have A4 := Lib.hid (BD.out.keep hb)
          all_goals have B4 := Lib.hid (ED.out.keep hb)
          all_goals have C4 := Lib.hid (CD.out.trans (hb.mono CD.out.size))
          all_goals clear hb
          all_goals go_wp2
          all_goals go_roundw
          all_goals first | exact ⟨1, by omega, rfl, by rw [HM.out]; unfold d1; rw [if_neg HK.out] <;> rfl, A4, B4, C4⟩ | (simp [intOf])
      · skip
        have hm : dmk a b c d e f g h 1 < 2 ^ 1 := ziw a b c d e f g h 1 (by decide)
        have HM := Lib.hid (show dmk a b c d e f g h 2 = dmk a b c d e f g h 1 + d1 b f 2 from rfl)
        generalize dmk a b c d e f g h 1 = m at *
        have hd := (Below.refl wr.heap.size wr).drew
        have BD := Lib.hid (BA.out.keep hd)
        have ED := Lib.hid (BB.out.keep hd)
        have CD := Lib.hid (C.out.trans (hd.mono C.out.size))
        clear hd
        have ka := BA.out.cells.2 1 _ rfl
        have kb := BB.out.cells.2 1 _ rfl
        by_cases hk : b = f
        · skip
          have HK := Lib.hid hk
          clear hk
          have hne : (b != f) = false := by have h2 := HK.out; simp [h2]
          go_wp2
          go_region
          all_goals clear ka kb hne BA BB C
          all_goals generalize wr.drew = WD at *
          all_goals go_wp2
          all_goals go_roundw
          all_goals first | exact ⟨2, by omega, rfl, by rw [HM.out]; unfold d1; rw [if_pos HK.out] <;> rfl, BD, ED, CD⟩ | (simp [intOf])
        · skip
          have HK := Lib.hid hk
          clear hk
          have hne : (b != f) = true := by have h2 := HK.out; simp [h2]
          go_wp2
          go_region
          all_goals clear ka kb hne BA BB C
          all_goals generalize wr.drew = WD at *
          all_goals go_wp2_with fail
          all_goals (refine (show Calls Tryz.prog 37 #[.int .i64 1] _ (fun e w' => e = .returned (.int .i64 2) ∧ Below _ _ w') from zfa 1 _ (by decide)).mono ?_)
          all_goals rintro e' w' ⟨rfl, hb⟩
          all_goals have A4 := Lib.hid (BD.out.keep hb)
          all_goals have B4 := Lib.hid (ED.out.keep hb)
          all_goals have C4 := Lib.hid (CD.out.trans (hb.mono CD.out.size))
          all_goals clear hb
          all_goals go_wp2
          all_goals go_roundw
          all_goals first | exact ⟨2, by omega, rfl, by rw [HM.out]; unfold d1; rw [if_neg HK.out] <;> rfl, A4, B4, C4⟩ | (simp [intOf])
      · skip
        have hm : dmk a b c d e f g h 2 < 2 ^ 2 := ziw a b c d e f g h 2 (by decide)
        have HM := Lib.hid (show dmk a b c d e f g h 3 = dmk a b c d e f g h 2 + d1 c g 4 from rfl)
        generalize dmk a b c d e f g h 2 = m at *
        have hd := (Below.refl wr.heap.size wr).drew
        have BD := Lib.hid (BA.out.keep hd)
        have ED := Lib.hid (BB.out.keep hd)
        have CD := Lib.hid (C.out.trans (hd.mono C.out.size))
        clear hd
        have ka := BA.out.cells.2 2 _ rfl
        have kb := BB.out.cells.2 2 _ rfl
        by_cases hk : c = g
        · skip
          have HK := Lib.hid hk
          clear hk
          have hne : (c != g) = false := by have h2 := HK.out; simp [h2]
          go_wp2
          go_region
          all_goals clear ka kb hne BA BB C
          all_goals generalize wr.drew = WD at *
          all_goals go_wp2
          all_goals go_roundw
          all_goals first | exact ⟨3, by omega, rfl, by rw [HM.out]; unfold d1; rw [if_pos HK.out] <;> rfl, BD, ED, CD⟩ | (simp [intOf])
        · skip
          have HK := Lib.hid hk
          clear hk
          have hne : (c != g) = true := by have h2 := HK.out; simp [h2]
          go_wp2
          go_region
          all_goals clear ka kb hne BA BB C
          all_goals generalize wr.drew = WD at *
          all_goals go_wp2_with fail
          all_goals (refine (show Calls Tryz.prog 37 #[.int .i64 2] _ (fun e w' => e = .returned (.int .i64 4) ∧ Below _ _ w') from zfa 2 _ (by decide)).mono ?_)
          all_goals rintro e' w' ⟨rfl, hb⟩
          all_goals have A4 := Lib.hid (BD.out.keep hb)
          all_goals have B4 := Lib.hid (ED.out.keep hb)
          all_goals have C4 := Lib.hid (CD.out.trans (hb.mono CD.out.size))
          all_goals clear hb
          all_goals go_wp2
          all_goals go_roundw
          all_goals first | exact ⟨3, by omega, rfl, by rw [HM.out]; unfold d1; rw [if_neg HK.out] <;> rfl, A4, B4, C4⟩ | (simp [intOf])
      · skip
        have hm : dmk a b c d e f g h 3 < 2 ^ 3 := ziw a b c d e f g h 3 (by decide)
        have HM := Lib.hid (show dmk a b c d e f g h 4 = dmk a b c d e f g h 3 + d1 d h 8 from rfl)
        generalize dmk a b c d e f g h 3 = m at *
        have hd := (Below.refl wr.heap.size wr).drew
        have BD := Lib.hid (BA.out.keep hd)
        have ED := Lib.hid (BB.out.keep hd)
        have CD := Lib.hid (C.out.trans (hd.mono C.out.size))
        clear hd
        have ka := BA.out.cells.2 3 _ rfl
        have kb := BB.out.cells.2 3 _ rfl
        by_cases hk : d = h
        · skip
          have HK := Lib.hid hk
          clear hk
          have hne : (d != h) = false := by have h2 := HK.out; simp [h2]
          go_wp2
          go_region
          all_goals clear ka kb hne BA BB C
          all_goals generalize wr.drew = WD at *
          all_goals go_wp2
          all_goals go_roundw
          all_goals first | exact ⟨4, by omega, rfl, by rw [HM.out]; unfold d1; rw [if_pos HK.out] <;> rfl, BD, ED, CD⟩ | (simp [intOf])
        · skip
          have HK := Lib.hid hk
          clear hk
          have hne : (d != h) = true := by have h2 := HK.out; simp [h2]
          go_wp2
          go_region
          all_goals clear ka kb hne BA BB C
          all_goals generalize wr.drew = WD at *
          all_goals go_wp2_with fail
          all_goals (refine (show Calls Tryz.prog 37 #[.int .i64 3] _ (fun e w' => e = .returned (.int .i64 8) ∧ Below _ _ w') from zfa 3 _ (by decide)).mono ?_)
          all_goals rintro e' w' ⟨rfl, hb⟩
          all_goals have A4 := Lib.hid (BD.out.keep hb)
          all_goals have B4 := Lib.hid (ED.out.keep hb)
          all_goals have C4 := Lib.hid (CD.out.trans (hb.mono CD.out.size))
          all_goals clear hb
          all_goals go_wp2
          all_goals go_roundw
          all_goals first | exact ⟨4, by omega, rfl, by rw [HM.out]; unfold d1; rw [if_neg HK.out] <;> rfl, A4, B4, C4⟩ | (simp [intOf])
    · have hk4 : k = 4 := by omega
      subst hk4
      go_wp2
      go_ret
      exact ⟨rfl, C.out⟩
end Go.Proofs.YtkjghoomdefbbaaGreatDoor
end
section
namespace Go.Proofs.YtkjghoomdefbbaaGreatDoor
open Go.RowKit
attribute [local irreducible] setN
theorem zfu1 {P : Program} {t : TypeId} (z : Nat) (b : Bool) (h : decide (z ≠ 0) = b) (w : World) : (binOp .gtr t (.int .i64 (z : Int)) (.int .i64 0)).run P w = .ok (.bool b) w := by
  subst h
  by_cases hz : z = 0
  · subst hz; simp [go_sem]
  · have : 0 < z := by omega
    simp [go_sem, hz, this]
theorem zcn1 {mask : Int} (h : maskB mask = false) (most : Int) (l : List En) : inL mask most l = [] := by
  unfold inL
  rw [List.filter_eq_nil_iff.2 (fun e _ => by unfold askB; rw [h]; simp)]
  simp
theorem znf {A : Ar} {mask : Int} (h : okA A = false ∨ maskB mask = false) (most : Int) : inA A mask most = [] := by
  unfold inA
  rcases h with h | h
  · rw [h]; rfl
  · split
    · exact zcn1 h _ _
    · rfl
noncomputable def rin7Ops : Array Oper := zat Tryz.f16 7
theorem zqd (Q : Exit → Act → World → Prop) (a0 : Act) (w0 : World) (hsz : a0.tmps.size = 60) (g n k bs os cs : Nat) (cap vi xp xm : Value) (X : En) (e3 : a0.tmps.getD 3 undef = .pointer (some ⟨g, 0, none⟩)) (e8 : a0.tmps.getD 8 undef = .int .i64 (k : Int)) (HG : CellsN w0 g [cap, .slice (some ⟨bs, os, none⟩) n cs, vi]) (hk : k < n) (hbs : bs < w0.heap.size) (hxc : ∀ (jj : Nat) (x : Value), [.string ⟨X.key.toArray⟩, .int .i64 X.val.kind, .int .i64 X.val.time, .int .i64 X.val.node, .bool X.val.dead, .string ⟨X.val.text.toArray⟩, xp, xm, .int .u64 (X.val.flags.toNat : Int)][jj]? = some x → w0.cell? ⟨bs, os + k * 9 + jj, none⟩ = some x) (hl : X.key.length ≤ 1000) (M z : Nat) (b : Bool) (e1 : a0.tmps.getD 1 undef = .int .i64 (M : Int)) (hand : bits .and .i64 (M : Int) ((2 ^ bkE X : Nat) : Int) = (z : Int)) (hgt : decide (z ≠ 0) = b)
    (hQ : ∀ (g : Nat → Value) (w : World), g 50 = .bool b → Below w0.heap.size w0 w → Q .normal { tmps := [33, 34, 35, 36, 37, 38, 39, 40, 41, 42, 43, 44, 45, 46, 47, 48, 49, 50].foldl (fun t s => t.setIfInBounds s (g s)) a0.tmps, defers := a0.defers } w) :
    (Code.region 7 rin7Ops true).wp Tryz.prog Q a0 w0 := by
  refine zam mixed (by rw [hsz]; kernel_rfl) ?_
  rw [show rin7Ops.size = 18 by kernel_rfl]
  refine ⟨isVal (.int .i64 (M : Int)), zag (.tmp 1) (by kernel_rfl) (zaa (by kernel_rfl)) (zad _) (zaf 1 (.int .i64 (M : Int)) (by kernel_rfl) e1), ?_⟩
  refine ⟨isVal (.pointer (some ⟨g, 1, none⟩)), zah 25 (.tmp 3) 1 ⟨g, 0, none⟩ ⟨g, 1, none⟩ (by kernel_rfl) (zaa (by kernel_rfl)) (zaf 3 (.pointer (some ⟨g, 0, none⟩)) (by kernel_rfl) e3) (zbs (g)), ?_⟩
  refine ⟨isVal (.slice (some ⟨bs, os, none⟩) n cs), zaj 22 (.tmp 34) ⟨g, 1, none⟩ (.slice (some ⟨bs, os, none⟩) n cs) (by kernel_rfl) (zaa (by kernel_rfl)) (zab (V := isVal (.pointer (some ⟨g, 1, none⟩))) 34 1 (by kernel_rfl) (by kernel_rfl) (by kernel_rfl)) (HG.2 1 _ rfl) (HG.1) (zcn), ?_⟩
  refine ⟨isVal (.int .i64 (k : Int)), zag (.tmp 8) (by kernel_rfl) (zaa (by kernel_rfl)) (zad _) (zaf 8 (.int .i64 (k : Int)) (by kernel_rfl) e8), ?_⟩
  refine ⟨isVal (.pointer (some ⟨bs, os + k * 9, none⟩)), zbl 22 48 (.tmp 35) (.tmp 36) bs (os) (n) (cs) (k) (os + k * 9) (by kernel_rfl) (zaa (by kernel_rfl)) (zab (V := isVal (.slice (some ⟨bs, os, none⟩) n cs)) 35 2 (by kernel_rfl) (by kernel_rfl) (by kernel_rfl)) (zab (V := isVal (.int .i64 (k : Int))) 36 3 (by kernel_rfl) (by kernel_rfl) (by kernel_rfl)) Tryz.underlying22 (by kernel_rfl) (⟨hk, rfl⟩), ?_⟩
  refine ⟨isVal (.pointer (some ⟨bs, os + k * 9 + 1, none⟩)), zah 48 (.tmp 37) 1 ⟨bs, os + k * 9, none⟩ ⟨bs, os + k * 9 + 1, none⟩ (by kernel_rfl) (zaa (by kernel_rfl)) (zab (V := isVal (.pointer (some ⟨bs, os + k * 9, none⟩))) 37 4 (by kernel_rfl) (by kernel_rfl) (by kernel_rfl)) (zwv (bs) (os + k * 9)), ?_⟩
  refine ⟨isVal (.pointer (some ⟨bs, os + k * 9 + 1, none⟩)), zah 46 (.tmp 38) 0 ⟨bs, os + k * 9 + 1, none⟩ ⟨bs, os + k * 9 + 1, none⟩ (by kernel_rfl) (zaa (by kernel_rfl)) (zab (V := isVal (.pointer (some ⟨bs, os + k * 9 + 1, none⟩))) 38 5 (by kernel_rfl) (by kernel_rfl) (by kernel_rfl)) (zwo (bs) (os + k * 9 + 1)), ?_⟩
  refine ⟨isVal (.int .i64 X.val.kind), zaj 3 (.tmp 39) ⟨bs, os + k * 9 + 1, none⟩ (.int .i64 X.val.kind) (by kernel_rfl) (zaa (by kernel_rfl)) (zab (V := isVal (.pointer (some ⟨bs, os + k * 9 + 1, none⟩))) 39 6 (by kernel_rfl) (by kernel_rfl) (by kernel_rfl)) (hxc 1 _ rfl) (hbs) (zbr), ?_⟩
  refine ⟨isVal (.pointer (some ⟨g, 1, none⟩)), zah 25 (.tmp 3) 1 ⟨g, 0, none⟩ ⟨g, 1, none⟩ (by kernel_rfl) (zaa (by kernel_rfl)) (zaf 3 (.pointer (some ⟨g, 0, none⟩)) (by kernel_rfl) e3) (zbs (g)), ?_⟩
  refine ⟨isVal (.slice (some ⟨bs, os, none⟩) n cs), zaj 22 (.tmp 41) ⟨g, 1, none⟩ (.slice (some ⟨bs, os, none⟩) n cs) (by kernel_rfl) (zaa (by kernel_rfl)) (zab (V := isVal (.pointer (some ⟨g, 1, none⟩))) 41 8 (by kernel_rfl) (by kernel_rfl) (by kernel_rfl)) (HG.2 1 _ rfl) (HG.1) (zcn), ?_⟩
  refine ⟨isVal (.int .i64 (k : Int)), zag (.tmp 8) (by kernel_rfl) (zaa (by kernel_rfl)) (zad _) (zaf 8 (.int .i64 (k : Int)) (by kernel_rfl) e8), ?_⟩
  refine ⟨isVal (.pointer (some ⟨bs, os + k * 9, none⟩)), zbl 22 48 (.tmp 42) (.tmp 43) bs (os) (n) (cs) (k) (os + k * 9) (by kernel_rfl) (zaa (by kernel_rfl)) (zab (V := isVal (.slice (some ⟨bs, os, none⟩) n cs)) 42 9 (by kernel_rfl) (by kernel_rfl) (by kernel_rfl)) (zab (V := isVal (.int .i64 (k : Int))) 43 10 (by kernel_rfl) (by kernel_rfl) (by kernel_rfl)) Tryz.underlying22 (by kernel_rfl) (⟨hk, rfl⟩), ?_⟩
  refine ⟨isVal (.pointer (some ⟨bs, os + k * 9, none⟩)), zah 48 (.tmp 44) 0 ⟨bs, os + k * 9, none⟩ ⟨bs, os + k * 9, none⟩ (by kernel_rfl) (zaa (by kernel_rfl)) (zab (V := isVal (.pointer (some ⟨bs, os + k * 9, none⟩))) 44 11 (by kernel_rfl) (by kernel_rfl) (by kernel_rfl)) (zwm (bs) (os + k * 9)), ?_⟩
  refine ⟨isVal (.string ⟨X.key.toArray⟩), zaj 9 (.tmp 45) ⟨bs, os + k * 9, none⟩ (.string ⟨X.key.toArray⟩) (by kernel_rfl) (zaa (by kernel_rfl)) (zab (V := isVal (.pointer (some ⟨bs, os + k * 9, none⟩))) 45 12 (by kernel_rfl) (by kernel_rfl) (by kernel_rfl)) (hxc 0 _ rfl) (hbs) (zry), ?_⟩
  refine ⟨isVal (.int .i64 (bkE X : Int)), zap 11 #[.tmp 40, .tmp 46] #[3, 9] #[.int .i64 X.val.kind, .string ⟨X.key.toArray⟩] (by kernel_rfl) (zaa (by kernel_rfl)) (zad _) (args2 (.tmp 40) (.tmp 46) (.int .i64 X.val.kind) (.string ⟨X.key.toArray⟩) (zab (V := isVal (.int .i64 X.val.kind)) 40 7 (by kernel_rfl) (by kernel_rfl) (by kernel_rfl)) (zab (V := isVal (.string ⟨X.key.toArray⟩)) 46 13 (by kernel_rfl) (by kernel_rfl) (by kernel_rfl))) (enters_of Tryz.func11 (by kernel_rfl) rfl) (by intro w' hb; exact (zgv X.val.kind X.key w' hl).mono (by rintro e w2 ⟨rfl, hb2⟩; exact ⟨_, rfl, rfl, hb2⟩)), ?_⟩
  refine ⟨isVal (.int .i64 ((2 ^ bkE X : Nat) : Int)), zap 37 #[.tmp 47] #[3] #[.int .i64 (bkE X : Int)] (by kernel_rfl) (zaa (by kernel_rfl)) (zad _) (args1 (.tmp 47) (.int .i64 (bkE X : Int)) (zab (V := isVal (.int .i64 (bkE X : Int))) 47 14 (by kernel_rfl) (by kernel_rfl) (by kernel_rfl))) (enters_of Tryz.func37 (by kernel_rfl) rfl) (by intro w' hb; exact (zfa (bkE X) w' (zdo _ _)).mono (by rintro e w2 ⟨rfl, hb2⟩; exact ⟨_, rfl, rfl, hb2⟩)), ?_⟩
  refine ⟨isVal (.int .i64 (z : Int)), zas .and 3 3 (.tmp 33) (.tmp 48) (.int .i64 (M : Int)) (.int .i64 ((2 ^ bkE X : Nat) : Int)) (.int .i64 (z : Int)) (by kernel_rfl) (zaa (by kernel_rfl)) (zab (V := isVal (.int .i64 (M : Int))) 33 0 (by kernel_rfl) (by kernel_rfl) (by kernel_rfl)) (zab (V := isVal (.int .i64 ((2 ^ bkE X : Nat) : Int))) 48 15 (by kernel_rfl) (by kernel_rfl) (by kernel_rfl)) (fun _ => rfl) (zfw1 _ _ _ hand), ?_⟩
  refine ⟨isVal (.bool b), zas .gtr 3 3 (.tmp 49) (.const (.int .i64 0)) (.int .i64 (z : Int)) (.int .i64 0) (.bool b) (by kernel_rfl) (zaa (by kernel_rfl)) (zab (V := isVal (.int .i64 (z : Int))) 49 16 (by kernel_rfl) (by kernel_rfl) (by kernel_rfl)) (zak _) (fun _ => rfl) (zfu1 _ _ hgt), ?_⟩
  intro a w hkp hb hd
  rw [zbg hkp [some 33, some 34, some 35, some 36, some 37, some 38, some 39, some 40, some 41, some 42, some 43, some 44, some 45, some 46, some 47, some 48, some 49, some 50] [33, 34, 35, 36, 37, 38, 39, 40, 41, 42, 43, 44, 45, 46, 47, 48, 49, 50] (by kernel_rfl) (by decide)]
  have d50 := zal (hd 17 (by rw [show rin7Ops.size = 18 by kernel_rfl]; decide)) (t := 50) (V := isVal (.bool b)) (by kernel_rfl) (by kernel_rfl)
  exact hQ (fun s => a.tmps.getD s undef) w d50 hb
theorem zxg (A : Ar) (mask most : Int) (v : Value) (w : World) (hv : isAr A v w) (hF : FitA A) : Calls Tryz.prog 16 #[v, .int .i64 mask, .int .i64 most] w fun e w' => ∃ v', e = .returned v' ∧ isEns (inA A mask most) v' w' ∧ Below w.heap.size w w' := by
  obtain ⟨vs, vi, rfl, hs, hi⟩ := hv
  have hB0 : Below w.heap.size w (w.alloc (.cells #[.int .i64 A.cap, vs, vi] 25)) := (Below.refl _ w).alloc (Nat.le_refl _) _
  have HB := Kept.mk hB0
  have BA := Kept.mk (Blk.new w 25 [.int .i64 A.cap, vs, vi] w.heap.size rfl)
  have HZ := Kept.mk (show w.heap.size + 1 ≤ (w.alloc (.cells #[.int .i64 A.cap, vs, vi] 25)).heap.size by simp)
  have XA := Kept.mk (show isAr A (.agg #[.int .i64 A.cap, vs, vi]) (w.alloc (.cells #[.int .i64 A.cap, vs, vi] 25)) from zbu A _ _ _ ⟨vs, vi, rfl, hs, hi⟩ hB0)
  have HS := Kept.mk hs
  have ka0 := BA.out.cells.2 0 _ rfl
  have ka1 := BA.out.cells.2 1 _ rfl
  have ka2 := BA.out.cells.2 2 _ rfl
  clear hs hi hB0
  go_enter Tryz.func16, Tryz.ntmps16
  go_wp2_with fail
  refine (zlc A _ _ XA.out hF).mono ?_
  rintro e W1 ⟨rfl, hb⟩
  replace HB := Kept.mk (HB.out.trans (hb.mono HB.out.size))
  replace BA := Kept.mk (BA.out.keep hb)
  replace HZ := Kept.mk (Nat.le_trans HZ.out hb.size)
  clear hb XA ka0 ka1 ka2
  cases hok : okA A with
  | false =>
    have HN := Kept.mk (znf (.inl hok) most (mask := mask))
    go_wp2
    go_ret
    exact ⟨_, rfl, by rw [HN.out]; exact .inl ⟨rfl, rfl⟩, HB.out⟩
  | true =>
    by_cases h0 : mask < 0
    · have HN := Kept.mk (znf (A := A) (.inr (show maskB mask = false by unfold maskB; rw [decide_eq_false (by omega)]; rfl)) most)
      go_wp2
      go_ret
      exact ⟨_, rfl, by rw [HN.out]; exact .inl ⟨rfl, rfl⟩, HB.out⟩
    · by_cases h15 : 15 < mask
      · have HN := Kept.mk (znf (A := A) (.inr (show maskB mask = false by unfold maskB; rw [decide_eq_false (p := mask ≤ 15) (by omega), Bool.and_false])) most)
        go_wp2
        go_ret
        exact ⟨_, rfl, by rw [HN.out]; exact .inl ⟨rfl, rfl⟩, HB.out⟩
      · have hmk : maskB mask = true := by unfold maskB; simp; omega
        obtain ⟨M, rfl⟩ : ∃ M : Nat, mask = (M : Int) := ⟨mask.toNat, by omega⟩
        have HMK := Kept.mk hmk
        have hM : M ≤ 15 := by omega
        have HIA := Kept.mk (show inA A (M : Int) most = inL (M : Int) most A.slots by unfold inA; rw [hok]; rfl)
        have OKA := Kept.mk (okA_iff.1 hok)
        obtain ⟨sa, sc, e0⟩ := HS.out.len
        subst e0
        have hlen8 : A.slots.length ≤ 8 := by have h1 := OKA.out.fits; have h2 := OKA.out.room; omega
        generalize hN : A.slots.length = N at *
        have HN := Kept.mk hN
        clear hN hok hmk
        go_wp2
        go_loopw [7, 8] (fun OV_ i wr => ∃ (k : Nat) (ps : RowE), k ≤ N ∧ i = .int .i64 (k : Int) ∧ Kept (OutV (w.heap.size + 1) OV_ ps wr) ∧ Kept (ps.map (·.1) = inL (M : Int) most (A.slots.take k)) ∧ Kept (ps.length ≤ k) ∧ Kept (Blk wr w.heap.size [.int .i64 A.cap, .slice sa N sc, vi]) ∧ Kept (Below w.heap.size w wr) ∧ Kept (w.heap.size + 1 ≤ wr.heap.size)) (fun _ i _ => N - (intOf i).toNat)
        case atStart => exact ⟨0, [], Nat.zero_le _, rfl, ⟨ztv _ _⟩, ⟨by rw [List.take_zero, zyc]; rfl⟩, ⟨Nat.le_refl _⟩, BA, HB, HZ⟩
        case round =>
          clear BA HB HZ
          obtain ⟨k, ps, hk, rfl, OV, HPM, HPK, BA, HB, HZ⟩ := hrel
          have kb1 := BA.out.cells.2 1 _ rfl
          have fin : (¬ k < N ∨ ¬ (ps.length : Int) < most) → ∀ u W, isEns (ps.map (·.1)) u W → isEns (inA A (M : Int) most) u W := fun h u W hu => by
            rw [HIA.out]
            rcases h with h | h
            · rw [HPM.out, List.take_of_length_le (by rw [HN.out]; omega)] at hu; exact hu
            · have e := znz (M : Int) most (A.slots.take k) (A.slots.drop k) (by rw [← HPM.out, List.length_map]; omega)
              rw [List.take_append_drop] at e
              rw [e, ← HPM.out]; exact hu
          have FIN := Kept.mk fin
          have HENS := Kept.mk OV.out.ens
          clear fin
          obtain ⟨va, vc, rfl⟩ := OV.out.len
          have hpk := HPK.out
          generalize hn : ps.length = n at *
          have HNL := Kept.mk hn
          clear hn
          by_cases hlt : k < N
          · have hlt' : (k : Int) < (N : Int) := by omega
            by_cases hmo : (n : Int) < most
            · obtain ⟨X, hX⟩ : ∃ X, A.slots[k]? = some X := ⟨_, List.getElem?_eq_getElem (by rw [HN.out]; exact hlt)⟩
              have hokX := OKA.out.ents _ (List.mem_of_getElem? hX)
              have HTK := Kept.mk (show inL (M : Int) most (A.slots.take (k + 1)) = inStep (M : Int) most (inL (M : Int) most (A.slots.take k)) X by rw [List.take_add_one, hX]; exact zjp _ _ _ _)
              have HLL := Kept.mk (show ((inL (M : Int) most (A.slots.take k)).length : Int) < most by rw [← HPM.out, List.length_map, HNL.out]; exact hmo)
              obtain ⟨bs, os, cs', ea, hbs, xp, xm, hxc, hxp, hxm⟩ := HS.out.get hX
              rw [HN.out] at ea
              injection ea with ea1 ea2 ea3
              clear ea2
              subst ea1 ea3
              have HXC := Kept.mk (show ∀ (jj : Nat) (x : Value), [.string ⟨X.key.toArray⟩, .int .i64 X.val.kind, .int .i64 X.val.time, .int .i64 X.val.node, .bool X.val.dead, .string ⟨X.val.text.toArray⟩, xp, xm, .int .u64 (X.val.flags.toNat : Int)][jj]? = some x → wr.cell? ⟨bs, os + k * 9 + jj, none⟩ = some x from fun jj x hx => (HB.out.cell (p := ⟨bs, os + k * 9 + jj, none⟩) hbs).trans (hxc jj x hx))
              have HKL := Kept.mk (show X.key.length ≤ 1000 by have := zrt hokX; omega)
              have ROW := Kept.mk (show RowsOk [(X, xp, xm)] w from fun q hq => by rw [List.mem_singleton] at hq; subst hq; exact ⟨hxp, hxm⟩)
              have hbs2 : bs < wr.heap.size := Nat.lt_of_lt_of_le hbs HB.out.size
              have HAND := Kept.mk (zwn M (2 ^ bkE X) (by omega) (Nat.lt_of_lt_of_le (Nat.pow_lt_pow_right (by decide) (zdo X.val.kind X.key)) (by decide)))
              have HASK := Kept.mk (show askB (M : Int) X = decide (M &&& 2 ^ bkE X ≠ 0) by unfold askB; rw [HMK.out]; rfl)
              obtain ⟨z, hz⟩ : ∃ z, M &&& 2 ^ bkE X = z := ⟨_, rfl⟩
              rw [hz] at HAND HASK
              obtain ⟨b, hb⟩ : ∃ b, decide (z ≠ 0) = b := ⟨_, rfl⟩
              rw [hb] at HASK
              have HBZ := Kept.mk hb
              clear hxc hxp hxm hX hokX hbs hz hb
              go_wp2_with fail
              refine zqd _ _ _ rfl w.heap.size N k bs os sc _ vi xp xm X rfl rfl BA.out.cells hlt hbs2 HXC.out HKL.out M z b rfl HAND.out HBZ.out ?_
              intro f9 W9 d50 hb9
              simp only [List.foldl_cons, List.foldl_nil, d50]
              generalize f9 33 = y33
              generalize f9 34 = y34
              generalize f9 35 = y35
              generalize f9 36 = y36
              generalize f9 37 = y37
              generalize f9 38 = y38
              generalize f9 39 = y39
              generalize f9 40 = y40
              generalize f9 41 = y41
              generalize f9 42 = y42
              generalize f9 43 = y43
              generalize f9 44 = y44
              generalize f9 45 = y45
              generalize f9 46 = y46
              generalize f9 47 = y47
              generalize f9 48 = y48
              generalize f9 49 = y49
              clear d50
              simp only [List.setIfInBounds_toArray, List.set_cons_succ, List.set_cons_zero]
              have HB9 := Kept.mk (HB.out.trans (hb9.mono HB.out.size))
              have BA9 := Kept.mk (BA.out.keep hb9)
              have OV9 := Kept.mk (OV.out.keep hb9)
              have HZ9 := Kept.mk (Nat.le_trans HZ.out hb9.size)
              have kx0 : W9.cell? ⟨bs, os + k * 9, none⟩ = _ := (hb9.cell (p := ⟨bs, os + k * 9 + 0, none⟩) hbs2).trans (HXC.out 0 _ rfl)
              have kx1 : W9.cell? ⟨bs, os + k * 9 + 1, none⟩ = _ := (hb9.cell (p := ⟨bs, os + k * 9 + 1, none⟩) hbs2).trans (HXC.out 1 _ rfl)
              have kx2 : W9.cell? ⟨bs, os + k * 9 + 2, none⟩ = _ := (hb9.cell (p := ⟨bs, os + k * 9 + 2, none⟩) hbs2).trans (HXC.out 2 _ rfl)
              have kx3 : W9.cell? ⟨bs, os + k * 9 + 3, none⟩ = _ := (hb9.cell (p := ⟨bs, os + k * 9 + 3, none⟩) hbs2).trans (HXC.out 3 _ rfl)
              have kx4 : W9.cell? ⟨bs, os + k * 9 + 4, none⟩ = _ := (hb9.cell (p := ⟨bs, os + k * 9 + 4, none⟩) hbs2).trans (HXC.out 4 _ rfl)
              have kx5 : W9.cell? ⟨bs, os + k * 9 + 5, none⟩ = _ := (hb9.cell (p := ⟨bs, os + k * 9 + 5, none⟩) hbs2).trans (HXC.out 5 _ rfl)
              have kx6 : W9.cell? ⟨bs, os + k * 9 + 6, none⟩ = _ := (hb9.cell (p := ⟨bs, os + k * 9 + 6, none⟩) hbs2).trans (HXC.out 6 _ rfl)
              have kx7 : W9.cell? ⟨bs, os + k * 9 + 7, none⟩ = _ := (hb9.cell (p := ⟨bs, os + k * 9 + 7, none⟩) hbs2).trans (HXC.out 7 _ rfl)
              have kx8 : W9.cell? ⟨bs, os + k * 9 + 8, none⟩ = _ := (hb9.cell (p := ⟨bs, os + k * 9 + 8, none⟩) hbs2).trans (HXC.out 8 _ rfl)
              have kb9 := BA9.out.cells.2 1 _ rfl
              clear hb9 BA OV HB HZ HXC hbs2 kb1
              cases b with
              | false =>
                have HN2 := Kept.mk (show ps.map (·.1) = inL (M : Int) most (A.slots.take (k + 1)) by rw [HTK.out, HPM.out]; unfold inStep; rw [if_neg (by rintro ⟨_, h⟩; rw [HASK.out] at h; cases h)])
                go_wp2
                go_roundw
                case rel => exact ⟨k + 1, ps, by omega, by go_num, OV9, HN2, ⟨by rw [HNL.out]; omega⟩, BA9, HB9, HZ9⟩
                case measure => simp [intOf]; omega
              | true =>
                have HN2 := Kept.mk (show (ps ++ [(X, xp, xm)]).map (·.1) = inL (M : Int) most (A.slots.take (k + 1)) by rw [HTK.out, List.map_append, HPM.out]; unfold inStep; rw [if_pos ⟨HLL.out, HASK.out⟩]; rfl)
                have hlit := zar W9 (.cells #[.string ⟨X.key.toArray⟩, .int .i64 X.val.kind, .int .i64 X.val.time, .int .i64 X.val.node, .bool X.val.dead, .string ⟨X.val.text.toArray⟩, xp, xm, .int .u64 (X.val.flags.toNat : Int)] 48)
                have OV1 := Kept.mk (OV9.out.keep hlit)
                have HB1 := Kept.mk (HB9.out.trans (hlit.mono HB9.out.size))
                have BA1 := Kept.mk (BA9.out.keep hlit)
                have HZ1 := Kept.mk (Nat.le_trans HZ9.out hlit.size)
                have SRC := Kept.mk (zta X xp xm W9)
                have ROW1 := Kept.mk (show RowsOk [(X, xp, xm)] (W9.alloc (.cells #[.string ⟨X.key.toArray⟩, .int .i64 X.val.kind, .int .i64 X.val.time, .int .i64 X.val.node, .bool X.val.dead, .string ⟨X.val.text.toArray⟩, xp, xm, .int .u64 (X.val.flags.toNat : Int)] 48)) from fun q hq => ⟨zac _ _ _ _ (ROW.out q hq).1 HB1.out, zac _ _ _ _ (ROW.out q hq).2 HB1.out⟩)
                have HOF := Kept.mk (show ∀ q ∈ [(X, xp, xm)], ∀ b, (Value.slice va n vc).ownBlock = some b → OffQ b q from fun q hq b hbo => zkg ROW.out (by have := (OV9.out.own.lt b hbo).1; omega) q hq)
                have HPK2 := Kept.mk (show ps.length + [(X, xp, xm)].length ≤ 1000 by rw [HNL.out]; show n + 1 ≤ 1000; omega)
                clear hlit
                go_wp2_with (at_builtin; refine zis rfl (.tmp 51) (.tmp 57) rfl (w.heap.size + 1) (.slice va n vc) ps rfl OV1.out _ [(X, xp, xm)] rfl SRC.out ROW1.out HOF.out HPK2.out HZ1.out ?_; intro v2 W2 ho2 hg2; have OV2 := Kept.mk ho2; have HB2 := Kept.mk (zqo OV1.out hg2 HB1.out (by omega)); have HZ2 := Kept.mk (Nat.le_trans HZ1.out hg2.size); have BA2 := Kept.mk ((zlm (S := fun b => (Value.slice va n vc).ownBlock = some b) hg2 (fun b e => e)).blk BA1.out (fun e => by have := (OV1.out.own.lt _ e).1; omega)); clear ho2 hg2 kx0 kx1 kx2 kx3 kx4 kx5 kx6 kx7 kx8)
                go_roundw
                case rel => exact ⟨k + 1, ps ++ [(X, xp, xm)], by omega, by go_num, OV2, HN2, ⟨by rw [List.length_append, HNL.out]; show n + 1 ≤ k + 1; omega⟩, BA2, HB2, HZ2⟩
                case measure => simp [intOf]; omega
            · have HEN := Kept.mk (FIN.out (.inr hmo) _ _ HENS.out)
              go_wp2
              go_ret
              exact ⟨_, rfl, HEN.out, HB.out⟩
          · have hlt' : ¬ (k : Int) < (N : Int) := by omega
            have HEN := Kept.mk (FIN.out (.inl hlt) _ _ HENS.out)
            go_wp2
            go_ret
            exact ⟨_, rfl, HEN.out, HB.out⟩
end Go.Proofs.YtkjghoomdefbbaaGreatDoor
end
section
namespace Go.Proofs.YtkjghoomdefbbaaGreatDoor
open Go.RowKit
end Go.Proofs.YtkjghoomdefbbaaGreatDoor
end
section
namespace Go.Proofs.YtkjghoomdefbbaaGreatDoor
open Go.RowKit
attribute [local irreducible] setN
end Go.Proofs.YtkjghoomdefbbaaGreatDoor
end
section
namespace Go.Proofs.YtkjghoomdefbbaaGreatDoor
open Go.RowKit
def getQ (s : List UInt8) : List Int := if s.length = 16 then sums4 s else [0, 0, 0, 0]
def getQE (s : List UInt8) : Int := if s.length = 16 then 0 else 2
def eqI4 (W : World) : Prop := True
theorem zgv1 (a b c d : Int) (W : World) : (binOp .eql 26 (.agg #[.int .i64 a, .int .i64 b, .int .i64 c, .int .i64 d]) (.agg #[.int .i64 a, .int .i64 b, .int .i64 c, .int .i64 d])).run Tryz.prog W = .ok (.bool true) W := zpc 26 3 a b c d a b c d true Tryz.underlying26 Tryz.underlying3 (by kernel_rfl) (by simp) W
theorem zzz (kind : Int) (key : List UInt8) (n : Nat) (w : World) (hl : key.length ≤ 1000) (hn : zcz kind key = n) : Calls Tryz.prog 17 #[.int .i64 kind, .string ⟨key.toArray⟩] w fun e w' => e = .returned (.int .i64 (n : Int)) ∧ Below w.heap.size w w' := by
  subst hn; exact zif kind key w hl
theorem zul (kind : Int) (key : List UInt8) (n : Nat) (w : World) (hl : key.length ≤ 1000) (hn : zcz kind key = n) : Calls Tryz.prog 11 #[.int .i64 kind, .string ⟨key.toArray⟩] w fun e w' => e = .returned (.int .i64 (n : Int)) ∧ Below w.heap.size w w' := by
  subst hn; exact zgv kind key w hl
theorem zdw1 (A : Ar) (a b c d : Int) (v : Value) (w : World) (hv : isAr A v w) (hF : FitA A) (h : sumsV A = .agg #[.int .i64 a, .int .i64 b, .int .i64 c, .int .i64 d]) : Calls Tryz.prog 18 #[v] w fun e w' => e = .returned (.agg #[.int .i64 a, .int .i64 b, .int .i64 c, .int .i64 d]) ∧ Below w.heap.size w w' := by
  rw [← h]; exact zna A v w hv hF
theorem zax1 (A : Ar) (a b c d : Int) (v : Value) (w : World) (hv : isAr A v w) (hF : FitA A) (h : sumsV A = .agg #[.int .i64 a, .int .i64 b, .int .i64 c, .int .i64 d]) : Calls Tryz.prog 12 #[v] w fun e w' => e = .returned (.agg #[.int .i64 a, .int .i64 b, .int .i64 c, .int .i64 d]) ∧ Below w.heap.size w w' := by
  rw [← h]; exact zzb A v w hv hF
theorem zyp (a b c d e f g h : Int) (m : Nat) (w : World) (hm : dmk a b c d e f g h 4 = m) : Calls Tryz.prog 19 #[.agg #[.int .i64 a, .int .i64 b, .int .i64 c, .int .i64 d], .agg #[.int .i64 e, .int .i64 f, .int .i64 g, .int .i64 h]] w fun E w' => E = .returned (.int .i64 (m : Int)) ∧ Below w.heap.size w w' := by
  subst hm; exact zmt a b c d e f g h w
theorem zwd (a b c d e f g h : Int) (m : Nat) (w : World) (hm : dmk a b c d e f g h 4 = m) : Calls Tryz.prog 13 #[.agg #[.int .i64 a, .int .i64 b, .int .i64 c, .int .i64 d], .agg #[.int .i64 e, .int .i64 f, .int .i64 g, .int .i64 h]] w fun E w' => E = .returned (.int .i64 (m : Int)) ∧ Below w.heap.size w w' := by
  subst hm; exact zqz a b c d e f g h w
end Go.Proofs.YtkjghoomdefbbaaGreatDoor
end
section
namespace Go.Proofs.YtkjghoomdefbbaaGreatDoor
open Go.ChangeShapes Go.WideShapes Go.ChangeAt Go.RowKit
theorem zdy1 {α : Type} (l : List α) (h : (⟨l⟩ : Array α).size = 4) : ∃ a b c d, l = [a, b, c, d] := by
  match l, h with
  | [a, b, c, d], _ => exact ⟨a, b, c, d, rfl⟩
theorem zxk {P : Program} {W : World} {H : Type} {enc : TypeId × Value → H} {base b : Nat} {spare : Nat → Bool} {held : Bool} {t e : TypeId} {v : Value} {d : DataW H} {ps : List MemPlace}
    (ht : P.underlying t = some (.array 4 e)) (he : P.underlying e = some (.int .i64)) (ct : P.cellsOf t = 4) (ce : P.cellsOf e = 1)
    (hv : Value.okWide P W .any b t v) (hd : DataW.Trod enc P W base spare held t v d ps) :
    ∃ x0 x1 x2 x3 : Int, v = .agg #[.int .i64 x0, .int .i64 x1, .int .i64 x2, .int .i64 x3] ∧ d = .agg [.lit (.int .i64 x0), .lit (.int .i64 x1), .lit (.int .i64 x2), .lit (.int .i64 x3)] ∧ ps = [] ∧
      (Lit.int .i64 x0).wf = true ∧ (Lit.int .i64 x1).wf = true ∧ (Lit.int .i64 x2).wf = true ∧ (Lit.int .i64 x3).wf = true := by
  obtain ⟨cs, rfl, hsz, _⟩ : ∃ cs, v = .agg cs ∧ cs.size = P.cellsOf t ∧ Row.okWide P W .any b t cs := by
    simpa [Value.okWide, ht] using hv
  rw [ct] at hsz
  obtain ⟨l⟩ := cs
  obtain ⟨c0, c1, c2, c3, rfl⟩ := zdy1 l hsz
  obtain ⟨fuel, hf⟩ := hd
  obtain ⟨y0, y1, y2, y3, m, hx, hy0, hy1, hy2, hy3⟩ := trod_array4 ht ce hf
  obtain ⟨x0, e0, rfl, w0⟩ := DataW.trod_int he hy0
  obtain ⟨x1, e1, rfl, w1⟩ := DataW.trod_int he hy1
  obtain ⟨x2, e2, rfl, w2⟩ := DataW.trod_int he hy2
  obtain ⟨x3, e3, rfl, w3⟩ := DataW.trod_int he hy3
  simp at e0 e1 e2 e3
  subst e0 e1 e2 e3
  simp only [Prod.mk.injEq] at hx
  obtain ⟨rfl, rfl⟩ := hx
  exact ⟨x0, x1, x2, x3, rfl, rfl, rfl, w0, w1, w2, w3⟩
theorem zyt {P : Program} {W : World} {H : Type} {enc : TypeId × Value → H} {base : Nat} {spare : Nat → Bool} {held : Bool} {t e : TypeId} {x0 x1 x2 x3 : Int}
    (ht : P.underlying t = some (.array 4 e)) (he : P.underlying e = some (.int .i64)) (ct : P.cellsOf t = 4) (ce : P.cellsOf e = 1)
    (w0 : (Lit.int .i64 x0).wf = true) (w1 : (Lit.int .i64 x1).wf = true) (w2 : (Lit.int .i64 x2).wf = true) (w3 : (Lit.int .i64 x3).wf = true) :
    DataW.Trod enc P W base spare held t (.agg #[.int .i64 x0, .int .i64 x1, .int .i64 x2, .int .i64 x3]) (.agg [.lit (.int .i64 x0), .lit (.int .i64 x1), .lit (.int .i64 x2), .lit (.int .i64 x3)]) [] :=
  ⟨2, by simp [DataW.trod, Value.cells, ht, he, ct, ce, w0, w1, w2, w3, show List.range 4 = [0, 1, 2, 3] from rfl]⟩
end Go.Proofs.YtkjghoomdefbbaaGreatDoor
end
section
namespace Go.Proofs.YtkjghoomdefbbaaGreatDoor
open Go.RowKit
attribute [local irreducible] setN
theorem zur (X Y : En) (z : Bool) (v u : Value) (w : World) (hv : isEn X v w) (hu : isEn Y u w) (hX : FitE X) (hY : FitE Y) (hz : decide (X = Y) = z) : Calls Tryz.prog 38 #[v, u] w fun e w' => ∃ x, e = .returned x ∧ isVal (.bool z) x w' ∧ Below w.heap.size w w' :=
  (zva X Y v u w hv hu hX.val hY.val).mono (by rintro e w' ⟨rfl, h⟩; exact ⟨_, rfl, by rw [hz]; rfl, h⟩)
noncomputable def rallOps : Array Oper := zat Tryz.f14 6
theorem zrz (Q : Exit → Act → World → Prop) (a0 : Act) (w0 : World) (hsz : a0.tmps.size = 27) (k n bs os cs bt ot ct : Nat) (z : Bool) (X Y : En) (xp xm yp ym : Value) (e5 : a0.tmps.getD 5 undef = .int .i64 (k : Int)) (e0 : a0.tmps.getD 0 undef = .slice (some ⟨bs, os, none⟩) n cs) (e1 : a0.tmps.getD 1 undef = .slice (some ⟨bt, ot, none⟩) n ct) (hk : k < n) (hbs : bs < w0.heap.size) (hbt : bt < w0.heap.size) (hxc : ∀ (j : Nat) (x : Value), [.string ⟨X.key.toArray⟩, .int .i64 X.val.kind, .int .i64 X.val.time, .int .i64 X.val.node, .bool X.val.dead, .string ⟨X.val.text.toArray⟩, xp, xm, .int .u64 (X.val.flags.toNat : Int)][j]? = some x → w0.cell? ⟨bs, os + k * 9 + j, none⟩ = some x) (hyc : ∀ (j : Nat) (x : Value), [.string ⟨Y.key.toArray⟩, .int .i64 Y.val.kind, .int .i64 Y.val.time, .int .i64 Y.val.node, .bool Y.val.dead, .string ⟨Y.val.text.toArray⟩, yp, ym, .int .u64 (Y.val.flags.toNat : Int)][j]? = some x → w0.cell? ⟨bt, ot + k * 9 + j, none⟩ = some x) (hxp : isCells (X.val.plus.map intC) xp w0) (hxm : isCells (X.val.minus.map intC) xm w0) (hyp : isCells (Y.val.plus.map intC) yp w0) (hym : isCells (Y.val.minus.map intC) ym w0) (fX : FitE X) (fY : FitE Y) (hz : decide (X = Y) = z)
    (hQ : ∀ (g : Nat → Value) (w : World), g 26 = .bool !z → Below w0.heap.size w0 w → Q .normal { tmps := [17, 18, 19, 20, 21, 22, 23, 24, 25, 26].foldl (fun t s => t.setIfInBounds s (g s)) a0.tmps, defers := a0.defers } w) :
    (Code.region 6 rallOps true).wp Tryz.prog Q a0 w0 := by
  refine zam mixed (by rw [hsz]; kernel_rfl) ?_
  rw [show rallOps.size = 10 by kernel_rfl]
  refine ⟨isVal (.slice (some ⟨bs, os, none⟩) n cs), zag (.tmp 0) (by kernel_rfl) (zaa (by kernel_rfl)) (zad _) (zaf 0 (.slice (some ⟨bs, os, none⟩) n cs) (by kernel_rfl) e0), ?_⟩
  refine ⟨isVal (.int .i64 (k : Int)), zag (.tmp 5) (by kernel_rfl) (zaa (by kernel_rfl)) (zad _) (zaf 5 (.int .i64 (k : Int)) (by kernel_rfl) e5), ?_⟩
  refine ⟨isVal (.pointer (some ⟨bs, os + k * 9, none⟩)), zbl 22 48 (.tmp 17) (.tmp 18) bs (os) (n) (cs) (k) (os + k * 9) (by kernel_rfl) (zaa (by kernel_rfl)) (zab (V := isVal (.slice (some ⟨bs, os, none⟩) n cs)) 17 0 (by kernel_rfl) (by kernel_rfl) (by kernel_rfl)) (zab (V := isVal (.int .i64 (k : Int))) 18 1 (by kernel_rfl) (by kernel_rfl) (by kernel_rfl)) Tryz.underlying22 (by kernel_rfl) (⟨hk, rfl⟩), ?_⟩
  refine ⟨isVal (.agg #[.string ⟨X.key.toArray⟩, .int .i64 X.val.kind, .int .i64 X.val.time, .int .i64 X.val.node, .bool X.val.dead, .string ⟨X.val.text.toArray⟩, xp, xm, .int .u64 (X.val.flags.toNat : Int)]), zbh 48 (.tmp 19) (bs) (os + k * 9) [.string ⟨X.key.toArray⟩, .int .i64 X.val.kind, .int .i64 X.val.time, .int .i64 X.val.node, .bool X.val.dead, .string ⟨X.val.text.toArray⟩, xp, xm, .int .u64 (X.val.flags.toNat : Int)] (by kernel_rfl) (zaa (by kernel_rfl)) (zab (V := isVal (.pointer (some ⟨bs, os + k * 9, none⟩))) 19 2 (by kernel_rfl) (by kernel_rfl) (by kernel_rfl)) zay zck (⟨hbs, hxc⟩), ?_⟩
  refine ⟨isVal (.slice (some ⟨bt, ot, none⟩) n ct), zag (.tmp 1) (by kernel_rfl) (zaa (by kernel_rfl)) (zad _) (zaf 1 (.slice (some ⟨bt, ot, none⟩) n ct) (by kernel_rfl) e1), ?_⟩
  refine ⟨isVal (.int .i64 (k : Int)), zag (.tmp 5) (by kernel_rfl) (zaa (by kernel_rfl)) (zad _) (zaf 5 (.int .i64 (k : Int)) (by kernel_rfl) e5), ?_⟩
  refine ⟨isVal (.pointer (some ⟨bt, ot + k * 9, none⟩)), zbl 22 48 (.tmp 21) (.tmp 22) bt (ot) (n) (ct) (k) (ot + k * 9) (by kernel_rfl) (zaa (by kernel_rfl)) (zab (V := isVal (.slice (some ⟨bt, ot, none⟩) n ct)) 21 4 (by kernel_rfl) (by kernel_rfl) (by kernel_rfl)) (zab (V := isVal (.int .i64 (k : Int))) 22 5 (by kernel_rfl) (by kernel_rfl) (by kernel_rfl)) Tryz.underlying22 (by kernel_rfl) (⟨hk, rfl⟩), ?_⟩
  refine ⟨isVal (.agg #[.string ⟨Y.key.toArray⟩, .int .i64 Y.val.kind, .int .i64 Y.val.time, .int .i64 Y.val.node, .bool Y.val.dead, .string ⟨Y.val.text.toArray⟩, yp, ym, .int .u64 (Y.val.flags.toNat : Int)]), zbh 48 (.tmp 23) (bt) (ot + k * 9) [.string ⟨Y.key.toArray⟩, .int .i64 Y.val.kind, .int .i64 Y.val.time, .int .i64 Y.val.node, .bool Y.val.dead, .string ⟨Y.val.text.toArray⟩, yp, ym, .int .u64 (Y.val.flags.toNat : Int)] (by kernel_rfl) (zaa (by kernel_rfl)) (zab (V := isVal (.pointer (some ⟨bt, ot + k * 9, none⟩))) 23 6 (by kernel_rfl) (by kernel_rfl) (by kernel_rfl)) zay zck (⟨hbt, hyc⟩), ?_⟩
  refine ⟨isVal (.bool z), zap 38 #[.tmp 20, .tmp 24] #[48, 48] #[.agg #[.string ⟨X.key.toArray⟩, .int .i64 X.val.kind, .int .i64 X.val.time, .int .i64 X.val.node, .bool X.val.dead, .string ⟨X.val.text.toArray⟩, xp, xm, .int .u64 (X.val.flags.toNat : Int)], .agg #[.string ⟨Y.key.toArray⟩, .int .i64 Y.val.kind, .int .i64 Y.val.time, .int .i64 Y.val.node, .bool Y.val.dead, .string ⟨Y.val.text.toArray⟩, yp, ym, .int .u64 (Y.val.flags.toNat : Int)]] (by kernel_rfl) (zaa (by kernel_rfl)) (zad _) (args2 (.tmp 20) (.tmp 24) (.agg #[.string ⟨X.key.toArray⟩, .int .i64 X.val.kind, .int .i64 X.val.time, .int .i64 X.val.node, .bool X.val.dead, .string ⟨X.val.text.toArray⟩, xp, xm, .int .u64 (X.val.flags.toNat : Int)]) (.agg #[.string ⟨Y.key.toArray⟩, .int .i64 Y.val.kind, .int .i64 Y.val.time, .int .i64 Y.val.node, .bool Y.val.dead, .string ⟨Y.val.text.toArray⟩, yp, ym, .int .u64 (Y.val.flags.toNat : Int)]) (zab (V := isVal (.agg #[.string ⟨X.key.toArray⟩, .int .i64 X.val.kind, .int .i64 X.val.time, .int .i64 X.val.node, .bool X.val.dead, .string ⟨X.val.text.toArray⟩, xp, xm, .int .u64 (X.val.flags.toNat : Int)])) 20 3 (by kernel_rfl) (by kernel_rfl) (by kernel_rfl)) (zab (V := isVal (.agg #[.string ⟨Y.key.toArray⟩, .int .i64 Y.val.kind, .int .i64 Y.val.time, .int .i64 Y.val.node, .bool Y.val.dead, .string ⟨Y.val.text.toArray⟩, yp, ym, .int .u64 (Y.val.flags.toNat : Int)])) 24 7 (by kernel_rfl) (by kernel_rfl) (by kernel_rfl))) (enters_of Tryz.func38 (by kernel_rfl) rfl) (by intro w' hb; exact zur X Y z _ _ w' (zfo hxp hxm hb) (zfo hyp hym hb) fX fY hz), ?_⟩
  refine ⟨isVal (.bool !z), zda .not 4 (.tmp 25) (.bool z) (.bool !z) (by kernel_rfl) (zaa (by kernel_rfl)) (zab (V := isVal (.bool z)) 25 8 (by kernel_rfl) (by kernel_rfl) (by kernel_rfl)) (fun _ => rfl), ?_⟩
  intro a w hkp hb hd
  rw [zbg hkp [some 17, some 18, some 19, some 20, some 21, some 22, some 23, some 24, some 25, some 26] [17, 18, 19, 20, 21, 22, 23, 24, 25, 26] (by kernel_rfl) (by decide)]
  have d26 := zal (hd 9 (by rw [show rallOps.size = 10 by kernel_rfl]; decide)) (t := 26) (V := isVal (.bool !z)) (by kernel_rfl) (by kernel_rfl)
  exact hQ (fun s => a.tmps.getD s undef) w d26 hb
theorem zvw (l m : List En) (v u : Value) (w : World) (hv : isEns l v w) (hu : isEns m u w) (hl : l.length ≤ 1000) (hm : m.length ≤ 1000) (fl : ∀ e ∈ l, FitE e) (fm : ∀ e ∈ m, FitE e) : Calls Tryz.prog 14 #[v, u] w fun e w' => e = .returned (.bool (decide (l = m))) ∧ Below w.heap.size w w' := by
  obtain ⟨va, vc, rfl⟩ := hv.len
  obtain ⟨ua, uc, rfl⟩ := hu.len
  by_cases hlen : l.length = m.length
  · have HV := Kept.mk hv
    have HU := Kept.mk hu
    have FL := Kept.mk fl
    have FM := Kept.mk fm
    clear hv hu fl fm
    generalize hn : l.length = n at *
    generalize hmn : m.length = n2 at *
    subst hlen
    have HN := Kept.mk (And.intro hn hmn)
    clear hn hmn
    go_enter Tryz.func14, Tryz.ntmps14
    go_wp2
    go_loopw [5] (fun i wr => ∃ k : Nat, k ≤ n ∧ i = .int .i64 (k : Int) ∧ Kept (Below w.heap.size w wr) ∧ Kept (∀ j, j < k → l[j]? = m[j]?)) (fun i _ => n - (intOf i).toNat)
    case atStart => exact ⟨0, Nat.zero_le _, rfl, ⟨Below.refl _ _⟩, ⟨fun j h => absurd h (Nat.not_lt_zero _)⟩⟩
    case round =>
      obtain ⟨k, hk, rfl, B, A⟩ := hrel
      by_cases hlt : k < n
      · have hlt' : (k : Int) < (n : Int) := by omega
        obtain ⟨X, hX⟩ : ∃ X, l[k]? = some X := ⟨_, List.getElem?_eq_getElem (by have := HN.out.1; omega)⟩
        obtain ⟨Y, hY⟩ : ∃ Y, m[k]? = some Y := ⟨_, List.getElem?_eq_getElem (by have := HN.out.2; omega)⟩
        obtain ⟨bs, os, cs, hvs, hbs, xp, xm, hxc, hxp, hxm⟩ := HV.out.get hX
        injection hvs with h1 hz1 h2
        clear hz1
        subst h1 h2
        obtain ⟨bt, ot, ct, hvt, hbt, yp, ym, hyc, hyp, hym⟩ := HU.out.get hY
        injection hvt with h1 hz1 h2
        clear hz1
        subst h1 h2
        have FX := Kept.mk (FL.out X (List.mem_of_getElem? hX))
        have FY := Kept.mk (FM.out Y (List.mem_of_getElem? hY))
        have HXY := Kept.mk (And.intro hX hY)
        have HXC := Kept.mk hxc
        have HYC := Kept.mk hyc
        obtain ⟨z, hz⟩ : ∃ z, decide (X = Y) = z := ⟨_, rfl⟩
        have HZ := Kept.mk hz
        have hsw := B.out.size
        clear hX hY hz hxc hyc
        go_wp2
        refine zrz _ _ _ rfl k n bs os vc bt ot uc z X Y xp xm yp ym rfl rfl rfl hlt (by omega) (by omega) (fun j x hx => (B.out.cell (p := ⟨bs, os + k * 9 + j, none⟩) hbs).trans (HXC.out j x hx)) (fun j x hx => (B.out.cell (p := ⟨bt, ot + k * 9 + j, none⟩) hbt).trans (HYC.out j x hx)) (zac _ _ _ _ hxp B.out) (zac _ _ _ _ hxm B.out) (zac _ _ _ _ hyp B.out) (zac _ _ _ _ hym B.out) FX.out FY.out HZ.out ?_
        intro f9 W9 d26 hb9
        simp only [List.foldl_cons, List.foldl_nil, d26]
        generalize f9 17 = y17
        generalize f9 18 = y18
        generalize f9 19 = y19
        generalize f9 20 = y20
        generalize f9 21 = y21
        generalize f9 22 = y22
        generalize f9 23 = y23
        generalize f9 24 = y24
        generalize f9 25 = y25
        clear d26
        simp only [List.setIfInBounds_toArray, List.set_cons_succ, List.set_cons_zero]
        replace B := Kept.mk (B.out.trans (hb9.mono hsw))
        clear hb9
        cases z with
        | true =>
          have HQ := Kept.mk (of_decide_eq_true HZ.out)
          go_wp2
          go_roundw
          case rel =>
            refine ⟨k + 1, by omega, by go_num, B, ⟨fun j hj => ?_⟩⟩
            by_cases e : j = k
            · subst e; rw [HXY.out.1, HXY.out.2, HQ.out]
            · exact A.out j (by omega)
          case measure => simp [intOf]; omega
        | false =>
          have HE := Kept.mk (show decide (l = m) = false from decide_eq_false (fun e => by
            have := HXY.out.1; rw [e, HXY.out.2] at this; injection this with this
            exact (of_decide_eq_false HZ.out) this.symm))
          go_wp2
          go_ret
          exact ⟨by rw [HE.out]; rfl, B.out⟩
      · have hlt' : ¬ (k : Int) < (n : Int) := by omega
        have HE := Kept.mk (show decide (l = m) = true from decide_eq_true (List.ext_getElem? (fun j => by
          by_cases hj : j < k
          · exact A.out j hj
          · rw [List.getElem?_eq_none (by have := HN.out.1; omega), List.getElem?_eq_none (by have := HN.out.2; omega)])))
        go_wp2
        go_ret
        exact ⟨by rw [HE.out]; rfl, B.out⟩
  · have HE := Kept.mk (show decide (l = m) = false from decide_eq_false (fun e => hlen (by rw [e])))
    clear hv hu fl fm
    generalize l.length = n at *
    generalize m.length = n2 at *
    have hl1 : ((n : Int) == (n2 : Int)) = false := by simp; omega
    have hl2 : ((n : Int) != (n2 : Int)) = true := by simp; omega
    go_enter Tryz.func14, Tryz.ntmps14
    go_wp2
    go_ret
    exact ⟨by rw [HE.out]; rfl, Below.refl _ _⟩
end Go.Proofs.YtkjghoomdefbbaaGreatDoor
end
