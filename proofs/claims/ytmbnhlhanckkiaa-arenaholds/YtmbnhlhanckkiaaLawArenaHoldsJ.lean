/- What is joined is there, and below what is there; what was there is below it; joined again it changes nothing (arena.Join, Find, Below, Alike, Same). -/
import Derived.Test.YtmbnhlhanckkiaaPartG
import Derived.SizedLaws
import Derived.ProofKit
import Derived.OpenShut
import Derived.ShutString
import Derived.ChangeOld
import Derived.Below
namespace Go.Proofs.Ytmbnhlhanckkiaa
open Go.RowKit
open Go.ChangeShapes Go.WideShapes Go.ChangeAt Go.RowKit
open Go.ChangeMaps (open_string shut_string)
set_option linter.unusedVariables false
set_option linter.unusedSimpArgs false
attribute [local irreducible] setN

theorem join_refused {A : Ar} {x : En} (h : ¬ joinAE A x = 0) : joinAB A x = false ∧ joinAF A x = A := by
  unfold joinAE at h
  unfold joinAB joinAF
  by_cases c : (okA A && okE x) = true
  · rw [if_pos c] at h ⊢
    rw [if_pos c]
    by_cases d : hitB (ordA A) x = true
    · rw [if_pos d] at h; exact absurd rfl h
    · rw [if_neg d] at h ⊢
      rw [if_neg d]
      by_cases e : (A.slots.length : Int) = A.cap
      · rw [if_pos e, if_pos e]; exact ⟨rfl, rfl⟩
      · rw [if_neg e] at h; exact absurd rfl h
  · rw [if_neg c, if_neg c]; exact ⟨rfl, rfl⟩
theorem join_zero {A : Ar} {x : En} (h : joinAE A x = 0) : okA A = true ∧ okE x = true := by
  unfold joinAE at h
  by_cases c : (okA A && okE x) = true
  · simpa using c
  · rw [if_neg c] at h; cases h
set_option maxRecDepth 100000 in
set_option maxHeartbeats 4000000 in
theorem arenaHolds_walk (F0 : Ar) (v0 : Value) (F1 : En) (v1 : Value) (w0 : CameA F0) (w1 : CameE F1) (w : World) (fl0 : isAr F0 v0 w) (fl1 : isEn F1 v1 w) :
    Calls Try.prog 3 #[v0, v1] w fun e w' => e = .returned (.bool true) ∧ Below w.heap.size w w' := by
  obtain ⟨pa, ma, rfl, hpa, hma⟩ := fl0
  obtain ⟨px, mx, rfl, hpx, hmx⟩ := fl1
  obtain ⟨hB, Va⟩ := abox w F0 pa ma hpa hma (w.heap.size) (by simp)
  obtain ⟨hBn, Vx⟩ := ebox (w.alloc (.cells #[.int .i64 F0.cap, pa, ma] 25)) F1 px mx (stable_cells _ _ _ _ hpx hB.out) (stable_cells _ _ _ _ hmx hB.out) (w.heap.size + 1) (by simp)
  replace Va := Kept.mk (Va.out.keep hBn.out)
  replace hB := Kept.mk (hB.out.trans (hBn.out.mono hB.out.size))
  clear hBn
  clear hpa hma hpx hmx
  go_enter Try.func3, Try.ntmps3
  go_wp2_with fail
  generalize ((w.alloc (.cells #[.int .i64 F0.cap, pa, ma] 25)).alloc (.cells #[.string ⟨F1.key.toArray⟩, .int .i64 F1.val.kind, .int .i64 F1.val.time, .int .i64 F1.val.node, .bool F1.val.dead, .string ⟨F1.val.text.toArray⟩, px, mx, .int .u64 (F1.val.flags.toNat : Int)] 30)) = W0 at *
  ((with_reducible refine (aworks_any _).mono ?_); rintro e W1 ⟨rfl, hb1⟩)
  replace hB := Kept.mk (hB.out.trans ((hb1).mono hB.out.size))
  replace Va := Kept.mk (Va.out.keep (hb1))
  replace Vx := Kept.mk (Vx.out.keep (hb1))
  clear hb1
  obtain ⟨qa, ra, xa, sa, ia, ka0, ka1, ka2⟩ := Va.out.open_
  have Xa := Kept.mk xa
  have Sa := Kept.mk sa
  have Ia := Kept.mk ia
  clear xa sa ia
  go_wp2_with fail
  ((with_reducible refine (afew_any F0 _ _ Xa.out (CameA.keys w0) w0.slots w0.index).mono ?_); rintro e W2 ⟨rfl, hb1⟩)
  clear Xa Sa Ia ka0 ka1 ka2
  replace hB := Kept.mk (hB.out.trans ((hb1).mono hB.out.size))
  replace Va := Kept.mk (Va.out.keep (hb1))
  replace Vx := Kept.mk (Vx.out.keep (hb1))
  clear hb1
  cases fa : fewA F0 with
  | false =>
    go_wp2
    all_goals go_ret
    all_goals exact ⟨rfl, hB.out⟩
  | true =>
    have FFa := Kept.mk (fewA_fit fa)
    have KFa := Kept.mk fa
    clear fa
    obtain ⟨qx, rx, xx, yx, kx0, kx1, kx2, kx3, kx4, kx5, kx6, kx7, kx8⟩ := Vx.out.open_
    have Xx := Kept.mk xx
    have Yx := Kept.mk yx
    clear xx yx
    go_wp2_with fail
    ((with_reducible refine (efew_any F1 _ _ Xx.out w1.key).mono ?_); rintro e W3 ⟨rfl, hb1⟩)
    clear Xx Yx kx0 kx1 kx2 kx3 kx4 kx5 kx6 kx7 kx8
    replace hB := Kept.mk (hB.out.trans ((hb1).mono hB.out.size))
    replace Va := Kept.mk (Va.out.keep (hb1))
    replace Vx := Kept.mk (Vx.out.keep (hb1))
    clear hb1
    cases fx : fewE F1 with
    | false =>
      go_wp2
      all_goals go_ret
      all_goals exact ⟨rfl, hB.out⟩
    | true =>
      have FFx := Kept.mk (fewE_fit fx)
      have KFx := Kept.mk fx
      clear fx
      obtain ⟨qa, ra, xa, sa, ia, ka0, ka1, ka2⟩ := Va.out.open_
      have Xa := Kept.mk xa
      have Sa := Kept.mk sa
      have Ia := Kept.mk ia
      clear xa sa ia
      obtain ⟨qx, rx, xx, yx, kx0, kx1, kx2, kx3, kx4, kx5, kx6, kx7, kx8⟩ := Vx.out.open_
      have Xx := Kept.mk xx
      have Yx := Kept.mk yx
      clear xx yx
      go_wp2_with fail
      by_cases h0 : joinAE F0 F1 = 0
      · skip
        obtain ⟨o1, o2⟩ := join_zero h0
        have OA := Kept.mk (okA_iff.1 o1)
        obtain ⟨G, hG⟩ : ∃ G, joinAF F0 F1 = G := ⟨_, rfl⟩
        obtain ⟨al, hal⟩ : ∃ al, alikeA F0 G = al := ⟨_, rfl⟩
        have OG := Kept.mk (show OkA G by rw [← hG]; exact join_okA OA.out F1)
        have FG := Kept.mk (okA_fit OG.out)
        have HCH := Kept.mk (show joinAB F0 F1 = !al by rw [join_changed OA.out h0, hG, hal])
        have HIN := Kept.mk (show okE F1 = true ∧ InE G F1 by rw [← hG]; exact join_in1 OA.out h0)
        obtain ⟨t1, t2, t3, t4, t5⟩ := join_there OG.out HIN.out.1 HIN.out.2
        obtain ⟨s1, s2, s3, s4⟩ := slot_spec OG.out t4
        have hp := (place_spec OG.out t4).1
        have hfind := find_hit OG.out t4
        obtain ⟨p, hpp⟩ : ∃ p : Nat, placeI G F1 = (p : Int) := ⟨(placeI G F1).toNat, by omega⟩
        rw [hpp] at hp hfind
        rw [show (placeI G F1).toNat = p by omega] at s4
        generalize hX : slotOf G F1 = X at *
        have HJ := Kept.mk (joinEE_mk s2 HIN.out.1 s3)
        have HJF := Kept.mk t5
        have T1 := Kept.mk t1
        have T2 := Kept.mk t2
        have T3 := Kept.mk t3
        have OX := Kept.mk s2
        have FX := Kept.mk (ok_fit' s2)
        have S4 := Kept.mk s4
        have HF := Kept.mk hfind
        have HUP := Kept.mk (show belowA F0 G = true by rw [← hG]; exact belowA_iff.2 ⟨OA.out, join_okA OA.out F1, join_up OA.out F1⟩)
        have HG := Kept.mk hG
        have HAL := Kept.mk hal
        have H0 := Kept.mk h0
        have hp1 : p < G.slots.length := by omega
        clear o1 o2 hG hal h0 t1 t2 t3 t4 t5 s1 s2 s3 s4 hfind hpp hX hp
        ((with_reducible refine (ga_join F0 F1 G (!al) 0 _ _ _ Xa.out Xx.out FFa.out FFx.out HG.out HCH.out H0.out).mono ?_); rintro e U ⟨v', rfl, ⟨p', m', rfl, hp', hm'⟩, hb1⟩)
        obtain ⟨K1, K2, K3, K4, K5⟩ := anew U G p' m' hp' hm' U.heap.size rfl
        clear hp' hm'
        clear Xa Sa Ia ka0 ka1 ka2
        clear Xx Yx kx0 kx1 kx2 kx3 kx4 kx5 kx6 kx7 kx8
        replace hB := Kept.mk (hB.out.trans ((hb1).mono hB.out.size))
        replace Va := Kept.mk (Va.out.keep (hb1))
        replace Vx := Kept.mk (Vx.out.keep (hb1))
        clear hb1
        go_wp2_with (have hz0 := K1; refine wpList_storeN 25 rfl (.tmp 7) (.tmp 32) rfl U.heap.size [.int .i64 G.cap, p', m'] size_ar rfl rfl K1.out rfl K2.out K5.out ?_; replace hB := Kept.mk (hB.out.trans ((K3.out).mono hB.out.size)); replace Va := Kept.mk (Va.out.keep (K3.out)); replace Vx := Kept.mk (Vx.out.keep (K3.out)); have Vb := Kept.mk K4.out; clear hz0 K1 K2 K3 K4 K5; generalize setN (U.alloc (.cells #[.int .i64 0, .slice none 0 0, .slice none 0 0] 25)) U.heap.size 0 [.int .i64 G.cap, p', m'] = W4 at *; generalize U.heap.size = gb at *; obtain ⟨qb, rb, xb, sb, ib, kb0, kb1, kb2⟩ := Vb.out.open_; have Xb := Kept.mk xb; have Sb := Kept.mk sb; have Ib := Kept.mk ib; clear xb sb ib; obtain ⟨qx, rx, xx, yx, kx0, kx1, kx2, kx3, kx4, kx5, kx6, kx7, kx8⟩ := Vx.out.open_; have Xx := Kept.mk xx; have Yx := Kept.mk yx; clear xx yx)
        ((with_reducible refine (ga_find G F1 (p : Int) _ _ Xb.out FG.out HF.out).mono ?_); rintro e W5 ⟨rfl, hb1⟩)
        clear Xb Sb Ib kb0 kb1 kb2
        clear Xx Yx kx0 kx1 kx2 kx3 kx4 kx5 kx6 kx7 kx8
        replace hB := Kept.mk (hB.out.trans ((hb1).mono hB.out.size))
        replace Va := Kept.mk (Va.out.keep (hb1))
        replace Vx := Kept.mk (Vx.out.keep (hb1))
        replace Vb := Kept.mk (Vb.out.keep (hb1))
        clear hb1
        obtain ⟨qa, ra, xa, sa, ia, ka0, ka1, ka2⟩ := Va.out.open_
        have Xa := Kept.mk xa
        have Sa := Kept.mk sa
        have Ia := Kept.mk ia
        clear xa sa ia
        obtain ⟨qb, rb, xb, sb, ib, kb0, kb1, kb2⟩ := Vb.out.open_
        have Xb := Kept.mk xb
        have Sb := Kept.mk sb
        have Ib := Kept.mk ib
        clear xb sb ib
        obtain ⟨sbb, scb, rfl⟩ := Sb.out.len
        generalize hM : G.slots.length = M at *
        have HM := Kept.mk hM
        clear hM
        have hp2 : (p : Int) < (M : Int) := by omega
        go_wp2_with fail
        ((with_reducible refine (w_below F0 G true _ _ _ Xa.out Xb.out FFa.out FG.out HUP.out).mono ?_); rintro e W6 ⟨rfl, hb1⟩)
        clear Xa Sa Ia ka0 ka1 ka2
        clear Xb Sb Ib kb0 kb1 kb2
        replace hB := Kept.mk (hB.out.trans ((hb1).mono hB.out.size))
        replace Va := Kept.mk (Va.out.keep (hb1))
        replace Vx := Kept.mk (Vx.out.keep (hb1))
        replace Vb := Kept.mk (Vb.out.keep (hb1))
        clear hb1
        obtain ⟨qb, rb, xb, sb, ib, kb0, kb1, kb2⟩ := Vb.out.open_
        have Xb := Kept.mk xb
        have Sb := Kept.mk sb
        have Ib := Kept.mk ib
        clear xb sb ib
        go_wp2_with fail
        ((with_reducible refine (w_check G 0 _ _ Xb.out FG.out (chkA_yes (okA_iff.2 OG.out))).mono ?_); rintro e W7 ⟨rfl, hb1⟩)
        clear Xb Sb Ib kb0 kb1 kb2
        replace hB := Kept.mk (hB.out.trans ((hb1).mono hB.out.size))
        replace Va := Kept.mk (Va.out.keep (hb1))
        replace Vx := Kept.mk (Vx.out.keep (hb1))
        replace Vb := Kept.mk (Vb.out.keep (hb1))
        clear hb1
        go_wp2
        obtain ⟨qb, rb, CB, sb, ib⟩ := Vb.out
        obtain ⟨qx, rx, CX, px1, mx1⟩ := Vx.out
        obtain ⟨bs, os, cs, eb, hbs, xp, xm, hxc, hxp, hxm⟩ := sb.get S4.out
        subst eb
        rw [HM.out] at CB
        refine ahl1_region _ _ _ rfl p gb (w.heap.size + 1) bs os M cs G rb X F1 xp xm qx rx rfl rfl rfl CB hbs hp1 hxc CX hxp hxm px1 mx1 FX.out FFx.out HJ.out HJF.out OX.out ?_
        clear CB sb ib CX px1 mx1 hxc hxp hxm
        intro f9 W9 d11 d12 hb9
        simp only [List.foldl_cons, List.foldl_nil, d12]
        generalize f9 75 = y75
        generalize f9 76 = y76
        generalize f9 77 = y77
        generalize f9 78 = y78
        generalize f9 79 = y79
        generalize f9 80 = y80
        generalize f9 81 = y81
        generalize f9 74 = y74
        generalize f9 82 = y82
        generalize f9 83 = y83
        generalize f9 11 = y11 at d11 ⊢
        clear d12
        simp only [List.setIfInBounds_toArray, List.set_cons_succ, List.set_cons_zero]
        obtain ⟨gy, ey, vy⟩ := d11
        subst ey
        replace hB := Kept.mk (hB.out.trans ((hb9).mono hB.out.size))
        replace Va := Kept.mk (Va.out.keep (hb9))
        replace Vx := Kept.mk (Vx.out.keep (hb9))
        replace Vb := Kept.mk (Vb.out.keep (hb9))
        have Vy := Kept.mk vy
        clear hb9 vy
        obtain ⟨qb, rb, xb, sb, ib, kb0, kb1, kb2⟩ := Vb.out.open_
        have Xb := Kept.mk xb
        have Sb := Kept.mk sb
        have Ib := Kept.mk ib
        clear xb sb ib
        obtain ⟨qx, rx, xx, yx, kx0, kx1, kx2, kx3, kx4, kx5, kx6, kx7, kx8⟩ := Vx.out.open_
        have Xx := Kept.mk xx
        have Yx := Kept.mk yx
        clear xx yx
        go_wp2_with fail
        ((with_reducible refine (ga_join G F1 G false 0 _ _ _ Xb.out Xx.out FG.out FFx.out T3.out T2.out T1.out).mono ?_); rintro e U ⟨v', rfl, ⟨p', m', rfl, hp', hm'⟩, hb1⟩)
        obtain ⟨K1, K2, K3, K4, K5⟩ := anew U G p' m' hp' hm' U.heap.size rfl
        clear hp' hm'
        clear Xb Sb Ib kb0 kb1 kb2
        clear Xx Yx kx0 kx1 kx2 kx3 kx4 kx5 kx6 kx7 kx8
        replace hB := Kept.mk (hB.out.trans ((hb1).mono hB.out.size))
        replace Va := Kept.mk (Va.out.keep (hb1))
        replace Vx := Kept.mk (Vx.out.keep (hb1))
        replace Vb := Kept.mk (Vb.out.keep (hb1))
        replace Vy := Kept.mk (Vy.out.keep (hb1))
        clear hb1
        go_wp2_with (have hz0 := K1; refine wpList_storeN 25 rfl (.tmp 13) (.tmp 88) rfl U.heap.size [.int .i64 G.cap, p', m'] size_ar rfl rfl K1.out rfl K2.out K5.out ?_; replace hB := Kept.mk (hB.out.trans ((K3.out).mono hB.out.size)); replace Va := Kept.mk (Va.out.keep (K3.out)); replace Vx := Kept.mk (Vx.out.keep (K3.out)); replace Vb := Kept.mk (Vb.out.keep (K3.out)); replace Vy := Kept.mk (Vy.out.keep (K3.out)); have Vc := Kept.mk K4.out; clear hz0 K1 K2 K3 K4 K5; generalize setN (U.alloc (.cells #[.int .i64 0, .slice none 0 0, .slice none 0 0] 25)) U.heap.size 0 [.int .i64 G.cap, p', m'] = W8 at *; generalize U.heap.size = gc at *)
        obtain ⟨qa, ra, CA, sa, ia⟩ := Va.out
        obtain ⟨qb, rb, CB, sb, ib⟩ := Vb.out
        obtain ⟨qc, rc, CC, sc, ic⟩ := Vc.out
        obtain ⟨qy, ry, CY, py1, my1⟩ := Vy.out
        obtain ⟨bs, os, cs, eb, hbs, xp, xm, hxc, hxp, hxm⟩ := sb.get S4.out
        subst eb
        have XB := (show isAr G (.agg #[.int .i64 G.cap, .slice (some ⟨bs, os, none⟩) G.slots.length cs, rb]) _ from ⟨_, _, rfl, sb, ib⟩)
        rw [HM.out] at CB XB
        refine ahl2_region _ _ _ rfl p w.heap.size gb gc gy bs os M cs F0 G al qa ra rb qc rc X xp xm qy ry rfl rfl rfl rfl rfl rfl rfl rfl rfl rfl CA CB CC CY hbs hp1 hxc hxp hxm py1 my1 ⟨_, _, rfl, sa, ia⟩ XB ⟨_, _, rfl, sc, ic⟩ FFa.out FG.out FX.out HAL.out ?_
        clear CA CB CC CY sa ia sb ib sc ic py1 my1 hxc hxp hxm XB
        intro f9 W9 d4 hb9
        simp only [List.foldl_cons, List.foldl_nil, d4]
        generalize f9 91 = y91
        generalize f9 92 = y92
        generalize f9 93 = y93
        generalize f9 94 = y94
        generalize f9 95 = y95
        generalize f9 96 = y96
        generalize f9 97 = y97
        generalize f9 98 = y98
        generalize f9 99 = y99
        generalize f9 100 = y100
        generalize f9 101 = y101
        generalize f9 102 = y102
        generalize f9 103 = y103
        generalize f9 104 = y104
        generalize f9 105 = y105
        generalize f9 106 = y106
        generalize f9 107 = y107
        generalize f9 108 = y108
        generalize f9 109 = y109
        generalize f9 110 = y110
        generalize f9 111 = y111
        generalize f9 112 = y112
        generalize f9 113 = y113
        generalize f9 114 = y114
        generalize f9 115 = y115
        generalize f9 116 = y116
        generalize f9 117 = y117
        generalize f9 118 = y118
        generalize f9 119 = y119
        generalize f9 120 = y120
        generalize f9 121 = y121
        generalize f9 122 = y122
        generalize f9 123 = y123
        generalize f9 124 = y124
        generalize f9 125 = y125
        clear d4
        simp only [List.setIfInBounds_toArray, List.set_cons_succ, List.set_cons_zero]
        replace hB := Kept.mk (hB.out.trans (hb9.mono hB.out.size))
        clear hb9
        go_wp2
        go_ret
        exact ⟨rfl, hB.out⟩
      · skip
        obtain ⟨b1, b2⟩ := join_refused h0
        obtain ⟨r, hr⟩ : ∃ r, joinAE F0 F1 = r := ⟨_, rfl⟩
        have hne : ¬ r = 0 := by rw [← hr]; exact h0
        have HR := Kept.mk hr
        have HB1 := Kept.mk b1
        have HB2 := Kept.mk b2
        clear h0 hr b1 b2
        ((with_reducible refine (ga_join F0 F1 F0 false r _ _ _ Xa.out Xx.out FFa.out FFx.out HB2.out HB1.out HR.out).mono ?_); rintro e U ⟨v', rfl, ⟨p', m', rfl, hp', hm'⟩, hb1⟩)
        obtain ⟨K1, K2, K3, K4, K5⟩ := anew U F0 p' m' hp' hm' U.heap.size rfl
        clear hp' hm'
        clear Xa Sa Ia ka0 ka1 ka2
        clear Xx Yx kx0 kx1 kx2 kx3 kx4 kx5 kx6 kx7 kx8
        replace hB := Kept.mk (hB.out.trans ((hb1).mono hB.out.size))
        replace Va := Kept.mk (Va.out.keep (hb1))
        replace Vx := Kept.mk (Vx.out.keep (hb1))
        clear hb1
        go_wp2_with (have hz0 := K1; refine wpList_storeN 25 rfl (.tmp 7) (.tmp 32) rfl U.heap.size [.int .i64 F0.cap, p', m'] size_ar rfl rfl K1.out rfl K2.out K5.out ?_; replace hB := Kept.mk (hB.out.trans ((K3.out).mono hB.out.size)); replace Va := Kept.mk (Va.out.keep (K3.out)); replace Vx := Kept.mk (Vx.out.keep (K3.out)); have Vb := Kept.mk K4.out; clear hz0 K1 K2 K3 K4 K5; generalize setN (U.alloc (.cells #[.int .i64 0, .slice none 0 0, .slice none 0 0] 25)) U.heap.size 0 [.int .i64 F0.cap, p', m'] = W4 at *; generalize U.heap.size = gb at *; obtain ⟨qa, ra, xa, sa, ia, ka0, ka1, ka2⟩ := Va.out.open_; have Xa := Kept.mk xa; have Sa := Kept.mk sa; have Ia := Kept.mk ia; clear xa sa ia; obtain ⟨qb, rb, xb, sb, ib, kb0, kb1, kb2⟩ := Vb.out.open_; have Xb := Kept.mk xb; have Sb := Kept.mk sb; have Ib := Kept.mk ib; clear xb sb ib)
        ((with_reducible refine (w_same F0 F0 true _ _ _ Xa.out Xb.out FFa.out FFa.out (by simp)).mono ?_); rintro e W5 ⟨rfl, hb1⟩)
        clear Xa Sa Ia ka0 ka1 ka2
        clear Xb Sb Ib kb0 kb1 kb2
        replace hB := Kept.mk (hB.out.trans ((hb1).mono hB.out.size))
        replace Va := Kept.mk (Va.out.keep (hb1))
        replace Vx := Kept.mk (Vx.out.keep (hb1))
        replace Vb := Kept.mk (Vb.out.keep (hb1))
        clear hb1
        go_wp2
        all_goals go_ret
        all_goals exact ⟨rfl, hB.out⟩
set_option maxRecDepth 100000 in
theorem arenaHolds_lifted (os : Os) (started : os.Started) (H : Type) (enc : TypeId × Value → H) :
    ReturnsInHanded {} Try.checked os 3 .any (Rows.arenaHoldsSpec.pre6 enc Try.prog Try.f3 Rows.arenaHoldsRow.domain false) (Rows.arenaHoldsSpec.post enc Try.prog Try.f3 false true false false) := by
  refine returnsInHanded_of_change (C := Try.checked) (by kernel_rfl : ownKnob Try.prog.godebug = none) started (by kernel_rfl) Try.func3
    (ChangeSpec.witness6 (enc := enc) (C := Try.checked) false ⟨#[], #[.agg #[.int .i64 0, .slice none 0 0, .slice none 0 0], .agg #[.string ByteArray.empty, .int .i64 0, .int .i64 0, .int .i64 0, .bool false, .string ByteArray.empty, .slice none 0 0, .slice none 0 0, .int .u64 0]], []⟩ 8 (by kernel_rfl) (by kernel_rfl) (by kernel_rfl) (by kernel_rfl)) ?_
  intro W base args ds gs before hval0 hW hcnd _
  have hval : ∀ (j : Nat) t v, Try.f3.params[j]? = some t → args[j]? = some v → Value.okWide Try.prog W .any base t v := hval0
  have hW' := hW
  obtain ⟨p, q, hA0, hV, rfl, hfz, hnd⟩ := hW
  have hA : DataW.TrodAll enc Try.prog W 0 (fun _ => true) true Try.f3.params.toList args.toList ds p := hA0
  rw [Try.params3] at hA hval
  obtain ⟨v0, vs0, d0, ds0, p0, q0, hargs, rfl, rfl, h0, r0⟩ := trodAll_cons hA
  obtain ⟨v1, vs1, d1, ds1, p1, q1, rfl, rfl, rfl, h1, r1⟩ := trodAll_cons r0
  obtain ⟨rfl, rfl, rfl⟩ := trodAll_nil r1
  obtain rfl : args = #[v0, v1] := by cases args; simp_all
  obtain ⟨rfl, rfl⟩ := trodVars_none hV
  obtain ⟨F0, fl0, w0⟩ := open_ar (hval 0 25 v0 rfl rfl) h0
  have lt0 : ∀ x ∈ p0, x.block < W.heap.size := fun x hx => by obtain ⟨fuel, hf⟩ := h0; exact DataW.trod_lt fuel _ _ _ hf x hx
  obtain ⟨F1, fl1, w1⟩ := open_en (hval 1 30 v1 rfl rfl) h1
  have lt1 : ∀ x ∈ p1, x.block < W.heap.size := fun x hx => by obtain ⟨fuel, hf⟩ := h1; exact DataW.trod_lt fuel _ _ _ hf x hx
  clear hA0 hval0
  simp only [List.append_nil] at hW'
  refine (arenaHolds_walk F0 v0 F1 v1 w0 w1 W fl0 fl1).mono fun e W' ⟨he, bel⟩ => ?_
  subst he
  exact ⟨_, rfl, _, _, _, [], _, [], hW', trodAll_mk1 (shut_bool Try.underlying4 _), (trodAll_cons_mk (Below.trod (by kernel_rfl) (by kernel_rfl) (of_decide_eq_true (by kernel_rfl)) h0 bel lt0) (trodAll_cons_mk (Below.trod (by kernel_rfl) (by kernel_rfl) (of_decide_eq_true (by kernel_rfl)) h1 bel lt1) trodAll_mk0)), rfl, bel.frame _, fun h => by cases h⟩
/-- THE STATEMENT. -/
theorem arenaHolds_proved : Rows.ArenaHoldsSaid :=
  OpenClaim.holds_of_wide 3 Try.f3 rfl rfl rfl rfl rfl rfl rfl ⟨rfl, rfl, rfl, rfl, rfl⟩ rfl rfl rfl rfl rfl (by kernel_rfl) Try.func3 (by kernel_rfl)
    (of_decide_eq_true (by kernel_rfl)) (by unfold Func.isWrapper; first | (rw [if_pos (by decide +kernel)]; kernel_rfl) | (rw [if_neg (by decide +kernel)]; exact ⟨rfl, rfl⟩))
    (fun os started H enc _ => arenaHolds_lifted os started H enc)
#print axioms arenaHolds_proved
end Go.Proofs.Ytmbnhlhanckkiaa
