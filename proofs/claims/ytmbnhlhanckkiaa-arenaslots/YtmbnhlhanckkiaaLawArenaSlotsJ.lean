/- Slots stay at their places, new ones are the last ones; all slots rise by names; chunk by chunk they are all (arena.Merge, All, Chunk). -/
import Derived.Test.YtmbnhlhanckkiaaPartG
import Derived.SizedLaws
import Derived.ProofKit
import Derived.OpenShut
import Derived.ShutString
import Derived.ChangeOld
import Derived.Below
namespace Go.Proofs.Ytmbnhlhanckkiaa
open Go.RowKit
open Go.ChangeShapes Go.WideShapes Go.ChangeAt Go.RowKit
open Go.ChangeMaps (open_string shut_string)
set_option linter.unusedVariables false
set_option linter.unusedSimpArgs false
attribute [local irreducible] setN

theorem chunk_at (A : Ar) (at_ n : Int) (C : List En) (v : Value) (w : World) (hv : isAr A v w) (hF : FitA A) (hc : chunkA A at_ n = C) : Calls Try.prog 24 #[v, .int .i64 at_, .int .i64 n] w fun e W' => ∃ v', e = .returned v' ∧ isEnsN w.heap.size C v' W' ∧ Below w.heap.size w W' := by
  subst hc; exact chunk_new A at_ n v w hv hF
theorem refAll_same (l : List En) (v u : Value) (w : World) (hv : isEns l v w) (hu : isEns l u w) (hl : l.length ≤ 1000) (fl : ∀ e ∈ l, FitE e) : Calls Try.prog 21 #[v, u] w fun e w' => e = .returned (.bool true) ∧ Below w.heap.size w w' := by
  have h := refAll_any l l v u w hv hu hl hl fl fl
  rwa [show decide (l = l) = true by simp] at h
set_option maxRecDepth 100000 in
set_option maxHeartbeats 4000000 in
theorem arenaSlots_walk (F0 : Ar) (v0 : Value) (F1 : List En) (v1 : Value) (a2 : Int) (w0 : CameA F0) (w1 : F1.length ≤ maxLen ∧ ∀ e ∈ F1, CameE e) (w2 : (Lit.int .u8 a2).wf = true) (w : World) (fl0 : isAr F0 v0 w) (fl1 : isEns F1 v1 w) :
    Calls Try.prog 5 #[v0, v1, .int .u8 a2] w fun e w' => e = .returned (.bool true) ∧ Below w.heap.size w w' := by
  obtain ⟨pa, ma, rfl, hpa, hma⟩ := fl0
  obtain ⟨hB, Va⟩ := abox w F0 pa ma hpa hma (w.heap.size) (by simp)
  clear hpa hma
  have Sl := Kept.mk (stable_ens _ _ _ _ fl1 hB.out)
  go_enter Try.func5, Try.ntmps5
  go_wp2_with fail
  generalize (w.alloc (.cells #[.int .i64 F0.cap, pa, ma] 25)) = W0 at *
  ((with_reducible refine (aworks_any _).mono ?_); rintro e W1 ⟨rfl, hb1⟩)
  replace hB := Kept.mk (hB.out.trans ((hb1).mono hB.out.size))
  replace Va := Kept.mk (Va.out.keep (hb1))
  replace Sl := Kept.mk (stable_ens _ _ _ _ Sl.out (hb1))
  clear hb1
  obtain ⟨qa, ra, xa, sa, ia, ka0, ka1, ka2⟩ := Va.out.open_
  have Xa := Kept.mk xa
  have Sa := Kept.mk sa
  have Ia := Kept.mk ia
  clear xa sa ia
  go_wp2_with fail
  ((with_reducible refine (afew_any F0 _ _ Xa.out (CameA.keys w0) w0.slots w0.index).mono ?_); rintro e W2 ⟨rfl, hb1⟩)
  clear Xa Sa Ia ka0 ka1 ka2
  replace hB := Kept.mk (hB.out.trans ((hb1).mono hB.out.size))
  replace Va := Kept.mk (Va.out.keep (hb1))
  replace Sl := Kept.mk (stable_ens _ _ _ _ Sl.out (hb1))
  clear hb1
  cases fa : fewA F0 with
  | false =>
    go_wp2
    all_goals go_ret
    all_goals exact ⟨rfl, hB.out⟩
  | true =>
    have FFa := Kept.mk (fewA_fit fa)
    have KFa := Kept.mk fa
    clear fa
    go_wp2_with fail
    ((with_reducible refine (entries_any F1 10 _ _ Sl.out (fun e he => (w1.2 e he).key) w1.1 (by decide) (by decide)).mono ?_); rintro e W3 ⟨rfl, hb1⟩)
    replace hB := Kept.mk (hB.out.trans ((hb1).mono hB.out.size))
    replace Va := Kept.mk (Va.out.keep (hb1))
    replace Sl := Kept.mk (stable_ens _ _ _ _ Sl.out (hb1))
    clear hb1
    cases fl : fewL F1 10 with
    | false =>
      go_wp2
      all_goals go_ret
      all_goals exact ⟨rfl, hB.out⟩
    | true =>
      have FFl := Kept.mk (fewL_fit fl)
      have hl10 := fewL_len fl
      clear fl
      obtain ⟨qa, ra, xa, sa, ia, ka0, ka1, ka2⟩ := Va.out.open_
      have Xa := Kept.mk xa
      have Sa := Kept.mk sa
      have Ia := Kept.mk ia
      clear xa sa ia
      go_wp2_with fail
      cases oa : okA F0 with
      | false =>
        have Oa := Kept.mk oa
        clear oa
        ((with_reducible refine (w_check F0 2 _ _ Xa.out FFa.out (chkA_no Oa.out)).mono ?_); rintro e W4 ⟨rfl, hb1⟩)
        clear Xa Sa Ia ka0 ka1 ka2
        replace hB := Kept.mk (hB.out.trans ((hb1).mono hB.out.size))
        replace Va := Kept.mk (Va.out.keep (hb1))
        replace Sl := Kept.mk (stable_ens _ _ _ _ Sl.out (hb1))
        clear hb1
        go_wp2
        all_goals go_ret
        all_goals exact ⟨rfl, hB.out⟩
      | true =>
        have Oa := Kept.mk oa
        clear oa
        ((with_reducible refine (w_check F0 0 _ _ Xa.out FFa.out (chkA_yes Oa.out)).mono ?_); rintro e W4 ⟨rfl, hb1⟩)
        clear Xa Sa Ia ka0 ka1 ka2
        replace hB := Kept.mk (hB.out.trans ((hb1).mono hB.out.size))
        replace Va := Kept.mk (Va.out.keep (hb1))
        replace Sl := Kept.mk (stable_ens _ _ _ _ Sl.out (hb1))
        clear hb1
        obtain ⟨qa, ra, xa, sa, ia, ka0, ka1, ka2⟩ := Va.out.open_
        have Xa := Kept.mk xa
        have Sa := Kept.mk sa
        have Ia := Kept.mk ia
        clear xa sa ia
        go_wp2_with fail
        have OA := Kept.mk (okA_iff.1 Oa.out)
        obtain ⟨G, hG⟩ : ∃ G, mergeF F0 F1 = G := ⟨_, rfl⟩
        obtain ⟨n, hn⟩ : ∃ n : Int, (mergeN F0 F1 : Int) = n := ⟨_, rfl⟩
        obtain ⟨o, ho⟩ : ∃ o : Int, (mergeO F0 F1 : Int) = o := ⟨_, rfl⟩
        have OG := Kept.mk (show OkA G by rw [← hG]; exact (merge_okA _ OA.out).1)
        have FG := Kept.mk (okA_fit OG.out)
        have HCap := Kept.mk (show G.cap = F0.cap by rw [← hG]; exact (merge_okA _ OA.out).2)
        have HPl := Kept.mk (show ∀ (i : Nat) (e : En), F0.slots[i]? = some e → ∃ f, G.slots[i]? = some f ∧ nameB f e = true by rw [← hG]; exact (merge_places F1 OA.out).2)
        have hle : F0.slots.length ≤ G.slots.length := by rw [← hG]; exact (merge_places F1 OA.out).1
        have hfit : (G.slots.length : Int) ≤ F0.cap := by have := OG.out.fits; rw [HCap.out] at this; exact this
        have hM8 : G.slots.length ≤ 8 := by have := OG.out.fits; have := OG.out.room; omega
        have HG := Kept.mk hG
        have HN := Kept.mk hn
        have HO := Kept.mk ho
        clear hG hn ho
        ((with_reducible refine (ga_merge F0 F1 G n o _ _ _ Xa.out Sl.out FFa.out FFl.out (by omega) HG.out HN.out HO.out).mono ?_); rintro e U ⟨v', rfl, ⟨p', m', rfl, hp', hm'⟩, hb1⟩)
        obtain ⟨K1, K2, K3, K4, K5⟩ := anew U G p' m' hp' hm' U.heap.size rfl
        clear hp' hm'
        clear Xa Sa Ia ka0 ka1 ka2
        replace hB := Kept.mk (hB.out.trans ((hb1).mono hB.out.size))
        replace Va := Kept.mk (Va.out.keep (hb1))
        replace Sl := Kept.mk (stable_ens _ _ _ _ Sl.out (hb1))
        clear hb1
        go_wp2_with (have hz0 := K1; refine wpList_storeN 25 rfl (.tmp 9) (.tmp 40) rfl U.heap.size [.int .i64 G.cap, p', m'] size_ar rfl rfl K1.out rfl K2.out K5.out ?_; replace hB := Kept.mk (hB.out.trans ((K3.out).mono hB.out.size)); replace Va := Kept.mk (Va.out.keep (K3.out)); replace Sl := Kept.mk (stable_ens _ _ _ _ Sl.out (K3.out)); have Vb := Kept.mk K4.out; clear hz0 K1 K2 K3 K4 K5; generalize setN (U.alloc (.cells #[.int .i64 0, .slice none 0 0, .slice none 0 0] 25)) U.heap.size 0 [.int .i64 G.cap, p', m'] = W5 at *; generalize U.heap.size = gb at *; obtain ⟨qa, ra, xa, sa, ia, ka0, ka1, ka2⟩ := Va.out.open_; have Xa := Kept.mk xa; have Sa := Kept.mk sa; have Ia := Kept.mk ia; clear xa sa ia; obtain ⟨qb, rb, xb, sb, ib, kb0, kb1, kb2⟩ := Vb.out.open_; have Xb := Kept.mk xb; have Sb := Kept.mk sb; have Ib := Kept.mk ib; clear xb sb ib; obtain ⟨sba, sca, rfl⟩ := Sa.out.len; obtain ⟨sbb, scb, rfl⟩ := Sb.out.len; rw [HCap.out] at kb0)
        clear Xa Sa Ia ka0 ka1 ka2
        clear Xb Sb Ib kb0 kb1 kb2
        have hwl := Va.out.lt
        generalize hM : G.slots.length = M at *
        have HM := Kept.mk hM
        clear hM
        generalize hM0 : F0.slots.length = M0 at *
        have HM0 := Kept.mk hM0
        clear hM0
        go_loopw [12] (fun i wr => ∃ k : Nat, k ≤ M0 ∧ i = .int .i64 (k : Int) ∧ Kept (Below w.heap.size w wr) ∧ Kept (VarA wr w.heap.size F0) ∧ Kept (VarA wr gb G)) (fun i _ => M0 - (intOf i).toNat)
        case atStart => exact ⟨0, Nat.zero_le _, rfl, hB, Va, Vb⟩
        case round =>
          clear hB Va Vb Sl hwl
          obtain ⟨k, hk, rfl, hB, Va, Vb⟩ := hrel
          by_cases hlt : k < M0
          · skip
            skip
            have hlt' : (k : Int) < (M0 : Int) := by omega
            obtain ⟨E, hE⟩ : ∃ E, F0.slots[k]? = some E := ⟨_, List.getElem?_eq_getElem (by rw [HM0.out]; exact hlt)⟩
            obtain ⟨F, hF, hn⟩ := HPl.out k E hE
            obtain ⟨hn1, hn2⟩ := name_iff.1 hn
            obtain ⟨qa, ra, xa, sa, ia, ka0, ka1, ka2⟩ := Va.out.open_
            have Xa := Kept.mk xa
            have Sa := Kept.mk sa
            have Ia := Kept.mk ia
            clear xa sa ia
            obtain ⟨qb, rb, xb, sb, ib, kb0, kb1, kb2⟩ := Vb.out.open_
            have Xb := Kept.mk xb
            have Sb := Kept.mk sb
            have Ib := Kept.mk ib
            clear xb sb ib
            obtain ⟨bs, os, cs, ea, hbs, hEa⟩ := Sa.out.get hE
            obtain ⟨bt, ot, ct, eb, hbt, hFb⟩ := Sb.out.get hF
            subst ea eb
            obtain ⟨p1, m1, x1, y1, ke0, ke1, ke2, ke3, ke4, ke5, ke6, ke7, ke8⟩ := hEa.open_
            obtain ⟨p2, m2, x2, y2, kf0, kf1, kf2, kf3, kf4, kf5, kf6, kf7, kf8⟩ := hFb.open_
            rw [hn2] at kf0
            rw [hn1] at kf1
            rw [HM0.out] at ka1
            rw [HM.out] at kb1
            have hal := Va.out.lt
            have hbl := Vb.out.lt
            have KE0 := Kept.mk ke0
            have KE1 := Kept.mk ke1
            have KF0 := Kept.mk kf0
            have KF1 := Kept.mk kf1
            have KB1 := Kept.mk kb1
            have KA1 := Kept.mk ka1
            clear x1 y1 x2 y2 hE hF hn hn1 hn2 hEa hFb Sa Sb Ia Ib Xa Xb ka0 ka2 kb0 kb1 kb2 ke0 kf0 ke1 kf1 ke2 kf2 ke3 kf3 ke4 kf4 ke5 kf5 ke6 kf6 ke7 kf7 ke8 kf8
            go_wp2
            refine asl1_region _ _ _ rfl k w.heap.size gb bs os cs M0 bt ot ct M E.key E.val.kind rfl rfl rfl KA1.out hal KB1.out hbl hbs hbt hlt (by omega) KE0.out KE1.out KF0.out KF1.out ?_
            intro f9 W9 d101 hb9
            simp only [List.foldl_cons, List.foldl_nil, d101]
            generalize f9 72 = y72
            generalize f9 73 = y73
            generalize f9 74 = y74
            generalize f9 75 = y75
            generalize f9 76 = y76
            generalize f9 77 = y77
            generalize f9 78 = y78
            generalize f9 79 = y79
            generalize f9 80 = y80
            generalize f9 81 = y81
            generalize f9 82 = y82
            generalize f9 83 = y83
            generalize f9 84 = y84
            generalize f9 85 = y85
            generalize f9 86 = y86
            generalize f9 87 = y87
            generalize f9 88 = y88
            generalize f9 89 = y89
            generalize f9 90 = y90
            generalize f9 91 = y91
            generalize f9 92 = y92
            generalize f9 93 = y93
            generalize f9 94 = y94
            generalize f9 95 = y95
            generalize f9 96 = y96
            generalize f9 97 = y97
            generalize f9 98 = y98
            generalize f9 99 = y99
            generalize f9 100 = y100
            clear d101
            simp only [List.setIfInBounds_toArray, List.set_cons_succ, List.set_cons_zero]
            replace hB := Kept.mk (hB.out.trans (hb9.mono hB.out.size))
            replace Va := Kept.mk (Va.out.keep hb9)
            replace Vb := Kept.mk (Vb.out.keep hb9)
            clear hb9 ka1 KE0 KE1 KF0 KF1 KB1 KA1 hal hbl
            go_wp2
            go_roundw
            case rel => exact ⟨k + 1, by omega, by go_num, hB, Va, Vb⟩
            case measure => simp [intOf]; omega
          · skip
            have hlt' : ¬ (k : Int) < (M0 : Int) := by omega
            obtain ⟨L, hL⟩ : ∃ L, allA G = L := ⟨_, rfl⟩
            have hL2 : allA G = ordA G := by unfold allA; rw [if_pos (okA_iff.2 OG.out)]
            have HAsc := Kept.mk (show Asc L by rw [← hL, hL2]; exact OG.out.asc)
            have HLn := Kept.mk (show L.length = M by rw [← hL, hL2, ord_length OG.out, HM.out])
            have HL := Kept.mk hL
            clear hL hL2
            obtain ⟨qa, ra, xa, sa, ia, ka0, ka1, ka2⟩ := Va.out.open_
            have Xa := Kept.mk xa
            have Sa := Kept.mk sa
            have Ia := Kept.mk ia
            clear xa sa ia
            obtain ⟨qb, rb, xb, sb, ib, kb0, kb1, kb2⟩ := Vb.out.open_
            have Xb := Kept.mk xb
            have Sb := Kept.mk sb
            have Ib := Kept.mk ib
            clear xb sb ib
            obtain ⟨sba, sca, rfl⟩ := Sa.out.len
            rw [HM0.out] at ka1
            go_wp2_with fail
            ((with_reducible refine (ga_all G L _ _ Xb.out FG.out HL.out).mono ?_); rintro e W6 ⟨va, rfl, hal, hb1⟩)
            clear Xa Sa Ia ka0 ka1 ka2
            clear Xb Sb Ib kb0 kb1 kb2
            replace hB := Kept.mk (hB.out.trans ((hb1).mono hB.out.size))
            replace Va := Kept.mk (Va.out.keep (hb1))
            replace Vb := Kept.mk (Vb.out.keep (hb1))
            obtain ⟨ax, ac, ea⟩ := hal.len
            rw [HLn.out] at ea
            subst ea
            have Sall := Kept.mk hal
            clear hb1 hal
            go_wp2
            go_loopw [14] (fun i wr => ∃ k : Nat, 1 ≤ k ∧ k ≤ M + 1 ∧ i = .int .i64 (k : Int) ∧ Kept (Below w.heap.size w wr) ∧ Kept (VarA wr gb G) ∧ Kept (isEns L (.slice ax M ac) wr)) (fun i _ => M + 1 - (intOf i).toNat)
            case atStart => exact ⟨1, by omega, by omega, rfl, hB, Vb, Sall⟩
            case round =>
              clear hB Va Vb Sall
              obtain ⟨k, hk1, hk, rfl, hB, Vb, Sall⟩ := hrel
              by_cases hlt : k < M
              · skip
                have hlt' : (k : Int) < (M : Int) := by omega
                obtain ⟨j, rfl⟩ : ∃ j, k = j + 1 := ⟨k - 1, by omega⟩
                obtain ⟨X, hX⟩ : ∃ X, L[j]? = some X := ⟨_, List.getElem?_eq_getElem (by rw [HLn.out]; omega)⟩
                obtain ⟨Y, hY⟩ : ∃ Y, L[j + 1]? = some Y := ⟨_, List.getElem?_eq_getElem (by rw [HLn.out]; omega)⟩
                have HZ := Kept.mk (show lessE X Y = true by have h1 := List.getElem?_eq_some_iff.1 hX; have h2 := List.getElem?_eq_some_iff.1 hY; have := List.pairwise_iff_getElem.1 HAsc.out j (j + 1) h1.1 h2.1 (by omega); rw [h1.2, h2.2] at this; exact this)
                rcases Sall.out.cases_ with ⟨_, _, _, hnil⟩ | ⟨bs, os, cs, ea, hbs, hall⟩
                · rw [hnil] at hX; simp at hX
                injection ea with ea1 ea2 ea3
                subst ea1 ea3
                obtain ⟨xp, xm, hxc, hxp, hxm⟩ := hall j X hX
                obtain ⟨yp, ym, hyc, hyp, hym⟩ := hall (j + 1) Y hY
                have XC := Kept.mk hxc
                have YC := Kept.mk hyc
                clear hxc hyc hX hY hall ea2
                go_wp2
                refine asl2_region _ _ _ rfl (j + 1) j bs os ac M X Y xp xm yp ym rfl rfl hbs hlt (by omega) rfl (by omega) XC.out YC.out hxp hxm hyp hym HZ.out ?_
                intro f9 W9 d120 hb9
                simp only [List.foldl_cons, List.foldl_nil, d120]
                generalize f9 110 = y110
                generalize f9 111 = y111
                generalize f9 112 = y112
                generalize f9 113 = y113
                generalize f9 114 = y114
                generalize f9 115 = y115
                generalize f9 116 = y116
                generalize f9 117 = y117
                generalize f9 118 = y118
                generalize f9 119 = y119
                clear d120
                simp only [List.setIfInBounds_toArray, List.set_cons_succ, List.set_cons_zero]
                replace hB := Kept.mk (hB.out.trans (hb9.mono hB.out.size))
                replace Vb := Kept.mk (Vb.out.keep hb9)
                replace Sall := Kept.mk (stable_ens _ _ _ _ Sall.out hb9)
                clear hb9 XC YC hxp hxm hyp hym HZ
                go_wp2
                go_roundw
                case rel => exact ⟨j + 1 + 1, by omega, by omega, by go_num, hB, Vb, Sall⟩
                case measure => simp [intOf]; omega
              · skip
                have hlt' : ¬ (k : Int) < (M : Int) := by omega
                obtain ⟨hn0, hn9⟩ := Go.bounds_u8 w2
                obtain ⟨s, hs⟩ : ∃ s : Nat, a2 % 4 + 1 = (s : Int) := ⟨(a2 % 4 + 1).toNat, by omega⟩
                have hs1 : 1 ≤ s ∧ s ≤ 4 := by omega
                go_wp2
                clear hs
                rename World => w4
                have hB4 := hB
                have Vb4 := Vb
                clear Sall hB Vb hlt'
                go_loopw [16, 17] (fun SV TV WZ => ∃ (t : Nat) (ps : RowE), t ≤ M + 4 ∧ TV = .int .i64 (t : Int) ∧ Kept (OutV w4.heap.size SV ps WZ) ∧ Kept (ps.map (·.1) = G.slots.take t) ∧ Kept (Below w4.heap.size w4 WZ)) (fun _ TV _ => M + 4 - (intOf TV).toNat)
                case atStart => exact ⟨0, [], by omega, rfl, ⟨outV_nil _ _⟩, ⟨rfl⟩, ⟨Below.refl _ _⟩⟩
                case round =>
                  obtain ⟨t, ps, ht, rfl, OV, HPS, BZ⟩ := hrel
                  have Vb := Kept.mk (Vb4.out.keep BZ.out)
                  have hB := Kept.mk (hB4.out.trans (BZ.out.mono hB4.out.size))
                  have hpl : ps.length ≤ M := by have := congrArg List.length HPS.out; rw [List.length_map, List.length_take, HM.out] at this; omega
                  by_cases hlt : t < M
                  · skip
                    have hlt' : (t : Int) < (M : Int) := by omega
                    obtain ⟨qb, rb, xb, sb, ib, kb0, kb1, kb2⟩ := Vb.out.open_
                    have Xb := Kept.mk xb
                    have Sb := Kept.mk sb
                    have Ib := Kept.mk ib
                    clear xb sb ib
                    obtain ⟨sbb, scb, rfl⟩ := Sb.out.len
                    rw [HM.out] at kb1 Xb Sb
                    have HCH := Kept.mk (show chunkA G (t : Int) (s : Int) = (G.slots.drop t).take s by unfold chunkA; rw [if_neg (by omega), if_pos (okA_iff.2 OG.out)]; simp)
                    obtain ⟨C, hC⟩ : ∃ C, (G.slots.drop t).take s = C := ⟨_, rfl⟩
                    rw [hC] at HCH
                    have HTK := Kept.mk (show G.slots.take (t + s) = G.slots.take t ++ C by rw [← hC]; exact List.take_add)
                    have hcl : C.length ≤ M := by rw [← hC, List.length_take, List.length_drop, HM.out]; omega
                    clear hC
                    go_wp2_with fail
                    ((with_reducible refine (chunk_at G (t : Int) (s : Int) C _ _ Xb.out FG.out HCH.out).mono ?_); rintro e W1 ⟨u, rfl, ⟨ps2, e2, O2, nw2⟩, hb⟩)
                    have OV1 := Kept.mk (OV.out.keep hb)
                    have BZ1 := Kept.mk (BZ.out.trans (hb.mono BZ.out.size))
                    have HO2 := Kept.mk O2
                    have HE2 := Kept.mk e2
                    have hp2 : ps2.length ≤ M := by have := congrArg List.length e2; rw [List.length_map] at this; omega
                    have HOF := Kept.mk (show ∀ q ∈ ps2, ∀ b, u16.ownBlock = some b → OffQ b q from fun q hq b hbo => off_new nw2 (OV.out.own.lt b hbo).2 q hq)
                    clear Xb Sb Ib kb0 kb1 kb2 hb O2 e2 nw2 Vb hB
                    go_wp2_with (at_builtin; refine wpList_append_ens rfl (.tmp 133) (.tmp 137) rfl w4.heap.size u16 ps rfl OV1.out u ps2 rfl (own_src HO2.out.own) HO2.out.rows HOF.out (by omega) BZ1.out.size ?_; intro v2 W2 ho2 hg2; have OV2 := Kept.mk ho2; have BZ2 := Kept.mk (grown_below OV1.out hg2 BZ1.out (Nat.le_refl _)); clear ho2 hg2)
                    go_roundw
                    case rel => exact ⟨t + s, ps ++ ps2, by omega, by go_num, OV2, ⟨by rw [List.map_append, HPS.out, HE2.out, HTK.out]⟩, BZ2⟩
                    case measure => simp [intOf]; omega
                  · skip
                    have hlt' : ¬ (t : Int) < (M : Int) := by omega
                    have HEQ := Kept.mk (show ps.map (·.1) = G.slots by rw [HPS.out, List.take_of_length_le (by rw [HM.out]; omega)])
                    obtain ⟨ox, oc, hov⟩ := OV.out.len
                    have SO := Kept.mk (show isEns G.slots u16 wr by rw [← HEQ.out]; exact OV.out.ens)
                    clear hov
                    obtain ⟨qb, rb, xb, sb, ib, kb0, kb1, kb2⟩ := Vb.out.open_
                    have Xb := Kept.mk xb
                    have Sb := Kept.mk sb
                    have Ib := Kept.mk ib
                    clear xb sb ib
                    obtain ⟨sbb, scb, rfl⟩ := Sb.out.len
                    rw [HM.out] at kb1 Xb Sb
                    have FS := Kept.mk FG.out.ents
                    have FL := FG.out.slots
                    go_wp2_with fail
                    ((with_reducible refine (refAll_same G.slots _ _ _ SO.out Sb.out FL FS.out).mono ?_); rintro e W9 ⟨rfl, hb1⟩)
                    replace hB := Kept.mk (hB.out.trans (hb1.mono hB.out.size))
                    replace Vb := Kept.mk (Vb.out.keep hb1)
                    clear hb1 SO Xb Sb Ib kb0 kb1 kb2
                    obtain ⟨qb, rb, xb, sb, ib, kb0, kb1, kb2⟩ := Vb.out.open_
                    have Xb := Kept.mk xb
                    have Sb := Kept.mk sb
                    have Ib := Kept.mk ib
                    clear xb sb ib
                    obtain ⟨sbb, scb, rfl⟩ := Sb.out.len
                    rw [HM.out] at kb1
                    go_wp2
                    go_ret
                    exact ⟨rfl, hB.out⟩
set_option maxRecDepth 100000 in
theorem arenaSlots_lifted (os : Os) (started : os.Started) (H : Type) (enc : TypeId × Value → H) :
    ReturnsInHanded {} Try.checked os 5 .any (Rows.arenaSlotsSpec.pre6 enc Try.prog Try.f5 Rows.arenaSlotsRow.domain false) (Rows.arenaSlotsSpec.post enc Try.prog Try.f5 false true false false) := by
  refine returnsInHanded_of_change (C := Try.checked) (by kernel_rfl : ownKnob Try.prog.godebug = none) started (by kernel_rfl) Try.func5
    (ChangeSpec.witness6 (enc := enc) (C := Try.checked) false ⟨#[], #[.agg #[.int .i64 0, .slice none 0 0, .slice none 0 0], .slice none 0 0, .int .u8 0], []⟩ 8 (by kernel_rfl) (by kernel_rfl) (by kernel_rfl) (by kernel_rfl)) ?_
  intro W base args ds gs before hval0 hW hcnd _
  have hval : ∀ (j : Nat) t v, Try.f5.params[j]? = some t → args[j]? = some v → Value.okWide Try.prog W .any base t v := hval0
  have hW' := hW
  obtain ⟨p, q, hA0, hV, rfl, hfz, hnd⟩ := hW
  have hA : DataW.TrodAll enc Try.prog W 0 (fun _ => true) true Try.f5.params.toList args.toList ds p := hA0
  rw [Try.params5] at hA hval
  obtain ⟨v0, vs0, d0, ds0, p0, q0, hargs, rfl, rfl, h0, r0⟩ := trodAll_cons hA
  obtain ⟨v1, vs1, d1, ds1, p1, q1, rfl, rfl, rfl, h1, r1⟩ := trodAll_cons r0
  obtain ⟨v2, vs2, d2, ds2, p2, q2, rfl, rfl, rfl, h2, r2⟩ := trodAll_cons r1
  obtain ⟨rfl, rfl, rfl⟩ := trodAll_nil r2
  obtain rfl : args = #[v0, v1, v2] := by cases args; simp_all
  obtain ⟨rfl, rfl⟩ := trodVars_none hV
  obtain ⟨F0, fl0, w0⟩ := open_ar (hval 0 25 v0 rfl rfl) h0
  have lt0 : ∀ x ∈ p0, x.block < W.heap.size := fun x hx => by obtain ⟨fuel, hf⟩ := h0; exact DataW.trod_lt fuel _ _ _ hf x hx
  obtain ⟨F1, fl1, w1⟩ := open_el (hval 1 22 v1 rfl rfl) h1
  have lt1 : ∀ x ∈ p1, x.block < W.heap.size := fun x hx => by obtain ⟨fuel, hf⟩ := h1; exact DataW.trod_lt fuel _ _ _ hf x hx
  obtain ⟨a2, rfl, rfl, rfl, w2⟩ := open_int Try.underlying5 (hval 2 5 v2 rfl rfl) h2
  clear hA0 hval0
  simp only [List.append_nil] at hW'
  refine (arenaSlots_walk F0 v0 F1 v1 a2 w0 w1 w2 W fl0 fl1).mono fun e W' ⟨he, bel⟩ => ?_
  subst he
  exact ⟨_, rfl, _, _, _, [], _, [], hW', trodAll_mk1 (shut_bool Try.underlying4 _), (trodAll_cons_mk (Below.trod (by kernel_rfl) (by kernel_rfl) (of_decide_eq_true (by kernel_rfl)) h0 bel lt0) (trodAll_cons_mk (Below.trod (by kernel_rfl) (by kernel_rfl) (of_decide_eq_true (by kernel_rfl)) h1 bel lt1) (trodAll_cons_mk (shut_int Try.underlying5 w2) trodAll_mk0))), rfl, bel.frame _, fun h => by cases h⟩
/-- THE STATEMENT. -/
theorem arenaSlots_proved : Rows.ArenaSlotsSaid :=
  OpenClaim.holds_of_wide 5 Try.f5 rfl rfl rfl rfl rfl rfl rfl ⟨rfl, rfl, rfl, rfl, rfl⟩ rfl rfl rfl rfl rfl (by kernel_rfl) Try.func5 (by kernel_rfl)
    (of_decide_eq_true (by kernel_rfl)) (by unfold Func.isWrapper; first | (rw [if_pos (by decide +kernel)]; kernel_rfl) | (rw [if_neg (by decide +kernel)]; exact ⟨rfl, rfl⟩))
    (fun os started H enc _ => arenaSlots_lifted os started H enc)
#print axioms arenaSlots_proved
end Go.Proofs.Ytmbnhlhanckkiaa
