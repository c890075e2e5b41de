/- Entries in any order come to one arena, where all have room (arena.Merge, All, Alike). -/
import Derived.Test.YtmbnhlhanckkiaaPartG
import Derived.SizedLaws
import Derived.ProofKit
import Derived.OpenShut
import Derived.ShutString
import Derived.ChangeOld
import Derived.Below
namespace Go.Proofs.Ytmbnhlhanckkiaa
open Go.RowKit
open Go.ChangeShapes Go.WideShapes Go.ChangeAt Go.RowKit
open Go.ChangeMaps (open_string shut_string)
set_option linter.unusedVariables false
set_option linter.unusedSimpArgs false
attribute [local irreducible] setN

theorem src_one (X : En) (xp xm : Value) (w : World) : SrcE (.slice (some ⟨w.heap.size, 0, none⟩) 1 1) [(X, xp, xm)] (w.alloc (.cells #[.string ⟨X.key.toArray⟩, .int .i64 X.val.kind, .int .i64 X.val.time, .int .i64 X.val.node, .bool X.val.dead, .string ⟨X.val.text.toArray⟩, xp, xm, .int .u64 (X.val.flags.toNat : Int)] 30)) := by
  refine .inr ⟨⟨w.heap.size, 0, none⟩, 1, rfl, fun j x hx => ?_⟩
  rw [add_at, Nat.zero_add, World.cell?_alloc_new]
  simpa [flatE, enL] using hx
set_option maxRecDepth 100000 in
set_option maxHeartbeats 4000000 in
theorem arenaOrder_walk (F0 : Ar) (v0 : Value) (F1 : List En) (v1 : Value) (a2 : Int) (w0 : CameA F0) (w1 : F1.length ≤ maxLen ∧ ∀ e ∈ F1, CameE e) (w2 : (Lit.int .u8 a2).wf = true) (w : World) (fl0 : isAr F0 v0 w) (fl1 : isEns F1 v1 w) :
    Calls Try.prog 4 #[v0, v1, .int .u8 a2] w fun e w' => e = .returned (.bool true) ∧ Below w.heap.size w w' := by
  obtain ⟨lx, lc, rfl⟩ := fl1.len
  obtain ⟨pa, ma, rfl, hpa, hma⟩ := fl0
  obtain ⟨hB, Va⟩ := abox w F0 pa ma hpa hma (w.heap.size) (by simp)
  clear hpa hma
  have Sl := Kept.mk (stable_ens _ _ _ _ fl1 hB.out)
  go_enter Try.func4, Try.ntmps4
  go_wp2_with fail
  generalize (w.alloc (.cells #[.int .i64 F0.cap, pa, ma] 25)) = W0 at *
  ((with_reducible refine (aworks_any _).mono ?_); rintro e W1 ⟨rfl, hb1⟩)
  replace hB := Kept.mk (hB.out.trans ((hb1).mono hB.out.size))
  replace Va := Kept.mk (Va.out.keep (hb1))
  replace Sl := Kept.mk (stable_ens _ _ _ _ Sl.out (hb1))
  clear hb1
  obtain ⟨qa, ra, xa, sa, ia, ka0, ka1, ka2⟩ := Va.out.open_
  have Xa := Kept.mk xa
  have Sa := Kept.mk sa
  have Ia := Kept.mk ia
  clear xa sa ia
  go_wp2_with fail
  ((with_reducible refine (afew_any F0 _ _ Xa.out (CameA.keys w0) w0.slots w0.index).mono ?_); rintro e W2 ⟨rfl, hb1⟩)
  clear Xa Sa Ia ka0 ka1 ka2
  replace hB := Kept.mk (hB.out.trans ((hb1).mono hB.out.size))
  replace Va := Kept.mk (Va.out.keep (hb1))
  replace Sl := Kept.mk (stable_ens _ _ _ _ Sl.out (hb1))
  clear hb1
  cases fa : fewA F0 with
  | false =>
    go_wp2
    all_goals go_ret
    all_goals exact ⟨rfl, hB.out⟩
  | true =>
    have FFa := Kept.mk (fewA_fit fa)
    have KFa := Kept.mk fa
    clear fa
    go_wp2_with fail
    ((with_reducible refine (entries_any F1 8 _ _ Sl.out (fun e he => (w1.2 e he).key) w1.1 (by decide) (by decide)).mono ?_); rintro e W3 ⟨rfl, hb1⟩)
    replace hB := Kept.mk (hB.out.trans ((hb1).mono hB.out.size))
    replace Va := Kept.mk (Va.out.keep (hb1))
    replace Sl := Kept.mk (stable_ens _ _ _ _ Sl.out (hb1))
    clear hb1
    cases fl : fewL F1 8 with
    | false =>
      go_wp2
      all_goals go_ret
      all_goals exact ⟨rfl, hB.out⟩
    | true =>
      have FFl := Kept.mk (fewL_fit fl)
      have hl8 := fewL_len fl
      clear fl
      obtain ⟨qa, ra, xa, sa, ia, ka0, ka1, ka2⟩ := Va.out.open_
      have Xa := Kept.mk xa
      have Sa := Kept.mk sa
      have Ia := Kept.mk ia
      clear xa sa ia
      go_wp2_with fail
      cases oa : okA F0 with
      | false =>
        have Oa := Kept.mk oa
        clear oa
        ((with_reducible refine (w_check F0 2 _ _ Xa.out FFa.out (chkA_no Oa.out)).mono ?_); rintro e W4 ⟨rfl, hb1⟩)
        clear Xa Sa Ia ka0 ka1 ka2
        replace hB := Kept.mk (hB.out.trans ((hb1).mono hB.out.size))
        replace Va := Kept.mk (Va.out.keep (hb1))
        replace Sl := Kept.mk (stable_ens _ _ _ _ Sl.out (hb1))
        clear hb1
        go_wp2
        all_goals go_ret
        all_goals exact ⟨rfl, hB.out⟩
      | true =>
        have Oa := Kept.mk oa
        clear oa
        ((with_reducible refine (w_check F0 0 _ _ Xa.out FFa.out (chkA_yes Oa.out)).mono ?_); rintro e W4 ⟨rfl, hb1⟩)
        clear Xa Sa Ia ka0 ka1 ka2
        replace hB := Kept.mk (hB.out.trans ((hb1).mono hB.out.size))
        replace Va := Kept.mk (Va.out.keep (hb1))
        replace Sl := Kept.mk (stable_ens _ _ _ _ Sl.out (hb1))
        clear hb1
        obtain ⟨qa, ra, xa, sa, ia, ka0, ka1, ka2⟩ := Va.out.open_
        have Xa := Kept.mk xa
        have Sa := Kept.mk sa
        have Ia := Kept.mk ia
        clear xa sa ia
        go_wp2_with fail
        have OA := Kept.mk (okA_iff.1 Oa.out)
        obtain ⟨G, hG⟩ : ∃ G, mergeF F0 F1 = G := ⟨_, rfl⟩
        obtain ⟨n, hn⟩ : ∃ n : Int, (mergeN F0 F1 : Int) = n := ⟨_, rfl⟩
        obtain ⟨o, ho⟩ : ∃ o : Int, (mergeO F0 F1 : Int) = o := ⟨_, rfl⟩
        have OG := Kept.mk (show OkA G by rw [← hG]; exact (merge_okA _ OA.out).1)
        have FG := Kept.mk (okA_fit OG.out)
        have HG := Kept.mk hG
        have HN := Kept.mk hn
        have HO := Kept.mk ho
        clear hG hn ho
        ((with_reducible refine (ga_merge F0 F1 G n o _ _ _ Xa.out Sl.out FFa.out FFl.out (by omega) HG.out HN.out HO.out).mono ?_); rintro e U ⟨v', rfl, ⟨p', m', rfl, hp', hm'⟩, hb1⟩)
        obtain ⟨K1, K2, K3, K4, K5⟩ := anew U G p' m' hp' hm' U.heap.size rfl
        clear hp' hm'
        clear Xa Sa Ia ka0 ka1 ka2
        replace hB := Kept.mk (hB.out.trans ((hb1).mono hB.out.size))
        replace Va := Kept.mk (Va.out.keep (hb1))
        replace Sl := Kept.mk (stable_ens _ _ _ _ Sl.out (hb1))
        clear hb1
        go_wp2_with (have hz0 := K1; refine wpList_storeN 25 rfl (.tmp 9) (.tmp 38) rfl U.heap.size [.int .i64 G.cap, p', m'] size_ar rfl rfl K1.out rfl K2.out K5.out ?_; replace hB := Kept.mk (hB.out.trans ((K3.out).mono hB.out.size)); replace Va := Kept.mk (Va.out.keep (K3.out)); replace Sl := Kept.mk (stable_ens _ _ _ _ Sl.out (K3.out)); have Vb := Kept.mk K4.out; clear hz0 K1 K2 K3 K4 K5; generalize setN (U.alloc (.cells #[.int .i64 0, .slice none 0 0, .slice none 0 0] 25)) U.heap.size 0 [.int .i64 G.cap, p', m'] = W5 at *; generalize U.heap.size = gb at *)
        generalize hM : F1.length = M at *
        have HM := Kept.mk hM
        clear hM
        obtain ⟨ht0, ht9⟩ := Go.bounds_u8 w2
        have hB4 := hB
        have Va4 := Va
        have Vb4 := Vb
        have Sl4 := Sl
        clear hB Va Vb Sl
        go_loopw [12, 13] (fun MV IV WZ => ∃ (k : Nat) (ps : RowE), k ≤ M ∧ IV = .int .i64 (k : Int) ∧ Kept (OutV W5.heap.size MV ps WZ) ∧ Kept (∀ q ∈ ps, q.1 ∈ F1) ∧ ps.length = k ∧ Kept (Below W5.heap.size W5 WZ)) (fun _ IV _ => M - (intOf IV).toNat)
        case atStart => exact ⟨0, [], Nat.zero_le _, rfl, ⟨outV_nil _ _⟩, ⟨fun q hq => by cases hq⟩, rfl, ⟨Below.refl _ _⟩⟩
        case round =>
          obtain ⟨k, ps, hk, rfl, OV, HPS, hpl, BZ⟩ := hrel
          have HPL := Kept.mk hpl
          clear hpl
          by_cases hlt : k < M
          · skip
            have hlt' : (k : Int) < (M : Int) := by omega
            obtain ⟨j, hj⟩ : ∃ j : Nat, ((k : Int) * 7 + a2) % (M : Int) = (j : Int) := ⟨(((k : Int) * 7 + a2) % (M : Int)).toNat, by have := Int.emod_nonneg ((k : Int) * 7 + a2) (show (M : Int) ≠ 0 by omega); omega⟩
            have hjM : j < M := by have := Int.emod_lt_of_pos ((k : Int) * 7 + a2) (show (0 : Int) < (M : Int) by omega); omega
            have hjM' : (j : Int) < (M : Int) := by omega
            obtain ⟨X, hX⟩ : ∃ X, F1[j]? = some X := ⟨_, List.getElem?_eq_getElem (by rw [HM.out]; exact hjM)⟩
            have HXM := Kept.mk (List.mem_of_getElem? hX)
            obtain ⟨bs, os, cs, ea, hbs, xp, xm, hxc, hxp, hxm⟩ := Sl4.out.get hX
            injection ea with ea1 ea2 ea3
            subst ea1 ea3
            clear ea2 hX
            have HXP := Kept.mk hxp
            have HXMM := Kept.mk hxm
            have kx0 : wr.cell? ⟨bs, os + j * 9, none⟩ = _ := (BZ.out.cell (p := ⟨bs, os + j * 9 + 0, none⟩) hbs).trans (hxc 0 _ rfl)
            have kx1 : wr.cell? ⟨bs, os + j * 9 + 1, none⟩ = _ := (BZ.out.cell (p := ⟨bs, os + j * 9 + 1, none⟩) hbs).trans (hxc 1 _ rfl)
            have kx2 : wr.cell? ⟨bs, os + j * 9 + 2, none⟩ = _ := (BZ.out.cell (p := ⟨bs, os + j * 9 + 2, none⟩) hbs).trans (hxc 2 _ rfl)
            have kx3 : wr.cell? ⟨bs, os + j * 9 + 3, none⟩ = _ := (BZ.out.cell (p := ⟨bs, os + j * 9 + 3, none⟩) hbs).trans (hxc 3 _ rfl)
            have kx4 : wr.cell? ⟨bs, os + j * 9 + 4, none⟩ = _ := (BZ.out.cell (p := ⟨bs, os + j * 9 + 4, none⟩) hbs).trans (hxc 4 _ rfl)
            have kx5 : wr.cell? ⟨bs, os + j * 9 + 5, none⟩ = _ := (BZ.out.cell (p := ⟨bs, os + j * 9 + 5, none⟩) hbs).trans (hxc 5 _ rfl)
            have kx6 : wr.cell? ⟨bs, os + j * 9 + 6, none⟩ = _ := (BZ.out.cell (p := ⟨bs, os + j * 9 + 6, none⟩) hbs).trans (hxc 6 _ rfl)
            have kx7 : wr.cell? ⟨bs, os + j * 9 + 7, none⟩ = _ := (BZ.out.cell (p := ⟨bs, os + j * 9 + 7, none⟩) hbs).trans (hxc 7 _ rfl)
            have kx8 : wr.cell? ⟨bs, os + j * 9 + 8, none⟩ = _ := (BZ.out.cell (p := ⟨bs, os + j * 9 + 8, none⟩) hbs).trans (hxc 8 _ rfl)
            clear hxc hxp hxm
            have ROW := Kept.mk (show RowsOk [(X, xp, xm)] W5 from fun q hq => by rw [List.mem_singleton] at hq; subst hq; exact ⟨HXP.out, HXMM.out⟩)
            have HOF := Kept.mk (show ∀ q ∈ [(X, xp, xm)], ∀ b, u12.ownBlock = some b → OffQ b q from fun q hq b hbo => off_old ROW.out (OV.out.own.lt b hbo).1 q hq)
            have OV1 := Kept.mk (OV.out.keep (lit_below wr (.cells #[.string ⟨X.key.toArray⟩, .int .i64 X.val.kind, .int .i64 X.val.time, .int .i64 X.val.node, .bool X.val.dead, .string ⟨X.val.text.toArray⟩, xp, xm, .int .u64 (X.val.flags.toNat : Int)] 30)))
            have BZ1 := Kept.mk (BZ.out.trans ((lit_below wr (.cells #[.string ⟨X.key.toArray⟩, .int .i64 X.val.kind, .int .i64 X.val.time, .int .i64 X.val.node, .bool X.val.dead, .string ⟨X.val.text.toArray⟩, xp, xm, .int .u64 (X.val.flags.toNat : Int)] 30)).mono BZ.out.size))
            have SRC := Kept.mk (src_one X xp xm wr)
            have ROW1 := Kept.mk (show RowsOk [(X, xp, xm)] (wr.alloc (.cells #[.string ⟨X.key.toArray⟩, .int .i64 X.val.kind, .int .i64 X.val.time, .int .i64 X.val.node, .bool X.val.dead, .string ⟨X.val.text.toArray⟩, xp, xm, .int .u64 (X.val.flags.toNat : Int)] 30)) from fun q hq => ⟨stable_cells _ _ _ _ (ROW.out q hq).1 BZ1.out, stable_cells _ _ _ _ (ROW.out q hq).2 BZ1.out⟩)
            have hpk : ps.length + [(X, xp, xm)].length ≤ 1000 := by have := HPL.out; simp; omega
            have HPK := Kept.mk hpk
            clear hpk
            go_wp2_with (at_builtin; refine wpList_append_ens rfl (.tmp 47) (.tmp 59) rfl W5.heap.size u12 ps rfl OV1.out _ [(X, xp, xm)] rfl SRC.out ROW1.out HOF.out HPK.out BZ1.out.size ?_; intro v2 W2 ho2 hg2; have OV2 := Kept.mk ho2; have BZ2 := Kept.mk (grown_below OV1.out hg2 BZ1.out (Nat.le_refl _)); clear ho2 hg2 kx0 kx1 kx2 kx3 kx4 kx5 kx6 kx7 kx8)
            clear hj
            go_roundw
            case rel => exact ⟨k + 1, ps ++ [(X, xp, xm)], by omega, by go_num, OV2, ⟨fun q hq => (List.mem_append.1 hq).elim (HPS.out q) (fun hq => by rw [List.mem_singleton] at hq; subst hq; exact HXM.out)⟩, by rw [List.length_append, HPL.out]; rfl, BZ2⟩
            case measure => simp [intOf]; omega
          · skip
            have hlt' : ¬ (k : Int) < (M : Int) := by omega
            have hB := Kept.mk (hB4.out.trans (BZ.out.mono hB4.out.size))
            have Va := Kept.mk (Va4.out.keep BZ.out)
            have Vb := Kept.mk (Vb4.out.keep BZ.out)
            have Sl := Kept.mk (stable_ens _ _ _ _ Sl4.out BZ.out)
            have SM := Kept.mk OV.out.ens
            have hkM : k = M := by omega
            have HLN := Kept.mk (show (ps.map (·.1)).length ≤ 8 by rw [List.length_map, HPL.out]; omega)
            have HIN := Kept.mk (show ∀ x ∈ ps.map (·.1), x ∈ F1 from fun x hx => by obtain ⟨q, hq, rfl⟩ := List.mem_map.1 hx; exact HPS.out q hq)
            generalize ps.map (·.1) = ML at SM HLN HIN
            clear hkM
            by_cases h7 : M = 7
            · skip
              have SM := Kept.mk Sl.out
              have HLN := Kept.mk (show F1.length ≤ 8 by rw [HM.out]; omega)
              have HIN := Kept.mk (show ∀ x ∈ F1, x ∈ F1 from fun _ h => h)
              obtain ⟨ML, hML⟩ : ∃ ML, ML = F1 := ⟨_, rfl⟩
              rw [← hML] at HLN
              have SM := Kept.mk (show isEns ML _ wr by rw [hML]; exact SM.out)
              have HIN := Kept.mk (show ∀ x ∈ ML, x ∈ F1 by rw [hML]; exact fun _ h => h)
              clear hML
              have h7' : ((M : Int) == 7) = true := by subst h7; rfl
              have H7 := Kept.mk h7
              clear h7
              obtain ⟨psm, em, rm, sm⟩ := SM.out.src
              obtain ⟨psl, el, rl, sl⟩ := Sl.out.src
              have HE := Kept.mk (show (psm ++ psl).map (·.1) = ML ++ F1 by rw [List.map_append, em, el])
              have hml : psm.length ≤ 8 := by have := congrArg List.length em; rw [List.length_map] at this; have := HLN.out; omega
              have hll : psl.length ≤ 8 := by have := congrArg List.length el; rw [List.length_map, HM.out] at this; omega
              have FP := Kept.mk (show ∀ q ∈ psm ++ psl, FitE q.1 from fun q hq => FFl.out _ ((List.mem_append.1 (show q.1 ∈ ML ++ F1 by rw [← HE.out]; exact List.mem_map.2 ⟨q, hq, rfl⟩)).elim (HIN.out _) id))
              obtain ⟨D, hD⟩ : ∃ D, mergeF F0 (ML ++ F1) = D := ⟨_, rfl⟩
              obtain ⟨n2, hn2⟩ : ∃ n : Int, (mergeN F0 (ML ++ F1) : Int) = n := ⟨_, rfl⟩
              obtain ⟨o2, ho2⟩ : ∃ o : Int, (mergeO F0 (ML ++ F1) : Int) = o := ⟨_, rfl⟩
              have OD := Kept.mk (show OkA D by rw [← hD]; exact (merge_okA _ OA.out).1)
              have FD := Kept.mk (okA_fit OD.out)
              obtain ⟨q1, q2⟩ := merge_order OA.out F1 ML HIN.out
              have hoo : 0 < o ∧ 0 < o2 ∨ o = 0 ∧ o2 = 0 ∧ alikeA G D = true := by
                have h1 := HO.out
                by_cases h0 : mergeO F0 F1 = 0
                · right; have h2 := q1.1 h0; have h3 := q2 h0; rw [HG.out, hD] at h3; exact ⟨by omega, by omega, h3⟩
                · left; have h2 : ¬ mergeO F0 (ML ++ F1) = 0 := fun h => h0 (q1.2 h); exact ⟨by omega, by omega⟩
              have HD := Kept.mk hD
              have HN2 := Kept.mk hn2
              have HO2 := Kept.mk ho2
              have RM := Kept.mk rm
              have RL := Kept.mk rl
              have SMM := Kept.mk sm
              have SLL := Kept.mk sl
              obtain ⟨qa, ra, CA, sa, ia⟩ := Va.out
              have XA := Kept.mk (show isAr F0 (.agg #[.int .i64 F0.cap, qa, ra]) wr from ⟨_, _, rfl, sa, ia⟩)
              have HCA := Kept.mk CA
              have HOO := Kept.mk hoo
              clear hD hn2 ho2 rm rl sm sl em el q1 q2 CA sa ia hoo
              go_wp2
              refine aord_region _ _ _ rfl w.heap.size F0 D n2 o2 qa ra _ _ psm psl rfl rfl rfl HCA.out XA.out FFa.out SMM.out RM.out SLL.out RL.out (by omega) FP.out (by rw [HE.out]; exact HD.out) (by rw [HE.out]; exact HN2.out) (by rw [HE.out]; exact HO2.out) OD.out ?_
              intro f9 W9 d14 d15 d16 hb9
              simp only [List.foldl_cons, List.foldl_nil, d15, d16]
              generalize f9 66 = y66
              generalize f9 67 = y67
              generalize f9 68 = y68
              generalize f9 69 = y69
              generalize f9 70 = y70
              generalize f9 71 = y71
              generalize f9 72 = y72
              generalize f9 65 = y65
              generalize f9 73 = y73
              generalize f9 74 = y74
              generalize f9 75 = y75
              generalize f9 14 = y14 at d14 ⊢
              clear d15 d16
              simp only [List.setIfInBounds_toArray, List.set_cons_succ, List.set_cons_zero]
              obtain ⟨gc, ey, vc⟩ := d14
              subst ey
              replace hB := Kept.mk (hB.out.trans (hb9.mono hB.out.size))
              have Vb9 := Kept.mk (Vb.out.keep hb9)
              have Vc := Kept.mk vc
              clear hb9 vc Va Vb Sl SM RM RL SMM SLL XA HCA
              rcases HOO.out with ⟨p1, p2⟩ | ⟨z1, z2, hal⟩
              · go_wp2
                go_ret
                exact ⟨rfl, hB.out⟩
              · skip
                subst z1 z2
                have HAL := Kept.mk hal
                obtain ⟨L, hL⟩ : ∃ L, allA G = L := ⟨_, rfl⟩
                have e1 : allA G = ordA G := by unfold allA; rw [if_pos (okA_iff.2 OG.out)]
                have e2 : allA D = ordA D := by unfold allA; rw [if_pos (okA_iff.2 OD.out)]
                have HL2 := Kept.mk (show allA D = L by rw [e2, ← alike_ord HAL.out, ← e1]; exact hL)
                have hLn : L.length ≤ 1000 := by rw [← hL, e1, ord_length OG.out]; have := OG.out.fits; have := OG.out.room; omega
                have FLL := Kept.mk (show ∀ e ∈ L, FitE e by rw [← hL, e1]; exact fun e he => FG.out.ents e ((mem_ord OG.out e).1 he))
                have HL := Kept.mk hL
                obtain ⟨qb, rb, CB, sb, ib⟩ := Vb9.out
                obtain ⟨qc, rc, CC, sc, ic⟩ := Vc.out
                have HCB := Kept.mk CB
                have HCC := Kept.mk CC
                have XB := Kept.mk (show isAr G (.agg #[.int .i64 G.cap, qb, rb]) W9 from ⟨_, _, rfl, sb, ib⟩)
                have XC := Kept.mk (show isAr D (.agg #[.int .i64 D.cap, qc, rc]) W9 from ⟨_, _, rfl, sc, ic⟩)
                clear hal hL e1 e2 CB CC sb ib sc ic
                go_wp2
                refine aor2_region _ _ _ rfl gb gc G D L qb rb qc rc rfl rfl rfl rfl HCB.out HCC.out XB.out XC.out FG.out FD.out HAL.out HL.out HL2.out hLn FLL.out ?_
                intro f8 W8 d6 hb8
                simp only [List.foldl_cons, List.foldl_nil, d6]
                generalize f8 83 = y83
                generalize f8 84 = y84
                generalize f8 85 = y85
                generalize f8 86 = y86
                generalize f8 87 = y87
                generalize f8 88 = y88
                generalize f8 89 = y89
                generalize f8 90 = y90
                generalize f8 91 = y91
                generalize f8 92 = y92
                generalize f8 93 = y93
                generalize f8 94 = y94
                generalize f8 95 = y95
                generalize f8 96 = y96
                generalize f8 97 = y97
                generalize f8 98 = y98
                generalize f8 99 = y99
                clear d6
                simp only [List.setIfInBounds_toArray, List.set_cons_succ, List.set_cons_zero]
                replace hB := Kept.mk (hB.out.trans (hb8.mono hB.out.size))
                clear hb8
                go_wp2
                go_ret
                exact ⟨rfl, hB.out⟩
            · skip
              have h7' : ((M : Int) == 7) = false := by rw [beq_eq_false_iff_ne]; omega
              clear h7
              obtain ⟨psm, em, rm, sm⟩ := SM.out.src
              obtain ⟨psl, el, rl, sl⟩ := Sl.out.src
              have HE := Kept.mk (show (psm ++ psl).map (·.1) = ML ++ F1 by rw [List.map_append, em, el])
              have hml : psm.length ≤ 8 := by have := congrArg List.length em; rw [List.length_map] at this; have := HLN.out; omega
              have hll : psl.length ≤ 8 := by have := congrArg List.length el; rw [List.length_map, HM.out] at this; omega
              have FP := Kept.mk (show ∀ q ∈ psm ++ psl, FitE q.1 from fun q hq => FFl.out _ ((List.mem_append.1 (show q.1 ∈ ML ++ F1 by rw [← HE.out]; exact List.mem_map.2 ⟨q, hq, rfl⟩)).elim (HIN.out _) id))
              obtain ⟨D, hD⟩ : ∃ D, mergeF F0 (ML ++ F1) = D := ⟨_, rfl⟩
              obtain ⟨n2, hn2⟩ : ∃ n : Int, (mergeN F0 (ML ++ F1) : Int) = n := ⟨_, rfl⟩
              obtain ⟨o2, ho2⟩ : ∃ o : Int, (mergeO F0 (ML ++ F1) : Int) = o := ⟨_, rfl⟩
              have OD := Kept.mk (show OkA D by rw [← hD]; exact (merge_okA _ OA.out).1)
              have FD := Kept.mk (okA_fit OD.out)
              obtain ⟨q1, q2⟩ := merge_order OA.out F1 ML HIN.out
              have hoo : 0 < o ∧ 0 < o2 ∨ o = 0 ∧ o2 = 0 ∧ alikeA G D = true := by
                have h1 := HO.out
                by_cases h0 : mergeO F0 F1 = 0
                · right; have h2 := q1.1 h0; have h3 := q2 h0; rw [HG.out, hD] at h3; exact ⟨by omega, by omega, h3⟩
                · left; have h2 : ¬ mergeO F0 (ML ++ F1) = 0 := fun h => h0 (q1.2 h); exact ⟨by omega, by omega⟩
              have HD := Kept.mk hD
              have HN2 := Kept.mk hn2
              have HO2 := Kept.mk ho2
              have RM := Kept.mk rm
              have RL := Kept.mk rl
              have SMM := Kept.mk sm
              have SLL := Kept.mk sl
              obtain ⟨qa, ra, CA, sa, ia⟩ := Va.out
              have XA := Kept.mk (show isAr F0 (.agg #[.int .i64 F0.cap, qa, ra]) wr from ⟨_, _, rfl, sa, ia⟩)
              have HCA := Kept.mk CA
              have HOO := Kept.mk hoo
              clear hD hn2 ho2 rm rl sm sl em el q1 q2 CA sa ia hoo
              go_wp2
              refine aord_region _ _ _ rfl w.heap.size F0 D n2 o2 qa ra _ _ psm psl rfl rfl rfl HCA.out XA.out FFa.out SMM.out RM.out SLL.out RL.out (by omega) FP.out (by rw [HE.out]; exact HD.out) (by rw [HE.out]; exact HN2.out) (by rw [HE.out]; exact HO2.out) OD.out ?_
              intro f9 W9 d14 d15 d16 hb9
              simp only [List.foldl_cons, List.foldl_nil, d15, d16]
              generalize f9 66 = y66
              generalize f9 67 = y67
              generalize f9 68 = y68
              generalize f9 69 = y69
              generalize f9 70 = y70
              generalize f9 71 = y71
              generalize f9 72 = y72
              generalize f9 65 = y65
              generalize f9 73 = y73
              generalize f9 74 = y74
              generalize f9 75 = y75
              generalize f9 14 = y14 at d14 ⊢
              clear d15 d16
              simp only [List.setIfInBounds_toArray, List.set_cons_succ, List.set_cons_zero]
              obtain ⟨gc, ey, vc⟩ := d14
              subst ey
              replace hB := Kept.mk (hB.out.trans (hb9.mono hB.out.size))
              have Vb9 := Kept.mk (Vb.out.keep hb9)
              have Vc := Kept.mk vc
              clear hb9 vc Va Vb Sl SM RM RL SMM SLL XA HCA
              rcases HOO.out with ⟨p1, p2⟩ | ⟨z1, z2, hal⟩
              · go_wp2
                go_ret
                exact ⟨rfl, hB.out⟩
              · skip
                subst z1 z2
                have HAL := Kept.mk hal
                obtain ⟨L, hL⟩ : ∃ L, allA G = L := ⟨_, rfl⟩
                have e1 : allA G = ordA G := by unfold allA; rw [if_pos (okA_iff.2 OG.out)]
                have e2 : allA D = ordA D := by unfold allA; rw [if_pos (okA_iff.2 OD.out)]
                have HL2 := Kept.mk (show allA D = L by rw [e2, ← alike_ord HAL.out, ← e1]; exact hL)
                have hLn : L.length ≤ 1000 := by rw [← hL, e1, ord_length OG.out]; have := OG.out.fits; have := OG.out.room; omega
                have FLL := Kept.mk (show ∀ e ∈ L, FitE e by rw [← hL, e1]; exact fun e he => FG.out.ents e ((mem_ord OG.out e).1 he))
                have HL := Kept.mk hL
                obtain ⟨qb, rb, CB, sb, ib⟩ := Vb9.out
                obtain ⟨qc, rc, CC, sc, ic⟩ := Vc.out
                have HCB := Kept.mk CB
                have HCC := Kept.mk CC
                have XB := Kept.mk (show isAr G (.agg #[.int .i64 G.cap, qb, rb]) W9 from ⟨_, _, rfl, sb, ib⟩)
                have XC := Kept.mk (show isAr D (.agg #[.int .i64 D.cap, qc, rc]) W9 from ⟨_, _, rfl, sc, ic⟩)
                clear hal hL e1 e2 CB CC sb ib sc ic
                go_wp2
                refine aor2_region _ _ _ rfl gb gc G D L qb rb qc rc rfl rfl rfl rfl HCB.out HCC.out XB.out XC.out FG.out FD.out HAL.out HL.out HL2.out hLn FLL.out ?_
                intro f8 W8 d6 hb8
                simp only [List.foldl_cons, List.foldl_nil, d6]
                generalize f8 83 = y83
                generalize f8 84 = y84
                generalize f8 85 = y85
                generalize f8 86 = y86
                generalize f8 87 = y87
                generalize f8 88 = y88
                generalize f8 89 = y89
                generalize f8 90 = y90
                generalize f8 91 = y91
                generalize f8 92 = y92
                generalize f8 93 = y93
                generalize f8 94 = y94
                generalize f8 95 = y95
                generalize f8 96 = y96
                generalize f8 97 = y97
                generalize f8 98 = y98
                generalize f8 99 = y99
                clear d6
                simp only [List.setIfInBounds_toArray, List.set_cons_succ, List.set_cons_zero]
                replace hB := Kept.mk (hB.out.trans (hb8.mono hB.out.size))
                clear hb8
                go_wp2
                go_ret
                exact ⟨rfl, hB.out⟩
set_option maxRecDepth 100000 in
theorem arenaOrder_lifted (os : Os) (started : os.Started) (H : Type) (enc : TypeId × Value → H) :
    ReturnsInHanded {} Try.checked os 4 .any (Rows.arenaOrderSpec.pre6 enc Try.prog Try.f4 Rows.arenaOrderRow.domain false) (Rows.arenaOrderSpec.post enc Try.prog Try.f4 false true false false) := by
  refine returnsInHanded_of_change (C := Try.checked) (by kernel_rfl : ownKnob Try.prog.godebug = none) started (by kernel_rfl) Try.func4
    (ChangeSpec.witness6 (enc := enc) (C := Try.checked) false ⟨#[], #[.agg #[.int .i64 0, .slice none 0 0, .slice none 0 0], .slice none 0 0, .int .u8 0], []⟩ 8 (by kernel_rfl) (by kernel_rfl) (by kernel_rfl) (by kernel_rfl)) ?_
  intro W base args ds gs before hval0 hW hcnd _
  have hval : ∀ (j : Nat) t v, Try.f4.params[j]? = some t → args[j]? = some v → Value.okWide Try.prog W .any base t v := hval0
  have hW' := hW
  obtain ⟨p, q, hA0, hV, rfl, hfz, hnd⟩ := hW
  have hA : DataW.TrodAll enc Try.prog W 0 (fun _ => true) true Try.f4.params.toList args.toList ds p := hA0
  rw [Try.params4] at hA hval
  obtain ⟨v0, vs0, d0, ds0, p0, q0, hargs, rfl, rfl, h0, r0⟩ := trodAll_cons hA
  obtain ⟨v1, vs1, d1, ds1, p1, q1, rfl, rfl, rfl, h1, r1⟩ := trodAll_cons r0
  obtain ⟨v2, vs2, d2, ds2, p2, q2, rfl, rfl, rfl, h2, r2⟩ := trodAll_cons r1
  obtain ⟨rfl, rfl, rfl⟩ := trodAll_nil r2
  obtain rfl : args = #[v0, v1, v2] := by cases args; simp_all
  obtain ⟨rfl, rfl⟩ := trodVars_none hV
  obtain ⟨F0, fl0, w0⟩ := open_ar (hval 0 25 v0 rfl rfl) h0
  have lt0 : ∀ x ∈ p0, x.block < W.heap.size := fun x hx => by obtain ⟨fuel, hf⟩ := h0; exact DataW.trod_lt fuel _ _ _ hf x hx
  obtain ⟨F1, fl1, w1⟩ := open_el (hval 1 22 v1 rfl rfl) h1
  have lt1 : ∀ x ∈ p1, x.block < W.heap.size := fun x hx => by obtain ⟨fuel, hf⟩ := h1; exact DataW.trod_lt fuel _ _ _ hf x hx
  obtain ⟨a2, rfl, rfl, rfl, w2⟩ := open_int Try.underlying5 (hval 2 5 v2 rfl rfl) h2
  clear hA0 hval0
  simp only [List.append_nil] at hW'
  refine (arenaOrder_walk F0 v0 F1 v1 a2 w0 w1 w2 W fl0 fl1).mono fun e W' ⟨he, bel⟩ => ?_
  subst he
  exact ⟨_, rfl, _, _, _, [], _, [], hW', trodAll_mk1 (shut_bool Try.underlying4 _), (trodAll_cons_mk (Below.trod (by kernel_rfl) (by kernel_rfl) (of_decide_eq_true (by kernel_rfl)) h0 bel lt0) (trodAll_cons_mk (Below.trod (by kernel_rfl) (by kernel_rfl) (of_decide_eq_true (by kernel_rfl)) h1 bel lt1) (trodAll_cons_mk (shut_int Try.underlying5 w2) trodAll_mk0))), rfl, bel.frame _, fun h => by cases h⟩
/-- THE STATEMENT. -/
theorem arenaOrder_proved : Rows.ArenaOrderSaid :=
  OpenClaim.holds_of_wide 4 Try.f4 rfl rfl rfl rfl rfl rfl rfl ⟨rfl, rfl, rfl, rfl, rfl⟩ rfl rfl rfl rfl rfl (by kernel_rfl) Try.func4 (by kernel_rfl)
    (of_decide_eq_true (by kernel_rfl)) (by unfold Func.isWrapper; first | (rw [if_pos (by decide +kernel)]; kernel_rfl) | (rw [if_neg (by decide +kernel)]; exact ⟨rfl, rfl⟩))
    (fun os started H enc _ => arenaOrder_lifted os started H enc)
#print axioms arenaOrder_proved
end Go.Proofs.Ytmbnhlhanckkiaa
