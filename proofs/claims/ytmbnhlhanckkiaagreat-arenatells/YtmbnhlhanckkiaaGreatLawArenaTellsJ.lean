/- A new arena, whether any may be, a place, all in order, some, and whether two are below each other, alike or the same, are what the document says. -/
import Derived.Test.YtmbnhlhanckkiaaGreatPartG
import Derived.SizedLaws
import Derived.ProofKit
import Derived.OpenShut
import Derived.ShutString
import Derived.ChangeOld
import Derived.Below
namespace Go.Proofs.YtmbnhlhanckkiaaGreat
open Go.RowKit
open Go.ChangeShapes Go.WideShapes Go.ChangeAt Go.RowKit
open Go.ChangeMaps (open_string shut_string)
set_option linter.unusedVariables false
set_option linter.unusedSimpArgs false
attribute [local irreducible] setN

set_option maxRecDepth 100000 in
set_option maxHeartbeats 4000000 in
theorem arenaTells_walk (F0 : Ar) (v0 : Value) (F1 : Ar) (v1 : Value) (a2 a3 : Int) (a4 : ByteArray) (w0 : CameA F0) (w1 : CameA F1) (w2 : (Lit.int .i64 a2).wf = true) (w3 : (Lit.int .i64 a3).wf = true) (w4 : a4.size ≤ maxLen) (w : World) (fl0 : isAr F0 v0 w) (fl1 : isAr F1 v1 w) :
    Calls Tryz.prog 3 #[v0, v1, .int .i64 a2, .int .i64 a3, .string a4] w fun e w' => e = .returned (.bool true) ∧ Below w.heap.size w w' := by
  rw [str_eta a4]
  generalize a4.data.toList = K
  obtain ⟨pa, ma, rfl, hpa, hma⟩ := fl0
  obtain ⟨pb, mb, rfl, hpb, hmb⟩ := fl1
  obtain ⟨hB, Va⟩ := abox w F0 pa ma hpa hma (w.heap.size) (by simp)
  obtain ⟨hBn, Vb⟩ := abox (w.alloc (.cells #[.int .i64 F0.cap, pa, ma] 25)) F1 pb mb (stable_ens _ _ _ _ hpb hB.out) (stable_cells _ _ _ _ hmb hB.out) (w.heap.size + 1) (by simp)
  replace Va := Kept.mk (Va.out.keep hBn.out)
  replace hB := Kept.mk (hB.out.trans (hBn.out.mono hB.out.size))
  clear hBn
  clear hpa hma hpb hmb
  go_enter Tryz.func3, Tryz.ntmps3
  go_wp2_with fail
  generalize ((w.alloc (.cells #[.int .i64 F0.cap, pa, ma] 25)).alloc (.cells #[.int .i64 F1.cap, pb, mb] 25)) = W0 at *
  ((with_reducible refine (aworks_any _).mono ?_); rintro e W1 ⟨rfl, hb1⟩)
  replace hB := Kept.mk (hB.out.trans ((hb1).mono hB.out.size))
  replace Va := Kept.mk (Va.out.keep (hb1))
  replace Vb := Kept.mk (Vb.out.keep (hb1))
  clear hb1
  obtain ⟨qa, ra, xa, sa, ia, ka0, ka1, ka2⟩ := Va.out.open_
  have Xa := Kept.mk xa
  have Sa := Kept.mk sa
  have Ia := Kept.mk ia
  clear xa sa ia
  go_wp2_with fail
  ((with_reducible refine (afew_any F0 _ _ Xa.out (CameA.keys w0) w0.slots w0.index).mono ?_); rintro e W2 ⟨rfl, hb1⟩)
  clear Xa Sa Ia ka0 ka1 ka2
  replace hB := Kept.mk (hB.out.trans ((hb1).mono hB.out.size))
  replace Va := Kept.mk (Va.out.keep (hb1))
  replace Vb := Kept.mk (Vb.out.keep (hb1))
  clear hb1
  cases fa : fewA F0 with
  | false =>
    go_wp2
    all_goals go_ret
    all_goals exact ⟨rfl, hB.out⟩
  | true =>
    have FFa := Kept.mk (fewA_fit fa)
    have KFa := Kept.mk fa
    clear fa
    obtain ⟨qb, rb, xb, sb, ib, kb0, kb1, kb2⟩ := Vb.out.open_
    have Xb := Kept.mk xb
    have Sb := Kept.mk sb
    have Ib := Kept.mk ib
    clear xb sb ib
    go_wp2_with fail
    ((with_reducible refine (afew_any F1 _ _ Xb.out (CameA.keys w1) w1.slots w1.index).mono ?_); rintro e W3 ⟨rfl, hb1⟩)
    clear Xb Sb Ib kb0 kb1 kb2
    replace hB := Kept.mk (hB.out.trans ((hb1).mono hB.out.size))
    replace Va := Kept.mk (Va.out.keep (hb1))
    replace Vb := Kept.mk (Vb.out.keep (hb1))
    clear hb1
    cases fb : fewA F1 with
    | false =>
      go_wp2
      all_goals go_ret
      all_goals exact ⟨rfl, hB.out⟩
    | true =>
      have FFb := Kept.mk (fewA_fit fb)
      clear fb
      by_cases h100 : 100 < K.length
      · skip
        have c1 : decide (100 < (K.length : Int)) = true := by simp; omega
        go_wp2
        all_goals go_ret
        all_goals exact ⟨rfl, hB.out⟩
      · skip
        have c1 : decide (100 < (K.length : Int)) = false := by simp; omega
        obtain ⟨G, hG⟩ : ∃ r : Ar, newAF a2 = r := ⟨_, rfl⟩
        obtain ⟨ne, hne⟩ : ∃ r : Int, newAE a2 = r := ⟨_, rfl⟩
        obtain ⟨ok, hok⟩ : ∃ r : Bool, okA F0 = r := ⟨_, rfl⟩
        obtain ⟨p, hp⟩ : ∃ r : Int, findI F0 (nameE a2 K) = r := ⟨_, rfl⟩
        obtain ⟨L, hL⟩ : ∃ r : List En, allA F0 = r := ⟨_, rfl⟩
        obtain ⟨M, hM⟩ : ∃ r : List En, chunkA F0 a2 a3 = r := ⟨_, rfl⟩
        obtain ⟨bl, hbl⟩ : ∃ r : Bool, belowA F0 F1 = r := ⟨_, rfl⟩
        obtain ⟨al, hal⟩ : ∃ r : Bool, alikeA F0 F1 = r := ⟨_, rfl⟩
        obtain ⟨sm, hsm⟩ : ∃ r : Bool, decide (F0 = F1) = r := ⟨_, rfl⟩
        obtain ⟨ce, hce⟩ : ∃ r : Int, chkA F0 = r := ⟨_, rfl⟩
        have hcc : (ce == 0) = ok := by rw [← hce, ← hok]; unfold chkA; cases okA F0 <;> rfl
        have FG := Kept.mk (show FitA G by rw [← hG]; exact newA_fit a2)
        have LF := Kept.mk (show L.length ≤ 1000 ∧ ∀ e ∈ L, FitE e by rw [← hL]; exact allA_fit FFa.out)
        have MF := Kept.mk (show M.length ≤ 1000 ∧ ∀ e ∈ M, FitE e by rw [← hM]; exact chunkA_fit FFa.out a2 a3)
        have HG := Kept.mk hG
        have Hne := Kept.mk hne
        have Hok := Kept.mk hok
        have Hp := Kept.mk hp
        have HL := Kept.mk hL
        have HM := Kept.mk hM
        have Hbl := Kept.mk hbl
        have Hal := Kept.mk hal
        have Hsm := Kept.mk hsm
        have Hce := Kept.mk hce
        clear hG hne hok hp hL hM hbl hal hsm hce
        go_wp2_with fail
        clear c1 h100
        ((with_reducible refine (new_at a2 G ne _ HG.out Hne.out).mono ?_); rintro e U ⟨v', rfl, ⟨p', m', rfl, hp', hm'⟩, hb1⟩)
        obtain ⟨K1, K2, K3, K4, K5⟩ := anew U G p' m' hp' hm' U.heap.size rfl
        clear hp' hm'
        replace hB := Kept.mk (hB.out.trans ((hb1).mono hB.out.size))
        replace Va := Kept.mk (Va.out.keep (hb1))
        replace Vb := Kept.mk (Vb.out.keep (hb1))
        clear hb1
        go_wp2_with (have hz0 := K1; refine wpList_storeN 25 rfl (.tmp 13) (.tmp 45) rfl U.heap.size [.int .i64 G.cap, p', m'] size_ar rfl rfl K1.out rfl K2.out K5.out ?_; replace hB := Kept.mk (hB.out.trans ((K3.out).mono hB.out.size)); replace Va := Kept.mk (Va.out.keep (K3.out)); replace Vb := Kept.mk (Vb.out.keep (K3.out)); have Vc := Kept.mk K4.out; clear hz0 K1 K2 K3 K4 K5; generalize setN (U.alloc (.cells #[.int .i64 0, .slice none 0 0, .slice none 0 0] 25)) U.heap.size 0 [.int .i64 G.cap, p', m'] = W4 at *; generalize U.heap.size = gc at *)
        ((with_reducible refine (rnew_at a2 G ne _ HG.out Hne.out).mono ?_); rintro e U ⟨v', rfl, ⟨p', m', rfl, hp', hm'⟩, hb1⟩)
        obtain ⟨K1, K2, K3, K4, K5⟩ := anew U G p' m' hp' hm' U.heap.size rfl
        clear hp' hm'
        replace hB := Kept.mk (hB.out.trans ((hb1).mono hB.out.size))
        replace Va := Kept.mk (Va.out.keep (hb1))
        replace Vb := Kept.mk (Vb.out.keep (hb1))
        replace Vc := Kept.mk (Vc.out.keep (hb1))
        clear hb1
        go_wp2_with (have hz0 := K1; refine wpList_storeN 25 rfl (.tmp 15) (.tmp 50) rfl U.heap.size [.int .i64 G.cap, p', m'] size_ar rfl rfl K1.out rfl K2.out K5.out ?_; replace hB := Kept.mk (hB.out.trans ((K3.out).mono hB.out.size)); replace Va := Kept.mk (Va.out.keep (K3.out)); replace Vb := Kept.mk (Vb.out.keep (K3.out)); replace Vc := Kept.mk (Vc.out.keep (K3.out)); have Vd := Kept.mk K4.out; clear hz0 K1 K2 K3 K4 K5; generalize setN (U.alloc (.cells #[.int .i64 0, .slice none 0 0, .slice none 0 0] 25)) U.heap.size 0 [.int .i64 G.cap, p', m'] = W5 at *; generalize U.heap.size = gd at *; obtain ⟨qa, ra, xa, sa, ia, ka0, ka1, ka2⟩ := Va.out.open_; have Xa := Kept.mk xa; have Sa := Kept.mk sa; have Ia := Kept.mk ia; clear xa sa ia)
        ((with_reducible refine (rcheckA_at F0 ok _ _ Xa.out FFa.out Hok.out).mono ?_); rintro e W6 ⟨rfl, hb1⟩)
        clear Xa Sa Ia ka0 ka1 ka2
        replace hB := Kept.mk (hB.out.trans ((hb1).mono hB.out.size))
        replace Va := Kept.mk (Va.out.keep (hb1))
        replace Vb := Kept.mk (Vb.out.keep (hb1))
        replace Vc := Kept.mk (Vc.out.keep (hb1))
        replace Vd := Kept.mk (Vd.out.keep (hb1))
        clear hb1
        obtain ⟨qa, ra, xa, sa, ia, ka0, ka1, ka2⟩ := Va.out.open_
        have Xa := Kept.mk xa
        have Sa := Kept.mk sa
        have Ia := Kept.mk ia
        clear xa sa ia
        go_wp2_with fail
        ((with_reducible refine (rfindk_at F0 a2 K p _ _ Xa.out FFa.out Hp.out).mono ?_); rintro e W7 ⟨rfl, hb1⟩)
        clear Xa Sa Ia ka0 ka1 ka2
        replace hB := Kept.mk (hB.out.trans ((hb1).mono hB.out.size))
        replace Va := Kept.mk (Va.out.keep (hb1))
        replace Vb := Kept.mk (Vb.out.keep (hb1))
        replace Vc := Kept.mk (Vc.out.keep (hb1))
        replace Vd := Kept.mk (Vd.out.keep (hb1))
        clear hb1
        go_wp2
        obtain ⟨qa, ra, ca, sa, ia⟩ := Va.out
        refine atl1_region _ _ _ rfl w.heap.size F0 L qa ra rfl ca ⟨_, _, rfl, sa, ia⟩ FFa.out HL.out LF.out.1 LF.out.2 ?_
        intro f9 W9 d19 hb9
        simp only [List.foldl_cons, List.foldl_nil, d19]
        generalize f9 58 = y58
        generalize f9 59 = y59
        generalize f9 60 = y60
        generalize f9 61 = y61
        generalize f9 62 = y62
        clear d19
        simp only [List.setIfInBounds_toArray, List.set_cons_succ, List.set_cons_zero]
        clear ca sa ia
        replace hB := Kept.mk (hB.out.trans ((hb9).mono hB.out.size))
        replace Va := Kept.mk (Va.out.keep (hb9))
        replace Vb := Kept.mk (Vb.out.keep (hb9))
        replace Vc := Kept.mk (Vc.out.keep (hb9))
        replace Vd := Kept.mk (Vd.out.keep (hb9))
        clear hb9
        go_wp2
        obtain ⟨qa, ra, ca, sa, ia⟩ := Va.out
        refine atl2_region _ _ _ rfl w.heap.size F0 a2 a3 M qa ra rfl rfl rfl ca ⟨_, _, rfl, sa, ia⟩ FFa.out HM.out MF.out.1 MF.out.2 ?_
        intro f8 W8 d20 hb8
        simp only [List.foldl_cons, List.foldl_nil, d20]
        generalize f8 63 = y63
        generalize f8 64 = y64
        generalize f8 65 = y65
        generalize f8 66 = y66
        generalize f8 67 = y67
        generalize f8 68 = y68
        generalize f8 69 = y69
        generalize f8 70 = y70
        generalize f8 71 = y71
        clear d20
        simp only [List.setIfInBounds_toArray, List.set_cons_succ, List.set_cons_zero]
        clear ca sa ia
        replace hB := Kept.mk (hB.out.trans ((hb8).mono hB.out.size))
        replace Va := Kept.mk (Va.out.keep (hb8))
        replace Vb := Kept.mk (Vb.out.keep (hb8))
        replace Vc := Kept.mk (Vc.out.keep (hb8))
        replace Vd := Kept.mk (Vd.out.keep (hb8))
        clear hb8
        obtain ⟨qc, rc, xc, sc, ic, kc0, kc1, kc2⟩ := Vc.out.open_
        have Xc := Kept.mk xc
        have Sc := Kept.mk sc
        have Ic := Kept.mk ic
        clear xc sc ic
        obtain ⟨qd, rd, xd, sd, id, kd0, kd1, kd2⟩ := Vd.out.open_
        have Xd := Kept.mk xd
        have Sd := Kept.mk sd
        have Id := Kept.mk id
        clear xd sd id
        go_wp2_with fail
        ((with_reducible refine (rsame_at G G true _ _ _ Xc.out Xd.out FG.out FG.out (by simp)).mono ?_); rintro e W8 ⟨rfl, hb1⟩)
        clear Xc Sc Ic kc0 kc1 kc2
        clear Xd Sd Id kd0 kd1 kd2
        replace hB := Kept.mk (hB.out.trans ((hb1).mono hB.out.size))
        replace Va := Kept.mk (Va.out.keep (hb1))
        replace Vb := Kept.mk (Vb.out.keep (hb1))
        replace Vc := Kept.mk (Vc.out.keep (hb1))
        replace Vd := Kept.mk (Vd.out.keep (hb1))
        clear hb1
        obtain ⟨qa, ra, xa, sa, ia, ka0, ka1, ka2⟩ := Va.out.open_
        have Xa := Kept.mk xa
        have Sa := Kept.mk sa
        have Ia := Kept.mk ia
        clear xa sa ia
        obtain ⟨qb, rb, xb, sb, ib, kb0, kb1, kb2⟩ := Vb.out.open_
        have Xb := Kept.mk xb
        have Sb := Kept.mk sb
        have Ib := Kept.mk ib
        clear xb sb ib
        go_wp2_with fail
        ((with_reducible refine (rbelow_at F0 F1 bl _ _ _ Xa.out Xb.out FFa.out FFb.out Hbl.out).mono ?_); rintro e W9 ⟨rfl, hb1⟩)
        clear Xa Sa Ia ka0 ka1 ka2
        clear Xb Sb Ib kb0 kb1 kb2
        replace hB := Kept.mk (hB.out.trans ((hb1).mono hB.out.size))
        replace Va := Kept.mk (Va.out.keep (hb1))
        replace Vb := Kept.mk (Vb.out.keep (hb1))
        replace Vc := Kept.mk (Vc.out.keep (hb1))
        replace Vd := Kept.mk (Vd.out.keep (hb1))
        clear hb1
        obtain ⟨qa, ra, xa, sa, ia, ka0, ka1, ka2⟩ := Va.out.open_
        have Xa := Kept.mk xa
        have Sa := Kept.mk sa
        have Ia := Kept.mk ia
        clear xa sa ia
        obtain ⟨qb, rb, xb, sb, ib, kb0, kb1, kb2⟩ := Vb.out.open_
        have Xb := Kept.mk xb
        have Sb := Kept.mk sb
        have Ib := Kept.mk ib
        clear xb sb ib
        go_wp2_with fail
        ((with_reducible refine (ralike_at F0 F1 al _ _ _ Xa.out Xb.out FFa.out FFb.out Hal.out).mono ?_); rintro e W10 ⟨rfl, hb1⟩)
        clear Xa Sa Ia ka0 ka1 ka2
        clear Xb Sb Ib kb0 kb1 kb2
        replace hB := Kept.mk (hB.out.trans ((hb1).mono hB.out.size))
        replace Va := Kept.mk (Va.out.keep (hb1))
        replace Vb := Kept.mk (Vb.out.keep (hb1))
        replace Vc := Kept.mk (Vc.out.keep (hb1))
        replace Vd := Kept.mk (Vd.out.keep (hb1))
        clear hb1
        obtain ⟨qa, ra, xa, sa, ia, ka0, ka1, ka2⟩ := Va.out.open_
        have Xa := Kept.mk xa
        have Sa := Kept.mk sa
        have Ia := Kept.mk ia
        clear xa sa ia
        obtain ⟨qb, rb, xb, sb, ib, kb0, kb1, kb2⟩ := Vb.out.open_
        have Xb := Kept.mk xb
        have Sb := Kept.mk sb
        have Ib := Kept.mk ib
        clear xb sb ib
        go_wp2_with fail
        ((with_reducible refine (rsame_at F0 F1 sm _ _ _ Xa.out Xb.out FFa.out FFb.out Hsm.out).mono ?_); rintro e W11 ⟨rfl, hb1⟩)
        clear Xa Sa Ia ka0 ka1 ka2
        clear Xb Sb Ib kb0 kb1 kb2
        replace hB := Kept.mk (hB.out.trans ((hb1).mono hB.out.size))
        replace Va := Kept.mk (Va.out.keep (hb1))
        replace Vb := Kept.mk (Vb.out.keep (hb1))
        replace Vc := Kept.mk (Vc.out.keep (hb1))
        replace Vd := Kept.mk (Vd.out.keep (hb1))
        clear hb1
        obtain ⟨qa, ra, xa, sa, ia, ka0, ka1, ka2⟩ := Va.out.open_
        have Xa := Kept.mk xa
        have Sa := Kept.mk sa
        have Ia := Kept.mk ia
        clear xa sa ia
        go_wp2_with fail
        ((with_reducible refine (w_check F0 ce _ _ Xa.out FFa.out Hce.out).mono ?_); rintro e W12 ⟨rfl, hb1⟩)
        clear Xa Sa Ia ka0 ka1 ka2
        replace hB := Kept.mk (hB.out.trans ((hb1).mono hB.out.size))
        replace Va := Kept.mk (Va.out.keep (hb1))
        replace Vb := Kept.mk (Vb.out.keep (hb1))
        replace Vc := Kept.mk (Vc.out.keep (hb1))
        replace Vd := Kept.mk (Vd.out.keep (hb1))
        clear hb1
        obtain ⟨qa, ra, xa, sa, ia, ka0, ka1, ka2⟩ := Va.out.open_
        have Xa := Kept.mk xa
        have Sa := Kept.mk sa
        have Ia := Kept.mk ia
        clear xa sa ia
        go_wp2_with fail
        ((with_reducible refine (findk_at F0 a2 K p _ _ Xa.out FFa.out Hp.out).mono ?_); rintro e W13 ⟨rfl, hb1⟩)
        clear Xa Sa Ia ka0 ka1 ka2
        replace hB := Kept.mk (hB.out.trans ((hb1).mono hB.out.size))
        replace Va := Kept.mk (Va.out.keep (hb1))
        replace Vb := Kept.mk (Vb.out.keep (hb1))
        replace Vc := Kept.mk (Vc.out.keep (hb1))
        replace Vd := Kept.mk (Vd.out.keep (hb1))
        clear hb1
        obtain ⟨qa, ra, xa, sa, ia, ka0, ka1, ka2⟩ := Va.out.open_
        have Xa := Kept.mk xa
        have Sa := Kept.mk sa
        have Ia := Kept.mk ia
        clear xa sa ia
        obtain ⟨qb, rb, xb, sb, ib, kb0, kb1, kb2⟩ := Vb.out.open_
        have Xb := Kept.mk xb
        have Sb := Kept.mk sb
        have Ib := Kept.mk ib
        clear xb sb ib
        go_wp2_with fail
        ((with_reducible refine (w_below F0 F1 bl _ _ _ Xa.out Xb.out FFa.out FFb.out Hbl.out).mono ?_); rintro e W14 ⟨rfl, hb1⟩)
        clear Xa Sa Ia ka0 ka1 ka2
        clear Xb Sb Ib kb0 kb1 kb2
        replace hB := Kept.mk (hB.out.trans ((hb1).mono hB.out.size))
        replace Va := Kept.mk (Va.out.keep (hb1))
        replace Vb := Kept.mk (Vb.out.keep (hb1))
        replace Vc := Kept.mk (Vc.out.keep (hb1))
        replace Vd := Kept.mk (Vd.out.keep (hb1))
        clear hb1
        obtain ⟨qa, ra, xa, sa, ia, ka0, ka1, ka2⟩ := Va.out.open_
        have Xa := Kept.mk xa
        have Sa := Kept.mk sa
        have Ia := Kept.mk ia
        clear xa sa ia
        obtain ⟨qb, rb, xb, sb, ib, kb0, kb1, kb2⟩ := Vb.out.open_
        have Xb := Kept.mk xb
        have Sb := Kept.mk sb
        have Ib := Kept.mk ib
        clear xb sb ib
        go_wp2_with fail
        ((with_reducible refine (w_alike F0 F1 al _ _ _ Xa.out Xb.out FFa.out FFb.out Hal.out).mono ?_); rintro e W15 ⟨rfl, hb1⟩)
        clear Xa Sa Ia ka0 ka1 ka2
        clear Xb Sb Ib kb0 kb1 kb2
        replace hB := Kept.mk (hB.out.trans ((hb1).mono hB.out.size))
        replace Va := Kept.mk (Va.out.keep (hb1))
        replace Vb := Kept.mk (Vb.out.keep (hb1))
        replace Vc := Kept.mk (Vc.out.keep (hb1))
        replace Vd := Kept.mk (Vd.out.keep (hb1))
        clear hb1
        obtain ⟨qa, ra, xa, sa, ia, ka0, ka1, ka2⟩ := Va.out.open_
        have Xa := Kept.mk xa
        have Sa := Kept.mk sa
        have Ia := Kept.mk ia
        clear xa sa ia
        obtain ⟨qb, rb, xb, sb, ib, kb0, kb1, kb2⟩ := Vb.out.open_
        have Xb := Kept.mk xb
        have Sb := Kept.mk sb
        have Ib := Kept.mk ib
        clear xb sb ib
        go_wp2_with fail
        ((with_reducible refine (w_same F0 F1 sm _ _ _ Xa.out Xb.out FFa.out FFb.out Hsm.out).mono ?_); rintro e W16 ⟨rfl, hb1⟩)
        clear Xa Sa Ia ka0 ka1 ka2
        clear Xb Sb Ib kb0 kb1 kb2
        replace hB := Kept.mk (hB.out.trans ((hb1).mono hB.out.size))
        replace Va := Kept.mk (Va.out.keep (hb1))
        replace Vb := Kept.mk (Vb.out.keep (hb1))
        replace Vc := Kept.mk (Vc.out.keep (hb1))
        replace Vd := Kept.mk (Vd.out.keep (hb1))
        clear hb1
        go_wp2
        all_goals go_ret
        all_goals exact ⟨rfl, hB.out⟩
set_option maxRecDepth 100000 in
theorem arenaTells_lifted (os : Os) (started : os.Started) (H : Type) (enc : TypeId × Value → H) :
    ReturnsInHanded {} Tryz.checked os 3 .any (Rows.arenaTellsSpec.pre6 enc Tryz.prog Tryz.f3 Rows.arenaTellsRow.domain false) (Rows.arenaTellsSpec.post enc Tryz.prog Tryz.f3 false true false false) := by
  refine returnsInHanded_of_change (C := Tryz.checked) (by kernel_rfl : ownKnob Tryz.prog.godebug = none) started (by kernel_rfl) Tryz.func3
    (ChangeSpec.witness6 (enc := enc) (C := Tryz.checked) false ⟨#[], #[.agg #[.int .i64 0, .slice none 0 0, .slice none 0 0], .agg #[.int .i64 0, .slice none 0 0, .slice none 0 0], .int .i64 0, .int .i64 0, .string ByteArray.empty], []⟩ 8 (by kernel_rfl) (by kernel_rfl) (by kernel_rfl) (by kernel_rfl)) ?_
  intro W base args ds gs before hval0 hW hcnd _
  have hval : ∀ (j : Nat) t v, Tryz.f3.params[j]? = some t → args[j]? = some v → Value.okWide Tryz.prog W .any base t v := hval0
  have hW' := hW
  obtain ⟨p, q, hA0, hV, rfl, hfz, hnd⟩ := hW
  have hA : DataW.TrodAll enc Tryz.prog W 0 (fun _ => true) true Tryz.f3.params.toList args.toList ds p := hA0
  rw [Tryz.params3] at hA hval
  obtain ⟨v0, vs0, d0, ds0, p0, q0, hargs, rfl, rfl, h0, r0⟩ := trodAll_cons hA
  obtain ⟨v1, vs1, d1, ds1, p1, q1, rfl, rfl, rfl, h1, r1⟩ := trodAll_cons r0
  obtain ⟨v2, vs2, d2, ds2, p2, q2, rfl, rfl, rfl, h2, r2⟩ := trodAll_cons r1
  obtain ⟨v3, vs3, d3, ds3, p3, q3, rfl, rfl, rfl, h3, r3⟩ := trodAll_cons r2
  obtain ⟨v4, vs4, d4, ds4, p4, q4, rfl, rfl, rfl, h4, r4⟩ := trodAll_cons r3
  obtain ⟨rfl, rfl, rfl⟩ := trodAll_nil r4
  obtain rfl : args = #[v0, v1, v2, v3, v4] := by cases args; simp_all
  obtain ⟨rfl, rfl⟩ := trodVars_none hV
  obtain ⟨F0, fl0, w0⟩ := open_ar (hval 0 25 v0 rfl rfl) h0
  have lt0 : ∀ x ∈ p0, x.block < W.heap.size := fun x hx => by obtain ⟨fuel, hf⟩ := h0; exact DataW.trod_lt fuel _ _ _ hf x hx
  obtain ⟨F1, fl1, w1⟩ := open_ar (hval 1 25 v1 rfl rfl) h1
  have lt1 : ∀ x ∈ p1, x.block < W.heap.size := fun x hx => by obtain ⟨fuel, hf⟩ := h1; exact DataW.trod_lt fuel _ _ _ hf x hx
  obtain ⟨a2, rfl, rfl, rfl, w2⟩ := open_int Tryz.underlying3 (hval 2 3 v2 rfl rfl) h2
  obtain ⟨a3, rfl, rfl, rfl, w3⟩ := open_int Tryz.underlying3 (hval 3 3 v3 rfl rfl) h3
  obtain ⟨a4, rfl, rfl, rfl, w4⟩ := open_string Tryz.underlying9 (hval 4 9 v4 rfl rfl) h4
  clear hA0 hval0
  simp only [List.append_nil] at hW'
  refine (arenaTells_walk F0 v0 F1 v1 a2 a3 a4 w0 w1 w2 w3 w4 W fl0 fl1).mono fun e W' ⟨he, bel⟩ => ?_
  subst he
  exact ⟨_, rfl, _, _, _, [], _, [], hW', trodAll_mk1 (shut_bool Tryz.underlying4 _), (trodAll_cons_mk (Below.trod (by kernel_rfl) (by kernel_rfl) (of_decide_eq_true (by kernel_rfl)) h0 bel lt0) (trodAll_cons_mk (Below.trod (by kernel_rfl) (by kernel_rfl) (of_decide_eq_true (by kernel_rfl)) h1 bel lt1) (trodAll_cons_mk (shut_int Tryz.underlying3 w2) (trodAll_cons_mk (shut_int Tryz.underlying3 w3) (trodAll_cons_mk (shut_string Tryz.underlying9 w4) trodAll_mk0))))), rfl, bel.frame _, fun h => by cases h⟩
/-- THE STATEMENT. -/
theorem arenaTells_proved : Rows.ArenaTellsSaid :=
  OpenClaim.holds_of_wide 3 Tryz.f3 rfl rfl rfl rfl rfl rfl rfl ⟨rfl, rfl, rfl, rfl, rfl⟩ rfl rfl rfl rfl rfl (by kernel_rfl) Tryz.func3 (by kernel_rfl)
    (of_decide_eq_true (by kernel_rfl)) (by unfold Func.isWrapper; first | (rw [if_pos (by decide +kernel)]; kernel_rfl) | (rw [if_neg (by decide +kernel)]; exact ⟨rfl, rfl⟩))
    (fun os started H enc _ => arenaTells_lifted os started H enc)
#print axioms arenaTells_proved
end Go.Proofs.YtmbnhlhanckkiaaGreat
